import PyProof.Rows.All
import Wide.All
import OpenK.AllK
import Wide.FinOn
import PyProof.EqAt
import PyProof.EqKinds
import PyProof.TupleCall
import HandS.ForMost
import HandS.Conv
import HandS.Style
import HandS.Deep
import KE.DataFind
import PyProof.ReprRoads
import HandS.Zip
import HandS.Walk
import HandS.Comp
import HandS.DictComp
import HandS.RaiseMore
import PyProof.CallFns
import KE.GoesEnum
import HandS.Star
import HandS.Iter
import HandS.IsInst
import HandS.Strs
import HandS.TupMul
import HandS.TupAny
import PyProof.ZipIter
import HandS.Zip0
import HandS.List
import HandS.TupSets
import HandS.SetBool
import KE.GoesMore
import PyProof.P3In
import PyProof.Rows.InDataRows
import HandS.GenList
import HandS.SetKeys
import HandS.NoneIn
import HandS.SetFor
import HandS.SortRule
import KE.DataMinMax
import HandS.SortKw
import HandS.GenYield
import HandS.Flow
import HandS.RevRange
import KE.KTupSum
import KE.KSuper
import HandS.Nested
import HandS.ClsMeth
import HandS.Property
import HandS.Dict
import KE.SortData
import PySem.Challenge.RW_savelines_k67_whole_tracked_under_rules
set_option Elab.async false
set_option linter.all false
set_option maxRecDepth 100000
namespace Sv
open PySem PySem.Spec PyProof.Rows L2
/-- a def's promise for calls made where no repr runs -/
structure FnG (P : Program) (w : World) (K : PySem.W.Frag) (mg : Str → Option Value) (base : Heap)
    (k : Nat) (f : Addr) (fd : FuncData) (ps : List Str) (sp : Sp) : Prop where
  len : ∀ vs H Q E, sp vs H Q E → vs.length = ps.length
  run : ∀ (A : Around), A.guards = some [] →
    ∀ (outer : List Env) (s : Shared) (H : Hp) (args : Args) (us : List Value) (vs : List V) (Q : VK) (E : XK),
    Room k A → Env0 P w K mg base A outer s H → BindsTo s fd args (ps.zip us) → Vals vs us → sp vs H Q E →
    codeAny (model P w) A (.call (.ref f) args) (CR CX0 outer P w H s Q E) s
section
variable {P : Program} {w : World} {K : PySem.W.Frag} {mg : Str → Option Value} {base : Heap}
/-- the def's body, where no repr runs -/
theorem okG {x qual : Str} {st : Stmt} {f : Addr} {fd : FuncData} {N ps : List Str} {k : Nat} {sp : Sp}
    (F : Fun K x qual st f fd) (S : FnScope N ps (defScope st)) (len : ∀ vs H Q E, sp vs H Q E → vs.length = ps.length)
    (hbody : ∀ (cdv : Value) (A : Around) (outer : List Env) (s : Shared) (H : Hp) (vs : List V) (Q : VK) (E : XK),
      A.guards = some [] → Room k (A.deeper (envOfC qual (defScope st) s.heap.objs.size f cdv)) → sp vs H Q E →
      ∃ t, PSs (cxOf CX0 P w K mg base N qual (defScope st) f cdv A outer s H E).nox (defBody st) t ∧
        t { nx := fun _ H' => Q .non H', rt := Q } (start N vs) H) :
    FnG P w K mg base (k + 1) f fd ps sp := by
  obtain ⟨oc, od, kV, doc, pm, an, cdv, ct, osl, rfl, lk, hcd⟩ := F.ex
  refine ⟨len, fun A hg outer s H args us vs Q E hr e0 hb r hsp => ?_⟩
  have hl := len vs H Q E hsp
  have KX : K.In s.heap := e0.mod.kin.keeps fun b o e => And.left (e0.bs b o e)
  have lim := e0.mod.nolimit.keeps fun b o e => And.left (e0.bs b o e)
  have hkind : ∀ y ∈ ps.zip us, (defScope st).names.lookup y.1 = some .local ∨
      ((defScope st).names.lookup y.1 = some .cell ∧
        ((cellsFrom (s.heap.objs.size + 1) (defScope st).names []).lookup y.1).isSome = true) := by
    rintro ⟨n, v⟩ hy
    cases S.par n (List.of_mem_zip hy).1 with
    | inl q => exact Or.inl q
    | inr q => exact Or.inr ⟨q, PySem.W.cellsFrom_some _ _ _ (Or.inl q)⟩
  refine codeAny_call_function hr.depth (KX _ _ lk) rfl S.co S.gen rfl (PySem.W.codeRec_of KX hcd) (hb _ _ _ _ ?_)
  refine wpAny_newFunctionEnv_cells S.kind hkind fun env he s1 X1 => ?_
  subst he
  refine ⟨lim.keeps X1.toInCall.keep, codeAny_func ?_⟩
  obtain ⟨t, ht0, hq⟩ := hbody cdv A outer s H vs Q E hg (hr.deeper _) hsp
  have ht := ht0.nox
  have I0 := inv_start (CX := CX0) (E := E) S hr.hd e0 hl r X1
  refine wpAny_mono (ht.run [] s1 (start N vs) H _ I0 hq) (fun fl s' hs => ?_) (fun e s' hs => hs)
  cases fl with
  | ret u =>
    obtain ⟨v, σ', H', J, rv, q⟩ := hs
    exact ⟨v, H', J.os, J.bare, J.base, J.hok, rv, q⟩
  | next =>
    obtain ⟨σ', H', J, q⟩ := hs
    exact ⟨V.non, H', J.os, J.bare, J.base, J.hok, rfl, q⟩
  | brk =>
    obtain ⟨σ', H', J, q⟩ := hs
    exact q.elim
  | cont =>
    obtain ⟨σ', H', J, q⟩ := hs
    exact q.elim
end
def TupN (H : Hp) (a : Addr) (xs : List V) : Prop := ∃ o : Obj, H a = some (.frz o (.tup xs)) ∧ o.dict = none
theorem TupN.sqT {K : PySem.W.Frag} {H : Hp} {a : Addr} {xs : List V} (h : TupN H a xs) : SqT K H a xs := by
  obtain ⟨o, h, _⟩ := h
  exact .inl (.inr ⟨o, h⟩)
theorem TupN.new {H : Hp} {p : Addr} {o : Obj} {xs : List V} (d : o.dict = none) : TupN (upd H p (.frz o (.tup xs))) p xs := ⟨o, upd_same, d⟩
section
variable {X : Cx} {es : List Expr} {t : TA} {pos : Pos}
def tTupF (t : TA) : TE := fun σ H Q => t σ H fun xs H1 => xs.length ≤ sizeLine ∧ ∀ (p : Addr) (o : Obj), H1 p = none → o.dict = none → Q (.ref p) (upd H1 p (.frz o (.tup xs)))
theorem pe_tupF {x1} (h : PA X es t) : PE X (.Tuple es x1 pos) (tTupF t) := by
  refine ⟨fun pins s σ H Q I hq => ?_⟩
  refine wpAny_Tuple_spliced (thn (h.run pos pins s σ H _ I hq) fun us s1 ⟨xs, H1, I1, r, z, q⟩ => ⟨r.length ▸ z, ?_⟩)
  have hf : H1 s1.heap.objs.size = none := I1.hok.fresh (Nat.le_refl _)
  have hg := Heap.get?_push_size s1.heap (o := { cls := .type "tuple", data := .seq us.toArray }) rfl
  refine ⟨.ref s1.heap.objs.size, _, I1.laid (t' := s1.toks) (o := .frz { cls := .type "tuple", data := .seq us.toArray } (.tup xs)) (fun b u e => Heap.get?_push_of_some _ e) (Nat.le_refl _) ?_, rfl, q _ _ hf rfl⟩
  exact ⟨hg, z, us, r, ⟨_, hg, rfl, _, rfl⟩⟩
/-- a method of such a tuple, called with arguments -/
def tTM (r : V → List V → Hp → VK → Prop) (to : TE) (t : TA) : TE := fun σ H Q => to σ H fun x H1 => (∃ p xs, x = .ref p ∧ TupN H1 p xs) ∧ t σ H1 fun vs H2 => r x vs H2 Q
theorem pe_tm {name : Str} {id : String} {o e : Expr} {to : TE} {r : V → List V → Hp → VK → Prop} {apos cpos : Pos} (slot : Slot "tuple" name id) (hty : typeOf (.builtin id) = pure (.type "method_descriptor")) (hm : MtR X id r) (ho : PE X o to) (ha : PA X (e :: es) t)
    (hbase : attributeBase o name X.env (eval o X.env) = eval o X.env := by rfl)
    (hfew : ((backTo cpos (starEach (e :: es) X.env)).all (fun x => !x.1) && (backToKw cpos (keywordEach [] X.env)).all (fun x => x.1.isSome)
      && decide ((e :: es).length + ([] : List Keyword).length + (if ([] : List Keyword).isEmpty then 0 else 1) < 30)) = true := by rfl)
    (hline : (apos.endLine == cpos.line) = true := by rfl) (hs : starEach (e :: es) X.env = (false, eval e X.env) :: starEach es X.env := by rfl) (hplain : (backTo cpos (starEach es X.env)).any (·.1) = false := by rfl) :
    PE X (.Call (.Attribute o name apos) (e :: es) [] cpos) (tTM r to t) := by
  refine ⟨fun pins s σ H Q I h => ?_⟩
  refine wpAny_Call_method_late hbase hfew hline rfl (thn (ho.run pins s σ H _ I h) fun v s1 ⟨x, H1, I1, r1, ty, q1⟩ => ?_)
  obtain ⟨p, xs, rfl, ob, hob, hdi⟩ := ty
  cases r1
  obtain ⟨g1, hz, its, rv, ot, g2, hc, _⟩ := I1.hok p _ hob
  obtain rfl : ot = ob := Option.some.inj (g2.symm.trans g1)
  refine ⟨"tuple", id, PySem.F.plainAttrs_tuple, slot, hty, ⟨ot, g1, hc⟩, fun a e => ?_, ?_⟩
  · cases e
    exact ⟨ot, g1, hdi⟩
  have hA := ha.run cpos pins s1 σ H1 _ I1 q1
  rw [hs] at hA ⊢
  refine Calls.callWith_builtin (by show (false || (backTo cpos (starEach es X.env)).any (·.1)) = false; rw [hplain] <;> rfl) (Calls.evalArgs_plain ?_)
  exact thn hA fun us s2 ⟨vs, H2, I2, r2, q2⟩ => hm pins s2 σ H2 (.ref p) vs (.ref p) us Q I2 rfl r2 q2
end
section
variable {X : Cx}
def rRemD (K : PySem.W.Frag) : V → List V → Hp → VK → Prop := fun x args H Q => ∃ (l : Addr) (y : V) (d : PyData) (xs : List V) (ds : List PyData) (j : Nat),
  x = .ref l ∧ args = [y] ∧ H l = some (.lst xs) ∧ DpAll K H xs ds ∧ Dp K H y d ∧ PyData.plainAll ds = true ∧ d.plain = true ∧ d.depth ≤ 60 ∧
  SeqAt.dataPlace ds d = some j ∧ Q .non (upd H l (.lst (xs.eraseIdx j)))
theorem mt_removeD (hu : X.A.units + 64 < cLine) : MtR X "list.remove" (rRemD X.K) := by
  intro pins s σ H x args v us Q I rx ra h
  obtain ⟨l, y, d, xs, ds, j, rfl, rfl, hH, hds, hd, p1, p2, p3, hj, q⟩ := h
  cases rx
  obtain ⟨u, rfl, ru⟩ := vals1 ra
  obtain ⟨z, its, n, r, hl, e⟩ := I.lstM hH
  obtain ⟨as, R1⟩ := Dp.readsAll I ds xs its hds r
  obtain ⟨bs, R2⟩ := Dp.reads I d y u hd ru
  refine SeqAt.remove_list_data (vs := its.toArray) ⟨_, e, rfl, n, rfl⟩ R1 R2 p1 p2 (by omega) hj (by rw [List.size_toArray, ← hl]; exact z) ?_
  refine ⟨.non, _, I.lset (its' := its.eraseIdx j) (t' := s.toks) hH e ?_ (r.eraseIdx j) ?_, rfl, q⟩
  · show its.toArray.eraseIdxIfInBounds j = (its.eraseIdx j).toArray
    rw [List.eraseIdxIfInBounds_toArray]
  · have := List.length_eraseIdx_le xs j
    omega
end
def iD (ns : List Int) : List PyData := ns.map PyData.int
section
variable {K : PySem.W.Frag} {H : Hp}
theorem dp_ints : ∀ ns : List Int, DpAll K H (ns.map V.int) (iD ns)
  | [] => .nil
  | n :: r => .cons (.int n) (dp_ints r)
end
theorem iD_lay : ∀ ns : List Int, PyData.canLayAll0 (iD ns) = true
  | [] => by simp [iD, PyData.canLayAll0]
  | n :: r => by
    have h := iD_lay r
    simp only [iD, List.map_cons, PyData.canLayAll0, PyData.canLay0] at h ⊢
    rw [h]
    rfl
theorem iD_depth : ∀ ns : List Int, PyData.depthAll (iD ns) = 0
  | [] => by simp [iD, PyData.depthAll]
  | n :: r => by
    have h := iD_depth r
    simp only [iD, List.map_cons, PyData.depthAll, PyData.depth] at h ⊢
    rw [h]
    rfl
theorem shaped_lst (ns : List Int) : SeqAt.shaped (.list (iD ns)) = true := by
  have h1 := iD_lay ns
  have h2 := iD_depth ns
  show (PyData.canLay0 (.list (iD ns)) && decide (PyData.depth (.list (iD ns)) ≤ 64)) = true
  simp only [PyData.canLay0, PyData.depth, h1, h2, Bool.true_and]
  decide
theorem shaped_tup (ns : List Int) : SeqAt.shaped (.tuple (iD ns)) = true := by
  have h1 := iD_lay ns
  have h2 := iD_depth ns
  show (PyData.canLay0 (.tuple (iD ns)) && decide (PyData.depth (.tuple (iD ns)) ≤ 64)) = true
  simp only [PyData.canLay0, PyData.depth, h1, h2, Bool.true_and]
  decide
theorem eqv_nil (ds : List PyData) : PyData.eqv (.list ds) (.list []) = ds.isEmpty := by
  cases ds <;> simp [PyData.eqv, PyData.eqvAll]
def Kp (a b : Addr) (H H' : Hp) : Prop := ∀ c o, c ≠ a → c ≠ b → H c = some o → H' c = some o
theorem Kp.refl {a b : Addr} (H : Hp) : Kp a b H H := fun _ _ _ _ h => h
theorem Kp.trans {a b : Addr} {H H1 H2 : Hp} (x : Kp a b H H1) (y : Kp a b H1 H2) : Kp a b H H2 := fun c o h1 h2 h => y c o h1 h2 (x c o h1 h2 h)
theorem Kp.of {a b : Addr} {H H' : Hp} (h : Same H H') : Kp a b H H' := fun c o _ _ e => h c o e
theorem Kp.new {a b : Addr} {H : Hp} {p : Addr} {o : HO} (h : H p = none) : Kp a b H (upd H p o) := fun c u _ _ e => by
  rw [upd_ne (ne_of_none e h)]
  exact e
theorem Kp.put {a b : Addr} {H : Hp} {p : Addr} {o : HO} (h : p = a ∨ p = b) : Kp a b H (upd H p o) := fun c u h1 h2 e => by
  rw [upd_ne (by rcases h with rfl | rfl <;> assumption)]
  exact e
theorem Same.new {H : Hp} {p : Addr} {o : HO} (h : H p = none) : Same H (upd H p o) := fun c u e => by
  rw [upd_ne (ne_of_none e h)]
  exact e
end Sv
namespace Sv
open PySem PySem.Spec PyProof.Rows L2
section
variable {X : Cx}
def rTupF (K : PySem.W.Frag) : List V → Hp → VK → Prop := fun xs H Q => ∃ p ys, xs = [.ref p] ∧ SqL K H p ys ∧ ∀ (l : Addr) (o : Obj), H l = none → o.dict = none → Q (.ref l) (upd H l (.frz o (.tup ys)))
theorem call_tupleF : CallR X (.type "tuple") (rTupF X.K) := by
  intro pins s σ H xs us Q I r h
  obtain ⟨p, ys, rfl, hq, q⟩ := h
  obtain ⟨u, rfl, rx⟩ := vals1 r
  cases rx
  obtain ⟨its, r', pl, hz⟩ := I.list hq
  have hlen := r'.length
  refine call_tuple_list pl.isList (fun h' kp => ?_) (by simp only [List.size_toArray] <;> omega)
  have I1 : Inv X pins σ H { s with heap := h' } := I.kept (t' := s.toks) kp
  have hg := Heap.get?_push_size h' (o := { cls := .type "tuple", data := .seq its.toArray }) rfl
  refine ⟨.ref h'.objs.size, _, I1.laid (t' := s.toks) (o := .frz { cls := .type "tuple", data := .seq its.toArray } (.tup ys)) (fun b o e => Heap.get?_push_of_some _ e) (Nat.le_refl _) ?_, rfl, q _ _ (I1.hok.fresh (Nat.le_refl _)) rfl⟩
  exact ⟨hg, hz, its, r', ⟨_, hg, rfl, _, rfl⟩⟩
end
end Sv
namespace Sv
open PySem PySem.Spec PyProof.Rows L2
section
variable {J : It} {n : Nat} {G : Hp → Prop} {Y : Nat → Hp → V → Hp → Prop}
/-- the outer one -/
theorem lc2_out (w : Walk J n G Y) {g : TG} {tt : TT} {wi1 : TI} {g1 : TG} {tt1 : TT} {te : TE} {vs vs1 : List Nat} {σ : L2.St} {H1 : Hp} {D : Addr} {Qd : Hp → Prop} (Pv : Nat → Hp → Prop) (h0 : Pv 0 (upd H1 D (.lst []))) (hG : ∀ i H, i ≤ n → Pv i H → G H)
    (hs : ∀ i x H H', i < n → Pv i H → Y i H x H' → g x (wipe σ vs) H' fun σ2 H2 => wipe σ2 vs = wipe σ vs ∧ tt σ2 H2 fun b H3 =>
      if b = true then wi1 σ2 H3 fun J1 H4 => ∃ W1 : Nat → Nat → Hp → Prop, (∃ m, W1 0 m H4) ∧ ∀ j k H, W1 j k H →
        (J1.stop j H ∧ Pv (i + 1) H) ∨ (J1.go j H ∧ ∃ Nx1 : Hp → Prop, (∀ H', Nx1 H' → ∃ k', k' < k ∧ W1 (j + 1) k' H') ∧ ∀ x H', J1.yld j H x H' → g1 x (wipe σ2 vs1) H' fun σ3 H5 => wipe σ3 vs1 = wipe σ2 vs1 ∧ tt1 σ3 H5 fun b H6 =>
          if b = true then te σ3 H6 fun y H7 => ∃ acc, H7 D = some (.lst acc) ∧ acc.length < sizeLine ∧ Nx1 (upd H7 D (.lst (acc ++ [y]))) else Nx1 H6)
      else Pv (i + 1) H3) (hd : ∀ H, Pv n H → Qd H) :
    ∃ W : Nat → Nat → Hp → Prop, (∃ m, W 0 m (upd H1 D (.lst []))) ∧ ∀ i m H, W i m H →
      (J.stop i H ∧ Qd H) ∨ (J.go i H ∧ ∃ Nx : Hp → Prop, (∀ H', Nx H' → ∃ m', m' < m ∧ W (i + 1) m' H') ∧ ∀ x H', J.yld i H x H' → g x (wipe σ vs) H' fun σ2 H2 => wipe σ2 vs = wipe σ vs ∧ tt σ2 H2 fun b H3 =>
        if b = true then wi1 σ2 H3 fun J1 H4 => ∃ W1 : Nat → Nat → Hp → Prop, (∃ m, W1 0 m H4) ∧ ∀ j k H, W1 j k H →
          (J1.stop j H ∧ Nx H) ∨ (J1.go j H ∧ ∃ Nx1 : Hp → Prop, (∀ H', Nx1 H' → ∃ k', k' < k ∧ W1 (j + 1) k' H') ∧ ∀ x H', J1.yld j H x H' → g1 x (wipe σ2 vs1) H' fun σ3 H5 => wipe σ3 vs1 = wipe σ2 vs1 ∧ tt1 σ3 H5 fun b H6 =>
            if b = true then te σ3 H6 fun y H7 => ∃ acc, H7 D = some (.lst acc) ∧ acc.length < sizeLine ∧ Nx1 (upd H7 D (.lst (acc ++ [y]))) else Nx1 H6)
        else Nx H3) := by
  refine ⟨fun i m H => m = n - i ∧ i ≤ n ∧ Pv i H, ⟨n, by simp, Nat.zero_le _, h0⟩, ?_⟩
  rintro i m H ⟨rfl, hi, p⟩
  have q := hG i H hi p
  by_cases hlt : i < n
  · refine .inr ⟨w.goes i H hlt q, Pv (i + 1), fun H' p' => ⟨n - (i + 1), by omega, rfl, hlt, p'⟩, fun x H' y => hs i x H H' hlt p (w.yields i H x H' hlt q y)⟩
  · have e : i = n := by omega
    subst e
    exact .inl ⟨w.stops H q, hd H p⟩
/-- the inner one -/
theorem lc2_in (w : Walk J n G Y) {g1 : TG} {tt1 : TT} {te : TE} {vs1 : List Nat} {σ2 : L2.St} {H4 : Hp} {D : Addr} {R : Hp → Prop} (Pv : Nat → Hp → Prop) (h0 : Pv 0 H4) (hG : ∀ i H, i ≤ n → Pv i H → G H)
    (hs : ∀ i x H H', i < n → Pv i H → Y i H x H' → g1 x (wipe σ2 vs1) H' fun σ3 H5 => wipe σ3 vs1 = wipe σ2 vs1 ∧ tt1 σ3 H5 fun b H6 =>
      if b = true then te σ3 H6 fun y H7 => ∃ acc, H7 D = some (.lst acc) ∧ acc.length < sizeLine ∧ Pv (i + 1) (upd H7 D (.lst (acc ++ [y]))) else Pv (i + 1) H6) (hd : ∀ H, Pv n H → R H) :
    ∃ W1 : Nat → Nat → Hp → Prop, (∃ m, W1 0 m H4) ∧ ∀ j k H, W1 j k H →
      (J.stop j H ∧ R H) ∨ (J.go j H ∧ ∃ Nx1 : Hp → Prop, (∀ H', Nx1 H' → ∃ k', k' < k ∧ W1 (j + 1) k' H') ∧ ∀ x H', J.yld j H x H' → g1 x (wipe σ2 vs1) H' fun σ3 H5 => wipe σ3 vs1 = wipe σ2 vs1 ∧ tt1 σ3 H5 fun b H6 =>
        if b = true then te σ3 H6 fun y H7 => ∃ acc, H7 D = some (.lst acc) ∧ acc.length < sizeLine ∧ Nx1 (upd H7 D (.lst (acc ++ [y]))) else Nx1 H6) := by
  refine ⟨fun i m H => m = n - i ∧ i ≤ n ∧ Pv i H, ⟨n, by simp, Nat.zero_le _, h0⟩, ?_⟩
  rintro i m H ⟨rfl, hi, p⟩
  have q := hG i H hi p
  by_cases hlt : i < n
  · refine .inr ⟨w.goes i H hlt q, Pv (i + 1), fun H' p' => ⟨n - (i + 1), by omega, rfl, hlt, p'⟩, fun x H' y => hs i x H H' hlt p (w.yields i H x H' hlt q y)⟩
  · have e : i = n := by omega
    subst e
    exact .inl ⟨w.stops H q, hd H p⟩
end
end Sv
namespace Sv
open PySem PySem.Spec PyProof.Rows L2
section
variable {J : It} {n : Nat} {G : Hp → Prop} {Y : Nat → Hp → V → Hp → Prop}
theorem dc_it (w : Walk J n G Y) {g : TG} {tt : TT} {tk tv : TE} {vs : List Nat} {σ : L2.St} {H1 : Hp} {D : Addr} {Qd : Hp → Prop} (Pv : Nat → Hp → Prop) (h0 : Pv 0 (upd H1 D (.dK []))) (hG : ∀ i H, i ≤ n → Pv i H → G H)
    (hs : ∀ i x H H', i < n → Pv i H → Y i H x H' → g x (wipe σ vs) H' fun σ2 H2 => wipe σ2 vs = wipe σ vs ∧ tt σ2 H2 fun b H3 =>
      if b = true then tk σ2 H3 fun y H4 => tv σ2 H4 fun z H5 => ∃ kvs k, y = kV k ∧ H5 D = some (.dK kvs) ∧ kvs.length < sizeLine ∧ Pv (i + 1) (upd H5 D (.dK (putK kvs k z))) else Pv (i + 1) H3) (hd : ∀ H, Pv n H → Qd H) :
    ∃ W : Nat → Nat → Hp → Prop, (∃ m, W 0 m (upd H1 D (.dK []))) ∧ ∀ i m H, W i m H →
      (J.stop i H ∧ Qd H) ∨ (J.go i H ∧ ∃ Nx : Hp → Prop, (∀ H', Nx H' → ∃ m', m' < m ∧ W (i + 1) m' H') ∧ ∀ x H', J.yld i H x H' → g x (wipe σ vs) H' fun σ2 H2 => wipe σ2 vs = wipe σ vs ∧ tt σ2 H2 fun b H3 =>
        if b = true then tk σ2 H3 fun y H4 => tv σ2 H4 fun z H5 => ∃ kvs k, y = kV k ∧ H5 D = some (.dK kvs) ∧ kvs.length < sizeLine ∧ Nx (upd H5 D (.dK (putK kvs k z))) else Nx H3) := by
  refine ⟨fun i m H => m = n - i ∧ i ≤ n ∧ Pv i H, ⟨n, by simp, Nat.zero_le _, h0⟩, ?_⟩
  rintro i m H ⟨rfl, hi, p⟩
  have q := hG i H hi p
  by_cases hlt : i < n
  · refine .inr ⟨w.goes i H hlt q, Pv (i + 1), fun H' p' => ⟨n - (i + 1), by omega, rfl, hlt, p'⟩, fun x H' y => hs i x H H' hlt p (w.yields i H x H' hlt q y)⟩
  · have e : i = n := by omega
    subst e
    exact .inl ⟨w.stops H q, hd H p⟩
end
end Sv
namespace PySem
open Sem (wp)
set_option maxHeartbeats 1000000 in
theorem sv_enum_new {v : Value} {o : Obj} {H : Heap → Prop} (B : Begins v o H) :
    Meets (Builtin.«enumerate.__new__» ⟨[.type "enumerate", v], []⟩)
      (fun _ R s => H s.heap ∧ R (.ok (.ret (.ref (s.heap.push o).objs.size)))
        { s with heap := Heap.push (Heap.push s.heap o) { cls := .type "enumerate", data := .fields #[.none, .bool false, .ref s.heap.objs.size, rawInt 0, .none, .none] } }) := by
  refine .of_wp fun prog w A R s h => ?_
  obtain ⟨hp, g, d, tk, os⟩ := s
  obtain ⟨h1, h⟩ := h
  have hsub := sub_enumerate
  have q1 : ∀ {A' : Around} {E' : Value → Shared → Prop} {Q' : Value → Shared → Prop},
      Q' (.ref hp.objs.size) ⟨hp.push o, g, d, tk, os⟩ → wpAny (model prog w) A' (pyIter v) Q' E' ⟨hp, g, d, tk, os⟩ :=
    fun q => B.iter prog w _ _ ⟨hp, g, d, tk, os⟩ _ h1 q
  wp_walk using q1
  refine wpAny_stack_any fun st => wpAny_pure ?_
  split
  · rename_i c _ _ _ _ _
    cases hcc : (c == Value.type "enumerate") <;> (wp_walk using q1; exact ⟨_, rfl, h⟩)
  · wp_walk using q1
    exact ⟨_, rfl, h⟩
section
variable {prog : Program} {w : World} {A : Around} {E : Value → Shared → Prop} {s : Shared}
theorem sv_enum_call {v : Value} {o : Obj} {H : Heap → Prop} {Q : Value → Shared → Prop} (B : Begins v o H) (h1 : H s.heap)
    (h : ∀ h', IsEnum h' (s.heap.objs.size + 1) s.heap.objs.size 0 .none → h'.get? s.heap.objs.size = some o →
      (∀ b u, s.heap.get? b = some u → h'.get? b = some u) → Q (.ref (s.heap.objs.size + 1)) { s with heap := h' }) :
    wpAny (model prog w) A (call (.type "enumerate") [v]) Q E s := by
  refine callType_new F.called_enumerate (by decide) (F.typeCall_enumerate_1 _) (F.newCall_enumerate_1 _)
    (fun obj => F.args_object_init_2 obj _) F.entry_enumerate_new (sv_enum_new B) ⟨h1, ?_⟩
  have hz : (s.heap.push o).objs.size = s.heap.objs.size + 1 := Heap.size_push ..
  show _ ∧ _
  rw [hz]
  have he := Heap.get?_push_size (s.heap.push o)
    (o := { cls := .type "enumerate", data := .fields #[.none, .bool false, .ref s.heap.objs.size, rawInt 0, .none, .none] }) rfl
  rw [hz] at he
  exact ⟨⟨_, he, rfl⟩, h _ he (Heap.get?_push_of_some _ (Heap.get?_push_size _ B.free))
    fun b u x => Heap.get?_push_of_some _ (Heap.get?_push_of_some _ x)⟩
end
end PySem
namespace Sv
open PySem PySem.Spec PyProof.Rows L2
/-- a tuple's items, each in a new pair with its number -/
def Itte (K : PySem.W.Frag) (a : Addr) (xs : List V) : It where
  go := fun i H => SqT K H a xs ∧ i < xs.length
  yld := fun i H v H' => ∃ T x, v = .ref T ∧ H T = none ∧ H' = upd H T (.tup [.int (i : Nat), x]) ∧ xs[i]? = some x
  stop := fun i H => SqT K H a xs ∧ i = xs.length
theorem turn_etup {P : Program} {w : World} {K : PySem.W.Frag} {elts : List Expr} {kk : Nat} {tpos : Pos} (a e it : Addr) (xs : List V) :
    Turn P w K (.Tuple elts kk tpos) (Itte K a xs) [e, it] e
      (fun i h => (∃ old, IsEnum h e it ((i : Nat) : Int) old) ∧ h.IsTupleIter it a i ∧ e ≠ it ∧ a ≠ it ∧ a ≠ e) where
  mem := by simp
  obj := fun i h st b hb => by
    obtain ⟨⟨old, he⟩, ⟨o, ho, hc, hd⟩, _⟩ := st
    rcases (show b = e ∨ b = it by simpa using hb) with rfl | rfl
    · exact ⟨_, he, fun v q => nomatch q⟩
    · exact ⟨o, ho, fun v q => by rw [hd] at q; cases q⟩
  keep := fun i h h' st k => by
    obtain ⟨⟨old, he⟩, hi, hr⟩ := st
    exact ⟨⟨old, k e (by simp) _ he⟩, hi.at fun o q => k it (by simp) o q, hr⟩
  item := by
    intro X hP hw hK hc i pins s σ H E I hf st hg
    subst hP hw hK
    obtain ⟨⟨old, he⟩, hit, hne, hai, hae⟩ := st
    obtain ⟨hq, hi⟩ := hg
    obtain ⟨its, rv, p, hz⟩ := I.tuple hq
    have hlen := rv.length
    have hel : e < s.heap.objs.size := Heap.lt_size he
    have hil : it < s.heap.objs.size := by
      obtain ⟨_, q, _⟩ := hit
      exact Heap.lt_size q
    have D : Draws X.prog X.w X.A.in1 it [it, a] its.toArray.size (fun i v => its.toArray[i]? = some v)
        (fun i h => h.IsTupleIter it a i ∧ h.IsTuple a its.toArray) := Draws.tuple (A := X.A.in1) (show X.A.in1.handled = none from I.ok.hd hc) it a hai its.toArray
    refine wpAny_pyNext_enum_itemD D he ⟨hit, p⟩ (by rw [List.size_toArray]; omega) hne (by simp [hne, Ne.symm hae]) fun u h' tk hPu ho hst hT hsz hk => ?_
    refine ⟨_, rfl, wpAny_letOwnedTupleGo_enum (s := { s with heap := h', toks := tk + 1 }) ho fun h'' he' sb => ?_⟩
    obtain ⟨x, hx⟩ : ∃ x, xs[i]? = some x := ⟨_, List.getElem?_eq_getElem hi⟩
    obtain ⟨u', hu', ru⟩ := rv.get hx
    have hPu' : its[i]? = some u := by simpa using hPu
    obtain rfl : u' = u := Option.some.inj (hu'.symm.trans hPu')
    have hT2 : h''.get? s.heap.objs.size = some { cls := .type "tuple", data := .seq #[.int i tk, u'] } := (sb.2 _ (Nat.ne_of_gt hel)).trans hT
    have new : ObjOk X.prog X.w (upd H s.heap.objs.size (.tup [.int (i : Nat), x])) h'' s.heap.objs.size (.tup [.int (i : Nat), x]) := by
      refine ⟨?_, [.int i tk, u'], .cons ⟨_, rfl⟩ (.cons ru .nil), ⟨_, hT2, rfl, _, rfl⟩⟩
      show 2 ≤ sizeLine
      decide
    have I1 : Inv X pins σ (upd H s.heap.objs.size (.tup [.int (i : Nat), x])) { s with heap := h'', toks := tk + 1 } := by
      refine I.turnedNew (ch := [e, it]) (fun b ob hb q => ?_) hf (Nat.le_refl _) new
      have nb : b ≠ e ∧ b ≠ it := by simpa using hb
      exact (sb.2 b nb.1).trans (hk b ob nb.1 nb.2 q)
    refine ⟨.ref s.heap.objs.size, _, I1, rfl, ⟨_, x, rfl, I.hok.fresh (Nat.le_refl _), rfl, hx⟩,
      ⟨⟨u', ?_⟩, hst.1.at fun o q => (sb.2 it (Ne.symm hne)).trans q, hne, hai, hae⟩, fun b hb => ?_⟩
    · have e1 : ((i + 1 : Nat) : Int) = (i : Int) + 1 := by omega
      rw [e1]
      exact he'
    · have hb' : b < s.heap.objs.size := by
        rcases (show b = e ∨ b = it by simpa using hb) with rfl | rfl <;> assumption
      rw [upd_ne (Nat.ne_of_lt hb')]
      exact (hf b hb).1
  done := by
    intro X hP hw hK hc i pins s σ H E I hf st hg
    subst hP hw hK
    obtain ⟨⟨old, he⟩, hit, hne, hai, hae⟩ := st
    obtain ⟨hq, hi⟩ := hg
    obtain ⟨its, rv, p, hz⟩ := I.tuple hq
    have hlen := rv.length
    obtain ⟨f0, f1, f2, f3, f4, f5⟩ := hf it (by simp)
    have D : Draws X.prog X.w X.A.in1 it [it, a] its.toArray.size (fun i v => its.toArray[i]? = some v)
        (fun i h => h.IsTupleIter it a i ∧ h.IsTuple a its.toArray) := Draws.tuple (A := X.A.in1) (show X.A.in1.handled = none from I.ok.hd hc) it a hai its.toArray
    have hi2 : i = its.toArray.size := by
      rw [List.size_toArray]
      omega
    have hit2 : s.heap.IsTupleIter it a its.toArray.size := hi2 ▸ hit
    exact wpAny_pyNext_enum_endD D he ⟨hit2, p⟩ fun h' eb => ⟨rfl, I.turned (t' := s.toks) (fun b o hb q => eb b o hb q) f0 f1 f3 f4 f5⟩
  self := fun A i s Q E st h => by
    obtain ⟨⟨_, he⟩, _⟩ := st
    exact wpAny_pyIter_enum he h
section
variable {X : Cx}
def rTcount (K : PySem.W.Frag) : V → List V → Hp → VK → Prop := fun x args H Q => ∃ (p : Addr) (ns : List Int) (k : Int), x = .ref p ∧ args = [.int k] ∧ SqT K H p (ns.map V.int) ∧ Q (.int (ns.count k : Nat)) H
/-- t.count(k), t a tuple of ints -/
theorem mt_tcount (hu : X.A.units + 64 < cLine) : MtR X "tuple.count" (rTcount X.K) := by
  intro pins s σ H x args v us Q I rx ra h
  obtain ⟨p, ns, k, rfl, rfl, hs, q⟩ := h
  cases rx
  obtain ⟨u, rfl, ru⟩ := vals1 ra
  obtain ⟨t, rfl⟩ := ru
  obtain ⟨its, rv, p1, hz⟩ := I.tuple hs
  obtain ⟨as, R1⟩ := Dp.readsAll I (iD ns) (ns.map V.int) its (dp_ints ns) rv
  have hpl : ∀ ns : List Int, PyData.plainAll (iD ns) = true := by
    intro ns
    induction ns with
    | nil => rfl
    | cons n r ih => exact ih
  have hcnt : ((iD ns).countP fun y => PyData.eqv y (.int k)) = ns.count k := by
    clear R1 rv hs hz q
    induction ns with
    | nil => rfl
    | cons n r ih =>
      have e : PyData.eqv (.int n) (.int k) = (n == k) := by simp only [PyData.eqv]
      simp only [iD, List.map_cons, List.countP_cons, List.count_cons] at ih ⊢
      rw [ih, e]
  refine SeqAt.count_tuple_data (vs := its.toArray) p1 R1 (Reads.int k t) (hpl ns) rfl ?_ ?_
  · have : min (PyData.depthAll (iD ns)) (PyData.int k).depth ≤ 0 := Nat.min_le_right _ _
    omega
  · rw [hcnt]
    exact ⟨.int (ns.count k : Nat), H, I.tok _, ⟨_, rfl⟩, q⟩
end
end Sv
namespace Sv
open PySem PySem.Spec PyProof.Rows L2
theorem idx_lt : ∀ {ns : List Int} {k : Int} {m : Nat}, m < ns.idxOf k → ns[m]? ≠ some k
  | [], k, m, h => by simp at h
  | n :: r, k, m, h => by
    rw [List.idxOf_cons] at h
    by_cases e : n = k
    · subst e
      simp at h
    · have e1 : (n == k) = false := beq_eq_false_iff_ne.mpr e
      rw [e1] at h
      cases m with
      | zero => exact fun z => e (Option.some.inj z)
      | succ m => exact fun z => idx_lt (ns := r) (m := m) (by simpa using h) z
theorem flat_ints (ns : List Int) : (ns.map V.int).all flatV = true := by
  rw [List.all_map]
  exact List.all_eq_true.mpr fun _ _ => rfl
section
variable {X : Cx}
def rTindex (K : PySem.W.Frag) : V → List V → Hp → VK → Prop := fun x args H Q => ∃ (p : Addr) (ns : List Int) (k : Int), x = .ref p ∧ args = [.int k] ∧ SqT K H p (ns.map V.int) ∧ k ∈ ns ∧ Q (.int (ns.idxOf k : Nat)) H
/-- t.index(k), k in t -/
theorem mt_tindex : MtR X "tuple.index" (rTindex X.K) := by
  intro pins s σ H x args v us Q I rx ra h
  obtain ⟨p, ns, k, rfl, rfl, hs, hk, q⟩ := h
  cases rx
  obtain ⟨u, rfl, ru⟩ := vals1 ra
  obtain ⟨t, rfl⟩ := ru
  obtain ⟨its, rv, ⟨⟨cls, dd, dt, sl⟩, ho, hc, n, hd⟩, hz⟩ := I.tuple hs
  simp only at hc hd
  subst hc hd
  have hlen : its.length = ns.length := by rw [← rv.length, List.length_map]
  have hj : ns.idxOf k < ns.length := List.idxOf_lt_length_iff.mpr hk
  have at' : ∀ (m : Nat) (hm : m < its.toArray.size), ∃ t' : Tok, ∃ hm2 : m < ns.length, its.toArray[m] = Value.int ns[m] t' := by
    intro m hm
    have hm2 : m < ns.length := by
      rw [List.size_toArray] at hm
      omega
    obtain ⟨w, hw, t', hw'⟩ := rv.get (i := m) (x := .int ns[m]) (at_map' (List.getElem?_eq_getElem hm2))
    refine ⟨t', hm2, ?_⟩
    have e := (List.getElem?_eq_some_iff.mp hw).2
    rw [← hw', ← e]
    simp
  refine call_meets PySem.F.slot_tuple_index ⟨_, ho, rfl⟩ PySem.F.entry_tuple_index (PySem.F.args_tuple_index_2 _ _)
    (TI.tuple_indexAt p its.toArray n dd sl (.int k t) (eqU (.int k)) (ns.idxOf k) (by rw [List.size_toArray]; omega) ?_ ?_)
    ⟨ho, fun w hw => mem_eqAt (x := .int k) ⟨t, rfl⟩ rfl rv (flat_ints ns) w (by simpa using hw), ⟨.int (ns.idxOf k : Nat), H, I.tok _, ⟨_, rfl⟩, q⟩⟩
  · obtain ⟨t', h2, h3⟩ := at' (ns.idxOf k) (by rw [List.size_toArray]; omega)
    rw [h3]
    show (ns[ns.idxOf k] == k) = true
    rw [beq_iff_eq]
    exact List.getElem_idxOf h2
  · intro m hm hmj
    obtain ⟨t', h2, h3⟩ := at' m hm
    rw [h3]
    show (ns[m] == k) = false
    refine beq_eq_false_iff_ne.mpr fun z => idx_lt hmj ?_
    rw [List.getElem?_eq_getElem h2, z]
where
  at_map' {ns : List Int} {m : Nat} {x : Int} (h : ns[m]? = some x) : (ns.map V.int)[m]? = some (.int x) := by
    rw [List.getElem?_map, h]
    rfl
/-- t[lo:hi], not the whole, known to bear no dict -/
def rSlTF (K : PySem.W.Frag) : V → Option Int → Option Int → Hp → VK → Prop := fun x lo hi H Q => ∃ a xs, x = .ref a ∧ SqT K H a xs ∧
  ¬ (HT.sIx xs.length 0 lo = 0 ∧ HT.sIx xs.length xs.length hi = xs.length) ∧ ∀ (p : Addr) (o : Obj), H p = none → o.dict = none → Q (.ref p) (upd H p (.frz o (.tup (cutV xs lo hi))))
theorem sl_tupF : SlR X (rSlTF X.K) := by
  intro pins s σ H x v vl vu lo hi sl Q I rx hs pl pu h
  obtain ⟨a, xs, rfl, hx, hw, q⟩ := h
  cases rx
  obtain ⟨its, r, ht, hz⟩ := I.tuple hx
  have hlen : its.toArray.size = xs.length := by
    rw [List.size_toArray]
    exact r.length.symm
  refine ⟨"tuple", _, PyProof.Rows.slot_tuple_getitem.lookup, ht.typeIs, ?_⟩
  have hnot : ¬ (HT.sIx its.toArray.size 0 lo = 0 ∧ HT.sIx its.toArray.size its.toArray.size hi = its.toArray.size) := by rwa [hlen]
  refine HT.getItem_tuple_cut ht hs pl pu hnot ?_ (hlen ▸ hz)
  rw [hlen]
  have hg := Heap.get?_push_size s.heap (o := { cls := .type "tuple", data := .seq ((its.toArray.toList.drop (HT.sIx xs.length 0 lo)).take (HT.sIx xs.length xs.length hi - HT.sIx xs.length 0 lo)).toArray }) rfl
  refine ⟨.ref s.heap.objs.size, _, I.laid (t' := s.toks) (o := .frz _ (.tup (cutV xs lo hi))) (fun b ob q => Heap.get?_push_of_some _ q) (Nat.le_refl _) ⟨hg, ?_⟩, rfl, q _ _ (I.hok.fresh (Nat.le_refl _)) rfl⟩
  exact ⟨Nat.le_trans (cutV_length xs lo hi) hz, _, (r.drop (HT.sIx xs.length 0 lo)).take (HT.sIx xs.length xs.length hi - HT.sIx xs.length 0 lo), ⟨_, hg, rfl, _, rfl⟩⟩
end
inductive Kn (K : PySem.W.Frag) (H : Hp) : V → Prop
  | non : Kn K H .non
  | bl (b : Bool) : Kn K H (.bl b)
  | int (i : Int) : Kn K H (.int i)
  | str (x : Str) : Kn K H (.str x)
  | lst {a : Addr} {xs : List V} (e : H a = some (.lst xs)) : Kn K H (.ref a)
  | tup {a : Addr} {xs : List V} (e : H a = some (.tup xs)) : Kn K H (.ref a)
  | ftup {a : Addr} {o : Obj} {xs : List V} (e : H a = some (.frz o (.tup xs))) : Kn K H (.ref a)
  | dK {a : Addr} {kvs : List (Key × V)} (e : H a = some (.dK kvs)) : Kn K H (.ref a)
end Sv
namespace Sv
open PySem PySem.Spec PyProof.Rows L2
mutual
inductive DX (N : Addr → Prop) (K : PySem.W.Frag) (H : Hp) : V → PyData → Prop
  | non : DX N K H .non .none
  | bl (b : Bool) : DX N K H (.bl b) (.bool b)
  | int (i : Int) : DX N K H (.int i) (.int i)
  | str (x : Str) : DX N K H (.str x) (.str x)
  | lst {a : Addr} {xs : List V} {ds : List PyData} : H a = some (.lst xs) → N a → DXs N K H xs ds → DX N K H (.ref a) (.list ds)
  | tup {a : Addr} {xs : List V} {ds : List PyData} : (H a = some (.tup xs) ∨ ∃ o, H a = some (.frz o (.tup xs))) → DXs N K H xs ds → DX N K H (.ref a) (.tuple ds)
  | d0 {a : Addr} : H a = some (.dK []) → DX N K H (.ref a) (.dict [])
  | d1 {a : Addr} {k : Str} {i : Int} : H a = some (.dK [(Sum.inr k, .int i)]) → DX N K H (.ref a) (.dict [(.str k, .int i)])
inductive DXs (N : Addr → Prop) (K : PySem.W.Frag) (H : Hp) : List V → List PyData → Prop
  | nil : DXs N K H [] []
  | cons {v : V} {vs : List V} {d : PyData} {ds : List PyData} : DX N K H v d → DXs N K H vs ds → DXs N K H (v :: vs) (d :: ds)
end
mutual
/-- wherever lists, tuples and dicts stay -/
theorem DX.keep {N : Addr → Prop} {K : PySem.W.Frag} {H H' : Hp} (e : ∀ (a : Addr) (xs : List V), N a → H a = some (.lst xs) → H' a = some (.lst xs)) (e2 : ∀ (a : Addr) (xs : List V), (H a = some (.tup xs) ∨ ∃ o, H a = some (.frz o (.tup xs))) → (H' a = some (.tup xs) ∨ ∃ o, H' a = some (.frz o (.tup xs))))
    (e3 : ∀ (a : Addr) (kvs : List (Key × V)), H a = some (.dK kvs) → H' a = some (.dK kvs)) : ∀ {v : V} {d : PyData}, DX N K H v d → DX N K H' v d
  | _, _, .non => .non
  | _, _, .bl b => .bl b
  | _, _, .int i => .int i
  | _, _, .str x => .str x
  | _, _, .lst h n hs => .lst (e _ _ n h) n (DXs.keep e e2 e3 hs)
  | _, _, .tup h hs => .tup (e2 _ _ h) (DXs.keep e e2 e3 hs)
  | _, _, .d0 h => .d0 (e3 _ _ h)
  | _, _, .d1 h => .d1 (e3 _ _ h)
theorem DXs.keep {N : Addr → Prop} {K : PySem.W.Frag} {H H' : Hp} (e : ∀ (a : Addr) (xs : List V), N a → H a = some (.lst xs) → H' a = some (.lst xs)) (e2 : ∀ (a : Addr) (xs : List V), (H a = some (.tup xs) ∨ ∃ o, H a = some (.frz o (.tup xs))) → (H' a = some (.tup xs) ∨ ∃ o, H' a = some (.frz o (.tup xs))))
    (e3 : ∀ (a : Addr) (kvs : List (Key × V)), H a = some (.dK kvs) → H' a = some (.dK kvs)) : ∀ {vs : List V} {ds : List PyData}, DXs N K H vs ds → DXs N K H' vs ds
  | _, _, .nil => .nil
  | _, _, .cons h hs => .cons (DX.keep e e2 e3 h) (DXs.keep e e2 e3 hs)
end
theorem DX.kp {K : PySem.W.Frag} {H H' : Hp} {a b : Addr} {N : Addr → Prop} {v : V} {d : PyData} (h : DX N K H v d) (e : Kp a b H H') (ha : ¬ N a) (hb : ¬ N b) (la : ∃ xs, H a = some (.lst xs)) (lb : ∃ xs, H b = some (.lst xs)) : DX N K H' v d := by
  obtain ⟨xa, la⟩ := la
  obtain ⟨xb, lb⟩ := lb
  refine h.keep (fun c xs hc q => e _ _ (fun z => ha (z ▸ hc)) (fun z => hb (z ▸ hc)) q) (fun c xs q => q.elim (fun q => .inl (e _ _ (ne_of q la (by intro z; cases z)) (ne_of q lb (by intro z; cases z)) q)) fun ⟨o, q⟩ => .inr ⟨o, e _ _ (ne_of q la (by intro z; cases z)) (ne_of q lb (by intro z; cases z)) q⟩)
    (fun c xs q => e _ _ (ne_of q la (by intro z; cases z)) (ne_of q lb (by intro z; cases z)) q)
theorem DXs.len {N : Addr → Prop} {K : PySem.W.Frag} {H : Hp} : ∀ {vs : List V} {ds : List PyData}, DXs N K H vs ds → vs.length = ds.length
  | _, _, .nil => rfl
  | _, _, .cons _ hs => by rw [List.length_cons, List.length_cons, DXs.len hs]
theorem DXs.at {N : Addr → Prop} {K : PySem.W.Frag} {H : Hp} : ∀ {vs : List V} {ds : List PyData}, DXs N K H vs ds → ∀ {i : Nat} {v : V}, vs[i]? = some v → ∃ d, ds[i]? = some d ∧ DX N K H v d
  | _, _, .nil, i, v, h => by simp at h
  | _, _, .cons (d := d) h1 h2, 0, v, h => by
    cases h
    exact ⟨d, rfl, h1⟩
  | _, _, .cons h1 h2, i + 1, v, h => DXs.at h2 (i := i) h
theorem DXs.append {N : Addr → Prop} {K : PySem.W.Frag} {H : Hp} : ∀ {vs : List V} {ds : List PyData} {ws : List V} {es : List PyData}, DXs N K H vs ds → DXs N K H ws es → DXs N K H (vs ++ ws) (ds ++ es)
  | _, _, _, _, .nil, h => h
  | _, _, _, _, .cons h1 h2, h => .cons h1 (DXs.append h2 h)
theorem DXs.ints {N : Addr → Prop} {K : PySem.W.Frag} {H : Hp} : ∀ ns : List Int, DXs N K H (ns.map V.int) (iD ns)
  | [] => .nil
  | n :: r => .cons (.int n) (DXs.ints r)
section
variable {X : Cx} {pins : List (Addr × Obj)} {σ : L2.St} {H : Hp} {s : Shared} {N : Addr → Prop}
mutual
theorem DX.reads (hN : ∀ a, N a → a ≠ sysModules) (I : Inv X pins σ H s) : ∀ (d : PyData) (v : V) (u : Value), DX N X.K H v d → RelV v u → ∃ as, Reads s.heap u d as ∧ sysModules ∉ as
  | .none, _, _, h, r => by
    cases h
    cases r
    exact ⟨_, Reads.none, List.not_mem_nil⟩
  | .bool b, _, _, h, r => by
    cases h
    cases r
    exact ⟨_, Reads.bool b, List.not_mem_nil⟩
  | .int i, _, _, h, r => by
    cases h
    obtain ⟨t, rfl⟩ := r
    exact ⟨_, Reads.int i t, List.not_mem_nil⟩
  | .str x, _, _, h, r => by
    cases h
    obtain ⟨t, rfl⟩ := r
    exact ⟨_, Reads.str x t, List.not_mem_nil⟩
  | .list ds, _, _, h, r => by
    cases h with
    | lst hs hn ha =>
      cases r
      obtain ⟨its, rv, ⟨o, n, ho, hc, _, hd⟩, _⟩ := I.list (.of hs)
      obtain ⟨as, hr, hm⟩ := DXs.reads hN I ds _ its ha rv
      exact ⟨_, Reads.list ho hc hd hr, fun z => (List.mem_cons.mp z).elim (fun z => hN _ hn z.symm) hm⟩
  | .tuple ds, _, _, h, r => by
    cases h with
    | tup hs ha =>
      cases r
      obtain ⟨its, rv, ⟨o, ho, hc, n, hd⟩, _⟩ := I.tuple (.inl hs)
      obtain ⟨as, hr, hm⟩ := DXs.reads hN I ds _ its ha rv
      exact ⟨_, Reads.tuple ho hc hd hr, hm⟩
  | .dict kvs, _, _, h, r => by
    cases h with
    | d0 hs =>
      cases r
      obtain ⟨_, hn, vs, kv, o, es, ep, ho, ⟨hc, _, _⟩, hd, _, hp, _⟩ := I.hok _ _ hs
      cases kv
      have he : es.toList = [] := by
        generalize es.toList = l at hp
        cases hp
        rfl
      refine ⟨_, Reads.dict (as := []) (bs := []) ho hc hd (by rw [he]; exact .nil) (by rw [he]; exact .nil), fun z => ?_⟩
      have hz := List.mem_singleton.mp (by simpa using z)
      rw [hz] at hn
      simp at hn
    | @d1 _ k i hs =>
      cases r
      obtain ⟨_, hn, vs, kv, o, es, ep, ho, ⟨hc, _, _⟩, hd, _, hp, _⟩ := I.hok _ _ hs
      obtain ⟨u, t, rfl, rfl⟩ : ∃ (u : Value) (t : Tok), vs = [(Sum.inr k, u)] ∧ u = .int i t := by
        match vs, kv with
        | [(k', u)], .cons ⟨e1, t, e2⟩ .nil => exact ⟨u, t, by rw [show (Sum.inr k : Key) = k' from e1], e2⟩
      generalize hl : es.toList = l at hp
      cases hp with
      | @cons e _ _ _ p1 p2 p3 =>
        cases p3
        obtain ⟨hh, key, val⟩ := e
        have p2' : val = Value.int i t := p2
        subst p2'
        have p1' : keyIs (Sum.inr k) key = true := p1
        obtain ⟨i', t', z, _⟩ | ⟨x, t', z, rfl⟩ := keyIs_shape p1'
        · cases z
        · cases z
          refine ⟨_, Reads.dict (as := [] ++ []) (bs := [] ++ []) ho hc hd (by rw [hl]; exact .cons (.str _ _) .nil) (by rw [hl]; exact .cons (.int _ _) .nil), fun z => ?_⟩
          have hz := List.mem_singleton.mp (by simpa using z)
          rw [hz] at hn
          simp at hn
theorem DXs.reads (hN : ∀ a, N a → a ≠ sysModules) (I : Inv X pins σ H s) : ∀ (ds : List PyData) (vs : List V) (us : List Value), DXs N X.K H vs ds → Vals vs us → ∃ as, ReadsAll s.heap us ds as ∧ sysModules ∉ as
  | [], _, _, h, r => by
    cases h
    cases r
    exact ⟨_, ReadsAll.nil, List.not_mem_nil⟩
  | d :: ds, _, _, h, r => by
    cases h with
    | cons h1 h2 =>
      cases r with
      | cons r1 r2 =>
        obtain ⟨as, q1, m1⟩ := DX.reads hN I d _ _ h1 r1
        obtain ⟨bs, q2, m2⟩ := DXs.reads hN I ds _ _ h2 r2
        exact ⟨_, ReadsAll.cons q1 q2, fun z => (List.mem_append.mp z).elim m1 m2⟩
end
end
/-- data whose text can be shown -/
structure FineX (n W : Nat) (d : PyData) : Prop where
  dep : d.depth ≤ n
  wei : d.weight ≤ W
  sho : d.showable = true
  lea : d.leavesShort 40 = true
structure FineXs (n W : Nat) (ds : List PyData) : Prop where
  dep : PyData.depthAll ds ≤ n
  wei : PyData.weightAll ds ≤ W
  sho : PyData.showableAll ds = true
  lea : PyData.leavesShortAll 40 ds = true
theorem FineX.mono {n W m U : Nat} {d : PyData} (h : FineX n W d) (e : n ≤ m) (e2 : W ≤ U) : FineX m U d := ⟨Nat.le_trans h.dep e, Nat.le_trans h.wei e2, h.sho, h.lea⟩
theorem FineXs.mono {n W m U : Nat} {d : List PyData} (h : FineXs n W d) (e : n ≤ m) (e2 : W ≤ U) : FineXs m U d := ⟨Nat.le_trans h.dep e, Nat.le_trans h.wei e2, h.sho, h.lea⟩
theorem FineX.len {n W : Nat} {d : PyData} (h : FineX n W d) (hW : W ≤ 300000) : d.shown.length ≤ sizeLine := by
  have q := PyData.shown_le 40 (by decide) d h.lea
  have := h.wei
  rw [sizeLine_eq]
  omega
section
variable {X : Cx}
def ShownX (N : Addr → Prop) (K : PySem.W.Frag) (H : Hp) (v : V) (d : PyData) : Prop := (∀ a, N a → a ≠ sysModules) ∧ DX N K H v d ∧ isDisplay d = true ∧ d.showable = true ∧ d.depth ≤ 60 ∧ d.shown.length ≤ sizeLine
theorem FineX.shown {N : Addr → Prop} {K : PySem.W.Frag} {H : Hp} {v : V} {n W : Nat} {d : PyData} (h : FineX n W d) (hn : n ≤ 60) (hW : W ≤ 300000) (hN : ∀ a, N a → a ≠ sysModules) (hd : DX N K H v d) (hi : isDisplay d = true) : ShownX N K H v d :=
  ⟨hN, hd, hi, h.sho, Nat.le_trans h.dep hn, h.len hW⟩
end
end Sv
set_option maxHeartbeats 4000000
namespace Sv
open PySem PySem.Spec PyProof.Rows L2
theorem tuple_mulW1 (l : Addr) (items : Array Value) (n : Nat) (dd : Option Addr) (sl : Array (Option Value)) (u : Tok) (c1 : (items.isEmpty || (1 : Int) == 1) = true) :
    Meets (Builtin.«tuple.__mul__» ⟨[.ref l, .int 1 u], []⟩) (fun _ R s => s.heap.get? l = some { cls := .type "tuple", dict := dd, data := .seq items n, slots := sl } ∧ R (.ok (.ret (Value.ref l))) s) :=
  .of_wp fun prog w A R s h => by
    obtain ⟨hp, g, d, tk, os⟩ := s
    obtain ⟨hl, h⟩ := h
    have f1 := AutoSeq1.idx_int
    wp_walk using wpAny_loadPart' hl
    repeat (first
      | (refine wpAny_ite_true (decide_eq_true c1) ?_; wp_walk using wpAny_loadPart' hl)
      | (refine wpAny_ite_false (decide_eq_false (by decide)) ?_; wp_walk using wpAny_loadPart' hl))
    exact ⟨_, rfl, h⟩
section
variable {X : Cx}
def rRep1 (K : PySem.W.Frag) : R2 := fun x y H Q => ∃ l xs, x = .ref l ∧ y = .int 1 ∧ SqT K H l xs ∧ Q (.ref l) H
theorem op_rep1 : OpR X (binaryOp .Mult) (rRep1 X.K) := by
  intro pins s σ H x y v u Q I rx ry h
  obtain ⟨l, xs, rfl, rfl, hT, q⟩ := h
  cases rx
  obtain ⟨t, rfl⟩ := ry
  obtain ⟨its, r, ⟨⟨cls, dd, data, sl⟩, ho, hc, n, hd⟩, hs⟩ := I.tuple hT
  simp only at hc hd
  subst hc hd
  refine wpAny_binaryOp_repeat_ref (T := "tuple") (U := "int") (by decide) ⟨_, ho, rfl⟩ (fun s' => typeIs_int s' 1 t) noFill_tuple_mul F.fills_int_mul F.slot_int_rmul repeat_tuple F.slot_int_index.lookup
    (call_meets F.slot_int_rmul (typeIs_int s 1 t) F.entry_int_rmul (F.args_int_rmul_2 _ _) (int_rmul_tuple 1 t l its.toArray n dd sl)
      ⟨ho, rfl, ⟨_, ho, rfl⟩, call_meets F.slot_tuple_mul ⟨_, ho, rfl⟩ F.entry_tuple_mul (F.args_tuple_mul_2 _ _) (tuple_mulW1 l its.toArray n dd sl t (by simp)) ⟨ho, ?_⟩⟩)
  exact ⟨.ref l, H, I, rfl, q⟩
end
end Sv
namespace Sv
open PySem PySem.Spec PyProof.Rows L2
def TupT (H : Hp) (a : Addr) (xs : List V) : Prop := H a = some (.tup xs) ∨ ∃ o, H a = some (.frz o (.tup xs))
theorem TupT.sqT {K : PySem.W.Frag} {H : Hp} {a : Addr} {xs : List V} (h : TupT H a xs) : SqT K H a xs := .inl h
end Sv
set_option maxHeartbeats 1000000
namespace Sv
open PySem
structure ZDist (z TI TO : Addr) (its ls : List Addr) : Prop where
  nd : (z :: TI :: TO :: its).Nodup
  away : ∀ l ∈ ls, l ∉ z :: TI :: TO :: its
  len : its.length = ls.length
  ne : its ≠ []
  sm : its.length ≤ 1000
end Sv
set_option maxHeartbeats 1000000
namespace Sv
open PySem
section
variable {prog : Program} {w : World} {A : Around} {E : Value → Shared → Prop} {s : Shared}
theorem ZDist.inj {z TI TO : Addr} {its ls : List Addr} (D : ZDist z TI TO its ls) {i j : Nat} {a : Addr} (h : its[i]? = some a) (g : its[j]? = some a) : i = j := by
  have n := D.nd
  simp only [List.nodup_cons] at n
  have n3 := n.2.2.2
  have hi := (List.getElem?_eq_some_iff.mp h).1
  exact (List.getElem?_inj hi n3).mp (h.trans g.symm)
end
end Sv
set_option maxHeartbeats 1000000
set_option maxHeartbeats 1000000
set_option maxHeartbeats 1000000
set_option maxHeartbeats 1000000
namespace Sv
open PySem PySem.Spec PyProof.Rows L2
section
variable {P : Program} {w : World} {K : PySem.W.Frag} {mg mb : Str → Option Value} {k : Nat} {fa a : Addr} {fd : FuncData} {x : Str} {sp : Sp}
  {s₁ : Shared} {vs : List Value} {ns : List Int}
/-- from one abstract heap that tracks nothing but the script -/
theorem headG_core (H : Hp) (KX : K.In s₁.heap) (hns : s₁.heap.Ns mainGlobals mg) (hb : s₁.heap.Ns builtinsNs mb)
    (hbb : ∀ y : Str, y ≠ "__name__" → mb y = bootBuiltins y) (hlim : s₁.heap.NoLimit) (hg : s₁.gens = #[])
    (ha : s₁.heap.get? a = some { cls := .type "list", data := .seq vs.toArray }) (hr : Room k callerA)
    (F : ∀ base : Heap, K.In base → base.Ns mainGlobals mg → FnG P w K mg base k fa fd [x] sp)
    (hbind : ∀ (s : Shared) (u : Value), BindsTo s fd ⟨[u], []⟩ [(x, u)])
    (hO : Only H) (hsp : sp [.ref a] H (fun v _ => v = .bl true) fun _ _ _ => False)
    (hok : HOk P w H s₁.heap) (hA : ∀ b, H b ≠ none → b = a) (hK : H a ≠ none → K.lookup a = none) :
    codeAny (model P w) callerA (.call (.ref fa) ⟨[.ref a], []⟩)
      (fun r s' => r = .ok (.ret (.bool true)) ∧ OldK s₁.heap s'.heap ∧ s'.os = s₁.os ∧ AllBare s'.gens) s₁ := by
  have tr : ∀ {b : Addr} {u : HO}, H b = some u → b = a := fun {b u} q => hA b (by rw [q]; exact Option.some_ne_none u)
  have under : ∀ {b : Addr} {o : Obj}, s₁.heap.get? b = some o → H b = none → (hidT s₁.heap H).get? b = some o := fun e n => hidT_get e n
  have dictN : ∀ {b : Addr} {o : Obj} {es : Array DictEntry} {ep : Nat}, s₁.heap.get? b = some o → o.data = .dict es ep → H b = none := by
    intro b o es ep e d
    rcases hH : H b with _ | u
    · rfl
    · have eb := tr hH
      rw [eb, ha] at e
      rw [← Option.some.inj e] at d
      exact absurd d (by intro z; cases z)
  have nsK : ∀ {b : Addr} {m : Str → Option Value}, s₁.heap.Ns b m → (hidT s₁.heap H).Ns b m := by
    rintro b m ⟨o, es, ep, e, d, r⟩
    exact ⟨o, es, ep, under e (dictN e d), d, r⟩
  have hKb : K.In (hidT s₁.heap H) := by
    intro b o e
    refine under (KX b o e) ?_
    rcases hH : H b with _ | u
    · rfl
    · have eb := tr hH
      rw [eb] at e hH
      rw [hK (by rw [hH]; exact Option.some_ne_none u)] at e
      cases e
  have hM : Mod K mg (hidT s₁.heap H) := by
    obtain ⟨mc, l1, l2⟩ := hlim
    exact ⟨hKb, nsK hns, ⟨mb, nsK hb, hbb⟩, ⟨mc, nsK l1, l2⟩⟩
  have e0 : Env0 P w K mg (hidT s₁.heap H) callerA [] s₁ H := by
    refine ⟨rfl, hM, fun b o e => of_hidT e, Nat.le_of_eq (hidT_size _ _), trivial, fun b hb => ?_, hok, .of_eq hg⟩
    exact absurd (show b ∈ ([] : List Addr) from hb) List.not_mem_nil
  have hrun := (F _ hKb (nsK hns)).run callerA rfl [] s₁ H ⟨[.ref a], []⟩ [.ref a] [.ref a] _ _ hr e0 (hbind s₁ (.ref a)) (.cons rfl .nil) hsp
  refine codeAny_mono hrun fun r s' h => ?_
  match r, h with
  | .error e, h => exact absurd h id
  | .ok .next, h => exact absurd h id
  | .ok .brk, h => exact absurd h id
  | .ok .cont, h => exact absurd h id
  | .ok (.ret u), h =>
    obtain ⟨v, H', os, bare, un, hok', r', q⟩ := h
    obtain rfl : v = .bl true := q
    obtain rfl : u = Value.bool true := r'
    refine ⟨rfl, OldK.of_keep fun b o e => ?_, os, bare⟩
    rcases hO b with z | ⟨ob, xs, z⟩
    · exact un.keep b o e z (fun m => absurd (show b ∈ ([] : List Addr) from m) List.not_mem_nil) List.not_mem_nil
    · obtain ⟨e1, _⟩ := hok b _ z
      obtain ⟨e2, _⟩ := hok' b _ (un.frzs b ob _ z)
      rw [← e, e1]
      exact e2
theorem headG (KX : K.In s₁.heap) (hns : s₁.heap.Ns mainGlobals mg) (hb : s₁.heap.Ns builtinsNs mb)
    (hbb : ∀ y : Str, y ≠ "__name__" → mb y = bootBuiltins y) (hlim : s₁.heap.NoLimit) (hg : s₁.gens = #[])
    (ha : s₁.heap.get? a = some { cls := .type "list", data := .seq vs.toArray }) (hi : IntsAre vs ns) (hl : ns.length ≤ sizeLine) (hr : Room k callerA)
    (F : ∀ base : Heap, K.In base → base.Ns mainGlobals mg → FnG P w K mg base k fa fd [x] sp)
    (hbind : ∀ (s : Shared) (u : Value), BindsTo s fd ⟨[u], []⟩ [(x, u)])
    (hsp : ∀ H : Hp, Only H → SqL K H a (ns.map V.int) → sp [.ref a] H (fun v _ => v = .bl true) fun _ _ _ => False) :
    codeAny (model P w) callerA (.call (.ref fa) ⟨[.ref a], []⟩)
      (fun r s' => r = .ok (.ret (.bool true)) ∧ OldK s₁.heap s'.heap ∧ s'.os = s₁.os ∧ AllBare s'.gens) s₁ := by
  have rv := vals_ints hi
  rcases hk : K.lookup a with _ | o
  · have hE : ∀ b, (if b = a then some (HO.frz { cls := .type "list", data := .seq vs.toArray } (.lst (ns.map V.int))) else none) ≠ none → b = a := by
      intro b z
      by_cases hb : b = a
      · exact hb
      · rw [if_neg hb] at z
        exact absurd rfl z
    have hO : Only fun b => if b = a then some (HO.frz { cls := .type "list", data := .seq vs.toArray } (.lst (ns.map V.int))) else none := by
      intro b
      by_cases hb : b = a
      · exact .inr ⟨_, _, if_pos hb⟩
      · exact .inl (if_neg hb)
    refine headG_core _ KX hns hb hbb hlim hg ha hr F hbind hO (hsp _ hO (.inl (.inr ⟨_, if_pos rfl⟩))) (fun b u z => ?_) hE fun _ => hk
    have hba : b = a := hE b (by rw [z]; exact Option.some_ne_none u)
    subst hba
    obtain rfl := Option.some.inj ((if_pos rfl).symm.trans z)
    exact ⟨ha, by rw [List.length_map]; exact hl, vs, _, rv, ha⟩
  · have e := KX a o hk
    obtain rfl := Option.some.inj (ha.symm.trans e)
    have hO : Only fun _ => none := fun _ => .inl rfl
    refine headG_core (fun _ => none) KX hns hb hbb hlim hg ha hr F hbind hO (hsp _ hO (.inr ⟨_, vs.toArray, _, hk, rfl, rfl, rfl, ?_, by simpa using rv⟩))
      (fun b u z => absurd (show (none : Option HO) = some u from z) (by intro q; cases q)) (fun b z => absurd rfl z) fun z => absurd rfl z
    rw [List.size_toArray, hi.length]
    exact hl
end
/-- the goal that the head leaves -/
theorem walkG {l : PySem.W.OpenLaw} {n k : Nat} {q : Program} {loose : List Str} {XP : (Str → Option Value) → Heap → Prop} {YP : World → Heap → Prop}
    {d : DefRec} {K : Params → PySem.W.Frag} {sp : PySem.W.Frag → Sp} {x : Str}
    (hn : l.most = some n) (hn2 : n ≤ sizeLine) (hdf : d.params.defaults = []) (hr : Room k callerA)
    (hY : ∀ (w : World) (h : Heap), YP w h → (K w.params).In h)
    (F : ∀ (w : World) (mg : Str → Option Value) (fa : Addr) (h : Heap), (K w.params).In h → h.Ns mainGlobals mg → mg d.name = some (.ref fa) →
      ∃ fd : FuncData, (∀ (s : Shared) (u : Value), BindsTo s fd ⟨[u], []⟩ [(x, u)]) ∧
        ∀ base : Heap, (K w.params).In base → base.Ns mainGlobals mg → FnG l.prog w (K w.params) mg base k fa fd [x] (sp (K w.params)))
    (hsp : ∀ (K : PySem.W.Frag) (H : Hp) (a : Addr) (ns : List Int), ns.length ≤ n → Only H → SqL K H a (ns.map V.int) → sp K [.ref a] H (fun v _ => v = .bl true) fun _ _ _ => False) :
    PySem.W.WalkO q loose XP YP l.row.toRowW d [] (fun f vs => PySem.call f vs) := by
  refine Att.attach_call hn hdf fun w s₀ s₁ mg mb fa o pm cd doc a vs ns G Y ho hd hcd hmg hobj hints hlen hg => ?_
  obtain ⟨fd, hbd, hF⟩ := F w mg fa _ (hY w _ Y) G.T.g hmg
  exact headG (hY w _ Y) G.T.g G.T.b G.T.builtins G.T.nolimit hg hobj hints (Nat.le_trans hlen hn2) hr hF hbd fun H h1 h2 => hsp _ H a ns hlen h1 h2
end Sv
set_option maxHeartbeats 1000000
namespace Sv
open PySem PySem.Spec PyProof.Rows L2
def tFrz (t : TE) : TE := fun σ H Q => t σ H fun v H1 => ∃ d u, v = .ref d ∧ H1 d = some u ∧ Mut (some u) ∧ ∀ od, Q v (upd H1 d (.frz od u))
theorem pe_frz {X : Cx} {e : Expr} {t : TE} (h : PE X e t) : PE X e (tFrz t) := by
  refine ⟨fun pins s σ H Q I hw => ?_⟩
  refine thn (h.run pins s σ H _ I hw) fun v s1 ⟨x, H1, I1, r, d, u, ex, hd, mu, q⟩ => ?_
  obtain ⟨od, I2⟩ := I1.lock hd mu
  exact ⟨x, _, I2, r, q od⟩
end Sv
set_option maxHeartbeats 1000000
namespace Sv
open PySem PySem.Spec PyProof.Rows L2
/-- lists that rise by a number are told by their members -/
theorem rise_eq {α : Type} (f : α → Int) : ∀ (l r : List α), l.Pairwise (fun a b => f a < f b) → r.Pairwise (fun a b => f a < f b) → (∀ x, x ∈ l ↔ x ∈ r) → l = r
  | [], [], _, _, _ => rfl
  | [], b :: r, _, _, h => absurd ((h b).mpr List.mem_cons_self) List.not_mem_nil
  | a :: l, [], _, _, h => absurd ((h a).mp List.mem_cons_self) List.not_mem_nil
  | a :: l, b :: r, h1, h2, h => by
    obtain ⟨p1, q1⟩ := List.pairwise_cons.mp h1
    obtain ⟨p2, q2⟩ := List.pairwise_cons.mp h2
    have e : a = b := by
      rcases List.mem_cons.mp ((h a).mp List.mem_cons_self) with z | z
      · exact z
      · rcases List.mem_cons.mp ((h b).mpr List.mem_cons_self) with y | y
        · exact y.symm
        · have := p2 a z
          have := p1 b y
          omega
    subst e
    congr 1
    refine rise_eq f l r q1 q2 fun x => ⟨fun z => ?_, fun z => ?_⟩
    · rcases List.mem_cons.mp ((h x).mp (List.mem_cons_of_mem _ z)) with y | y
      · subst y
        exact absurd (p1 _ z) (Int.lt_irrefl _)
      · exact y
    · rcases List.mem_cons.mp ((h x).mpr (List.mem_cons_of_mem _ z)) with y | y
      · subst y
        exact absurd (p2 _ z) (Int.lt_irrefl _)
      · exact y
/-- pairs by one number -/
def pc (x : Int × Int) : Int := x.1 * 64 + x.2
def pk (x : Int × Int) : List Int := [x.1, x.2]
end Sv
namespace Sz
open PySem
/-- a frame of no generator's waking -/
def NoGen : Frame → Prop
  | .gen .. => False
  | _ => True
def GF (fs : List Frame) : Prop := ∀ f ∈ fs, NoGen f
def GFGen : GenState → Prop
  | .suspended _ _ _ _ fs _ => GF fs
  | _ => True
/-- it can't be woken -/
def Stuck : GenState → Prop
  | .suspended k _ _ _ _ _ => ∀ r, ∃ why, k r = .unsupported why
  | _ => False
abbrev Fz := Nat → Option GenState
def plug (F : Fz) (s : Shared) : Shared := { s with gens := s.gens.mapIdx fun i x => (F i).getD x }
structure Ok (F : Fz) (s : Shared) : Prop where
  fz : ∀ i st, F i = some st → ∃ x, s.gens[i]? = some x ∧ x.seen = st.seen ∧ Stuck x
  fr : ∀ i x, s.gens[i]? = some x → F i = none → GFGen x
variable {F : Fz} {M : Model}
theorem plug_at {s : Shared} {i : Nat} : (plug F s).gens[i]? = s.gens[i]?.map fun x => (F i).getD x := by
  unfold plug
  rw [Array.getElem?_mapIdx]
theorem plug_free {s : Shared} {i : Nat} {x : GenState} (h : s.gens[i]? = some x) (hf : F i = none) : (plug F s).gens[i]? = some x := by
  rw [plug_at, h, hf]
  rfl
theorem Ok.set {s : Shared} (h : Ok F s) {i : Nat} {x : GenState} (hf : F i = none) (hx : GFGen x) : Ok F (s.setGen i x) := by
  refine ⟨fun j st e => ?_, fun j y hy e => ?_⟩
  · have hne : i ≠ j := fun z => by
      subst z
      rw [hf] at e
      cases e
    obtain ⟨y, h1, h2⟩ := h.fz j st e
    refine ⟨y, ?_, h2⟩
    show (s.gens.setIfInBounds i x)[j]? = _
    rw [Array.getElem?_setIfInBounds, if_neg hne]
    exact h1
  · have hy : (s.gens.setIfInBounds i x)[j]? = some y := hy
    rw [Array.getElem?_setIfInBounds] at hy
    by_cases z : i = j
    · rw [if_pos z] at hy
      split at hy
      · cases hy
        exact hx
      · cases hy
    · rw [if_neg z] at hy
      exact h.fr j y hy e
theorem Ok.push {s : Shared} (h : Ok F s) {x : GenState} (hx : GFGen x) : Ok F { s with gens := s.gens.push x } := by
  refine ⟨fun j st e => ?_, fun j y hy e => ?_⟩
  · obtain ⟨y, h1, h2⟩ := h.fz j st e
    refine ⟨y, ?_, h2⟩
    show (s.gens.push x)[j]? = _
    rw [Array.getElem?_push, if_neg (Nat.ne_of_lt (Array.getElem?_eq_some_iff.mp h1).1)]
    exact h1
  · have hy : (s.gens.push x)[j]? = some y := hy
    rw [Array.getElem?_push] at hy
    split at hy
    · cases hy
      exact hx
    · exact h.fr j y hy e
theorem Ok.seen {s : Shared} (o : Ok F s) {i : Nat} {st : GenState} (hs : s.gens[i]? = some st) : ∃ st', (plug F s).gens[i]? = some st' ∧ st'.seen = st.seen := by
  cases hf : F i with
  | none => exact ⟨st, plug_free hs hf, rfl⟩
  | some st' =>
    obtain ⟨x, hx, h2, _⟩ := o.fz i st' hf
    rw [hs] at hx
    cases hx
    refine ⟨st', ?_, h2.symm⟩
    rw [plug_at, hs, hf]
    rfl
open Sem (wp)
def IsSusp : GenState → Prop
  | .suspended .. => True
  | _ => False
end Sz
namespace Sz
open PySem PySem.Spec PyProof.Rows L2
section
variable {X : Cx} {pins : List (Addr × Obj)} {σ : L2.St} {H : Hp} {s : Shared}
/-- what sleeps in s sleeps in s' -/
def Stays (s s' : Shared) : Prop := ∀ (g : Nat) (st : GenState), s.gens[g]? = some st → IsSusp st → s'.gens[g]? = some st
theorem Stays.trans {a b c : Shared} (h : Stays a b) (k : Stays b c) : Stays a c := fun g st e z => k g st (h g st e z) z
end
end Sz
namespace Sz
open PySem PySem.Spec PyProof.Rows L2 GenW
end Sz
set_option autoImplicit false
namespace Sz
open PySem PySem.Spec PyProof.Rows L2 GenW
open Sem (wp)
/-- from here the run comes to an end of this kind -/
def Sg (M : Model) (A : Around) (Φ : End → Shared → Prop) (c : Code) (t : Sem PySem.Fin) (fs : List Frame) (s : Shared) : Prop :=
  ∀ Γ p, Γ.code = c → Γ.Woken A → ∃ e s', Runs M Γ p t fs s e s' ∧ Φ e s'
abbrev PostG := End → Shared → Prop
def WkG (M : Model) (A : Around) (Φ : PostG) (gs : GenState) (r : Resume) (s : Shared) : Prop :=
  match gs with
  | .fresh c => r = .send .none ∧ Sg M A Φ c (M.den c) [] s
  | .suspended k _ c _ fs _ => Sg M A Φ c (k r) fs s
  | _ => False
end Sz
set_option autoImplicit false
namespace Sz
open PySem
open Sem (wp)
structure Dead (s s' : Shared) : Prop where
  sz : s.heap.objs.size ≤ s'.heap.objs.size
  no : ∀ b, b < s.heap.objs.size → s.heap.get? b = none → s'.heap.get? b = none
theorem Dead.refl (s : Shared) : Dead s s := ⟨Nat.le_refl _, fun _ _ h => h⟩
theorem Dead.trans {a b c : Shared} (h : Dead a b) (k : Dead b c) : Dead a c := ⟨Nat.le_trans h.sz k.sz, fun x l e => k.no x (Nat.lt_of_lt_of_le l h.sz) (h.no x l e)⟩
theorem Dead.push {s : Shared} {o : Obj} {s' : Shared} (e : s'.heap = s.heap.push o) : Dead s s' := ⟨by rw [e, Heap.size_push]; exact Nat.le_succ _, fun x l h => by
  rw [e]
  have : (s.heap.push o).objs[x]? = s.heap.objs[x]? := by
    show (s.heap.objs.push o)[x]? = _
    rw [Array.getElem?_push, if_neg (Nat.ne_of_lt l)]
  unfold Heap.get? at h ⊢
  rw [this]
  exact h⟩
theorem Dead.set {s s' : Shared} {g : Nat} {x : GenState} (h : Dead (s.setGen g x) s') : Dead s s' := ⟨h.sz, h.no⟩
end Sz
namespace Sv
open PySem PySem.Spec PyProof.Rows L2
/-- a value: tuples and lists that are only read by what they hold; what can change by its address -/
inductive D where
  | non | bl (b : Bool) | int (i : Int) | str (x : Str) | tup (ds : List D) | rol (ds : List D) | ref (a : Addr) | ty (n : String) | dct (kvs : List (Key × D))
  /-- a tuple whose methods are not called -/
  | wtup (ds : List D)
/-- what stands in the store -/
inductive Ob where
  | lst (ds : List D)
  | dK (kvs : List (Key × D))
  /-- an instance of an own class: the class's name, what it holds -/
  | ins (n : Str) (fs : List (Str × D))
  /-- a set of tuples of ints; a set of ints -/
  | tset (L : List (List Int)) | iset (ns : List Int)
abbrev Sto := Addr → Option Ob
def Sto.put (S : Sto) (a : Addr) (o : Ob) : Sto := fun b => if b = a then some o else S b
theorem Sto.same {S : Sto} {a : Addr} {o : Ob} : S.put a o a = some o := if_pos rfl
theorem Sto.ne {S : Sto} {a b : Addr} {o : Ob} (h : b ≠ a) : S.put a o b = S b := if_neg h
/-- the program, the world, the written part -/
structure KK where
  P : Program
  w : World
  k : PySem.W.Frag
abbrev _root_.L2.Cx.kk (X : Cx) : KK := ⟨X.prog, X.w, X.K⟩
/-- a list that is only read -/
def Rol (K : KK) (H : Hp) (a : Addr) (vs : List V) : Prop := (∃ o, H a = some (.frz o (.lst vs))) ∨
    ∃ (o : Obj) (its : Array Value) (n : Nat), K.k.lookup a = some o ∧ o.cls = .type "list" ∧ o.dict = none ∧ o.data = .seq its n ∧ its.size ≤ sizeLine ∧ Vals vs its.toList
theorem Rol.sqL {K : KK} {H : Hp} {a : Addr} {vs : List V} (h : Rol K H a vs) : SqL K.k H a vs := by
  rcases h with ⟨o, h⟩ | h
  · exact .inl (.inr ⟨o, h⟩)
  · exact .inr h
/-- what is locked stays -/
def Ext (H H' : Hp) : Prop := (∀ a o u, H a = some (.frz o u) → H' a = some (.frz o u)) ∧ ∀ a xs, H a = some (.tup xs) → H' a = some (.tup xs)
theorem Ext.refl (H : Hp) : Ext H H := ⟨fun _ _ _ h => h, fun _ _ h => h⟩
theorem Ext.trans {H H1 H2 : Hp} (x : Ext H H1) (y : Ext H1 H2) : Ext H H2 := ⟨fun a o u h => y.1 a o u (x.1 a o u h), fun a xs h => y.2 a xs (x.2 a xs h)⟩
theorem Ext.of {H H' : Hp} (h : Same H H') : Ext H H' := ⟨fun a o u e => h _ _ e, fun a xs e => h _ _ e⟩
theorem Ext.new {H : Hp} {p : Addr} {o : HO} (h : H p = none) : Ext H (upd H p o) := .of (Same.new h)
theorem Ext.put {H : Hp} {p : Addr} {o u : HO} (h : H p = some u) (m : Mut (some u)) : Ext H (upd H p o) := by
  refine ⟨fun a ob v e => ?_, fun a xs e => ?_⟩ <;>
  · rw [upd_ne]
    · exact e
    · rintro rfl
      rw [h] at e
      cases e
      exact m
theorem Rol.ext {K : KK} {H H' : Hp} {a : Addr} {vs : List V} (h : Rol K H a vs) (e : Ext H H') : Rol K H' a vs := by
  rcases h with ⟨o, h⟩ | h
  · exact .inl ⟨o, e.1 _ _ _ h⟩
  · exact .inr h
theorem TupN.ext {H H' : Hp} {a : Addr} {xs : List V} (h : TupN H a xs) (e : Ext H H') : TupN H' a xs := by
  obtain ⟨o, h, d⟩ := h
  exact ⟨o, e.1 _ _ _ h, d⟩
mutual
inductive RD (K : KK) (H : Hp) : D → V → Prop
  | non : RD K H .non .non
  | bl (b : Bool) : RD K H (.bl b) (.bl b)
  | int (i : Int) : RD K H (.int i) (.int i)
  | str (x : Str) : RD K H (.str x) (.str x)
  | ref (a : Addr) : RD K H (.ref a) (.ref a)
  | ty (n : String) : RD K H (.ty n) (.ty n)
  | tup {a : Addr} {ds : List D} {vs : List V} : TupN H a vs → RDs K H ds vs → RD K H (.tup ds) (.ref a)
  | rol {a : Addr} {ds : List D} {vs : List V} : Rol K H a vs → RDs K H ds vs → RD K H (.rol ds) (.ref a)
  | dct {a : Addr} {o : Obj} {kvs : List (Key × D)} {vs : List (Key × V)} : H a = some (.frz o (.dK vs)) → RDk K H kvs vs → RD K H (.dct kvs) (.ref a)
  | wtup {a : Addr} {ds : List D} {vs : List V} : H a = some (.tup vs) → RDs K H ds vs → RD K H (.wtup ds) (.ref a)
inductive RDs (K : KK) (H : Hp) : List D → List V → Prop
  | nil : RDs K H [] []
  | cons {d : D} {ds : List D} {v : V} {vs : List V} : RD K H d v → RDs K H ds vs → RDs K H (d :: ds) (v :: vs)
inductive RDk (K : KK) (H : Hp) : List (Key × D) → List (Key × V) → Prop
  | nil : RDk K H [] []
  | cons {k : Key} {d : D} {ds : List (Key × D)} {v : V} {vs : List (Key × V)} : RD K H d v → RDk K H ds vs → RDk K H ((k, d) :: ds) ((k, v) :: vs)
end
section
variable {K : KK} {H H' : Hp}
mutual
theorem RD.ext (e : Ext H H') : ∀ {d : D} {v : V}, RD K H d v → RD K H' d v
  | _, _, .non => .non
  | _, _, .bl b => .bl b
  | _, _, .int i => .int i
  | _, _, .str x => .str x
  | _, _, .ref a => .ref a
  | _, _, .ty n => .ty n
  | _, _, .tup h r => .tup (h.ext e) (RDs.ext e r)
  | _, _, .rol h r => .rol (h.ext e) (RDs.ext e r)
  | _, _, .dct h r => .dct (e.1 _ _ _ h) (RDk.ext e r)
  | _, _, .wtup h r => .wtup (e.2 _ _ h) (RDs.ext e r)
theorem RDs.ext (e : Ext H H') : ∀ {ds : List D} {vs : List V}, RDs K H ds vs → RDs K H' ds vs
  | _, _, .nil => .nil
  | _, _, .cons h r => .cons (RD.ext e h) (RDs.ext e r)
theorem RDk.ext (e : Ext H H') : ∀ {ds : List (Key × D)} {vs : List (Key × V)}, RDk K H ds vs → RDk K H' ds vs
  | _, _, .nil => .nil
  | _, _, .cons h r => .cons (RD.ext e h) (RDk.ext e r)
end
theorem RDk.length : ∀ {ds : List (Key × D)} {vs : List (Key × V)}, RDk K H ds vs → ds.length = vs.length
  | _, _, .nil => rfl
  | _, _, .cons _ r => by rw [List.length_cons, List.length_cons, RDk.length r]
theorem RDk.atv : ∀ {ds : List (Key × D)} {vs : List (Key × V)} {i : Nat} {k : Key} {v : V}, RDk K H ds vs → vs[i]? = some (k, v) → ∃ d, ds[i]? = some (k, d) ∧ RD K H d v
  | _, _, _, _, _, .nil, h => by simp at h
  | _, _, 0, _, _, .cons r _, h => by simp at h; obtain ⟨rfl, rfl⟩ := h; exact ⟨_, rfl, r⟩
  | _, _, i + 1, _, _, .cons _ t, h => RDk.atv (i := i) t (by simpa using h)
theorem RDs.length : ∀ {ds : List D} {vs : List V}, RDs K H ds vs → ds.length = vs.length
  | _, _, .nil => rfl
  | _, _, .cons _ r => by rw [List.length_cons, List.length_cons, RDs.length r]
theorem RDs.at : ∀ {ds : List D} {vs : List V} {i : Nat} {d : D}, RDs K H ds vs → ds[i]? = some d → ∃ v, vs[i]? = some v ∧ RD K H d v
  | _, _, _, _, .nil, h => by simp at h
  | _, _, 0, _, .cons r _, h => by simp at h; subst h; exact ⟨_, rfl, r⟩
  | _, _, i + 1, _, .cons _ t, h => RDs.at (i := i) t (by simpa using h)
theorem RDs.atv : ∀ {ds : List D} {vs : List V} {i : Nat} {v : V}, RDs K H ds vs → vs[i]? = some v → ∃ d, ds[i]? = some d ∧ RD K H d v
  | _, _, _, _, .nil, h => by simp at h
  | _, _, 0, _, .cons r _, h => by simp at h; subst h; exact ⟨_, rfl, r⟩
  | _, _, i + 1, _, .cons _ t, h => RDs.atv (i := i) t (by simpa using h)
theorem RDs.append : ∀ {ds : List D} {vs : List V} {es : List D} {ws : List V}, RDs K H ds vs → RDs K H es ws → RDs K H (ds ++ es) (vs ++ ws)
  | _, _, _, _, .nil, s => s
  | _, _, _, _, .cons r t, s => .cons r (RDs.append t s)
theorem RDs.take : ∀ {ds : List D} {vs : List V} (n : Nat), RDs K H ds vs → RDs K H (ds.take n) (vs.take n)
  | _, _, 0, _ => .nil
  | _, _, _ + 1, .nil => .nil
  | _, _, n + 1, .cons r t => .cons r (RDs.take n t)
theorem RDs.drop : ∀ {ds : List D} {vs : List V} (n : Nat), RDs K H ds vs → RDs K H (ds.drop n) (vs.drop n)
  | _, _, 0, r => r
  | _, _, _ + 1, .nil => .nil
  | _, _, n + 1, .cons _ t => RDs.drop n t
theorem RDs.set {d : D} {v : V} (h : RD K H d v) : ∀ {ds : List D} {vs : List V} (n : Nat), RDs K H ds vs → RDs K H (ds.set n d) (vs.set n v)
  | _, _, _, .nil => .nil
  | _, _, 0, .cons _ t => .cons h t
  | _, _, n + 1, .cons r t => .cons r (RDs.set h n t)
theorem RDs.eraseIdx : ∀ {ds : List D} {vs : List V} (n : Nat), RDs K H ds vs → RDs K H (ds.eraseIdx n) (vs.eraseIdx n)
  | _, _, _, .nil => .nil
  | _, _, 0, .cons _ t => t
  | _, _, n + 1, .cons r t => .cons r (RDs.eraseIdx n t)
theorem RDs.ints : ∀ ns : List Int, RDs K H (ns.map D.int) (ns.map V.int)
  | [] => .nil
  | n :: r => .cons (.int n) (RDs.ints r)
theorem RDs.ints_inv : ∀ {ns : List Int} {vs : List V}, RDs K H (ns.map D.int) vs → vs = ns.map V.int
  | [], _, .nil => rfl
  | n :: r, _, .cons (.int _) t => by rw [RDs.ints_inv t]; rfl
theorem RDs.inv1 {d : D} {vs : List V} (h : RDs K H [d] vs) : ∃ v, vs = [v] ∧ RD K H d v := by
  cases h with
  | cons r t => cases t; exact ⟨_, rfl, r⟩
theorem RDs.inv2 {d e : D} {vs : List V} (h : RDs K H [d, e] vs) : ∃ v u, vs = [v, u] ∧ RD K H d v ∧ RD K H e u := by
  cases h with
  | cons r t =>
    obtain ⟨u, rfl, q⟩ := t.inv1
    exact ⟨_, _, rfl, r, q⟩
end
/-- the class of that name -/
def ClsAt (K : PySem.W.Frag) (n : Str) (C : Addr) : Prop := PySem.W.nsIn K mainGlobals n = some (some (.ref C))
theorem ClsAt.eq {K : PySem.W.Frag} {n : Str} {C D : Addr} (h : ClsAt K n C) (g : ClsAt K n D) : C = D := by
  have e := (show PySem.W.nsIn K mainGlobals n = some (some (.ref C)) from h).symm.trans g
  cases e
  rfl
/-- what an instance holds -/
def RDf (K : KK) (H : Hp) : List (Str × D) → List (Str × V) → Prop
  | [], [] => True
  | (x, d) :: r, (y, v) :: q => x = y ∧ RD K H d v ∧ RDf K H r q
  | _, _ => False
theorem RDf.ext {K : KK} {H H' : Hp} (e : Ext H H') : ∀ {fs : List (Str × D)} {gs : List (Str × V)}, RDf K H fs gs → RDf K H' fs gs
  | [], [], _ => trivial
  | _ :: _, _ :: _, ⟨h, r, q⟩ => ⟨h, r.ext e, RDf.ext e q⟩
  | [], _ :: _, h => h.elim
  | _ :: _, [], h => h.elim
theorem RDf.length {K : KK} {H : Hp} : ∀ {fs : List (Str × D)} {gs : List (Str × V)}, RDf K H fs gs → fs.length = gs.length
  | [], [], _ => rfl
  | _ :: _, _ :: _, ⟨_, _, q⟩ => by rw [List.length_cons, List.length_cons, RDf.length q]
  | [], _ :: _, h => h.elim
  | _ :: _, [], h => h.elim
theorem RDf.look {K : KK} {H : Hp} {f : Str} : ∀ {fs : List (Str × D)} {gs : List (Str × V)} {d : D}, RDf K H fs gs → fs.lookup f = some d → ∃ v, gs.lookup f = some v ∧ RD K H d v
  | [], [], _, _, h => by cases h
  | (x, d) :: r, (y, v) :: q, e, ⟨h, r1, q1⟩, hl => by
    subst h
    rw [List.lookup_cons] at hl ⊢
    cases z : f == x with
    | true => rw [z] at hl; cases hl; exact ⟨_, rfl, r1⟩
    | false => rw [z] at hl; exact RDf.look q1 hl
  | [], _ :: _, _, h, _ => h.elim
  | _ :: _, [], _, h, _ => h.elim
theorem RDf.none {K : KK} {H : Hp} {f : Str} : ∀ {fs : List (Str × D)} {gs : List (Str × V)}, RDf K H fs gs → fs.lookup f = Option.none → gs.lookup f = Option.none
  | [], [], _, _ => rfl
  | (x, d) :: r, (y, v) :: q, ⟨h, r1, q1⟩, hl => by
    subst h
    rw [List.lookup_cons] at hl ⊢
    cases z : f == x with
    | true => rw [z] at hl; cases hl
    | false => rw [z] at hl; exact RDf.none q1 hl
  | [], _ :: _, h, _ => h.elim
  | _ :: _, [], h, _ => h.elim
def putFD (f : Str) (v : D) : List (Str × D) → List (Str × D)
  | [] => [(f, v)]
  | (g, x) :: r => if g = f then (g, v) :: r else (g, x) :: putFD f v r
theorem RDf.put {K : KK} {H : Hp} {f : Str} {d : D} {v : V} (h : RD K H d v) : ∀ {fs : List (Str × D)} {gs : List (Str × V)}, RDf K H fs gs → RDf K H (putFD f d fs) (putF f v gs)
  | [], [], _ => ⟨rfl, h, trivial⟩
  | (x, e) :: r, (y, w) :: q, ⟨z, r1, q1⟩ => by
    subst z
    unfold putFD putF
    by_cases z : x = f
    · rw [if_pos z, if_pos z]; exact ⟨rfl, h, q1⟩
    · rw [if_neg z, if_neg z]; exact ⟨rfl, r1, RDf.put h q1⟩
  | [], _ :: _, h => h.elim
  | _ :: _, [], h => h.elim
def RO (K : KK) (H : Hp) (a : Addr) : Ob → Prop
  | .lst ds => ∃ vs, H a = some (.lst vs) ∧ RDs K H ds vs
  | .dK kvs => ∃ vs, H a = some (.dK vs) ∧ RDk K H kvs vs
  | .ins n fs => ∃ C dx gs, ClsAt K.k n C ∧ H a = some (.ins C dx gs) ∧ RDf K H fs gs
  | .tset L => ∃ M : List (Addr × List Int), H a = some (SetTO K.P K.w a M) ∧ (∀ p ∈ M, TupN H p.1 (p.2.map V.int)) ∧ L = M.map (·.2)
  | .iset ns => ∃ S : Key → Bool, H a = some (SetK K.P K.w a S ns.length) ∧ ∀ i, S (Sum.inl i) = true ↔ i ∈ ns
def RelS (K : KK) (S : Sto) (H : Hp) : Prop := ∀ a o, S a = some o → RO K H a o
section
variable {K : KK} {H H' : Hp} {S : Sto} {a p : Addr} {o : Ob} {u w : HO}
theorem RO.ext {o : Ob} (h : RO K H a o) (e : Ext H H') (ha : H' a = H a) : RO K H' a o := by
  cases o with
  | lst ds => obtain ⟨vs, q, r⟩ := h; exact ⟨vs, ha.trans q, r.ext e⟩
  | dK kvs => obtain ⟨vs, q, r⟩ := h; exact ⟨vs, ha.trans q, r.ext e⟩
  | ins n fs => obtain ⟨C, dx, gs, c, q, r⟩ := h; exact ⟨C, dx, gs, c, ha.trans q, r.ext e⟩
  | tset L => obtain ⟨M, q, r, z⟩ := h; exact ⟨M, ha.trans q, fun p hp => (r p hp).ext e, z⟩
  | iset ns => obtain ⟨S, q, r⟩ := h; exact ⟨S, ha.trans q, r⟩
theorem RO.mut (h : RO K H a o) : ∃ u, H a = some u ∧ Mut (some u) := by
  cases o with
  | lst ds => obtain ⟨vs, q, r⟩ := h; exact ⟨_, q, trivial⟩
  | dK kvs => obtain ⟨vs, q, r⟩ := h; exact ⟨_, q, trivial⟩
  | ins n fs => obtain ⟨C, dx, gs, c, q, _⟩ := h; exact ⟨_, q, trivial⟩
  | tset L => obtain ⟨M, q, _⟩ := h; exact ⟨_, q, trivial⟩
  | iset ns => obtain ⟨S, q, _⟩ := h; exact ⟨_, q, trivial⟩
theorem RelS.fresh (h : RelS K S H) (n : H p = none) : S p = none := by
  cases e : S p with
  | none => rfl
  | some o =>
    obtain ⟨u, q, _⟩ := (h p o e).mut
    rw [n] at q
    cases q
/-- something new that is not of the store -/
theorem RelS.new (h : RelS K S H) (n : H p = none) : RelS K S (upd H p u) := fun a o e => (h a o e).ext (.new n) (upd_ne fun z => by
  subst z
  rw [h.fresh n] at e
  cases e)
/-- something new of the store -/
theorem RelS.lay (h : RelS K S H) (n : H p = none) (r : RO K (upd H p u) p o) : RelS K (S.put p o) (upd H p u) := fun a o' e => by
  by_cases z : a = p
  · subst z
    rw [Sto.same] at e
    cases e
    exact r
  · rw [Sto.ne z] at e
    exact h.new n a o' e
/-- something of the store written -/
theorem RelS.put (h : RelS K S H) (n : H p = some w) (m : Mut (some w)) (r : RO K (upd H p u) p o) : RelS K (S.put p o) (upd H p u) := fun a o' e => by
  by_cases z : a = p
  · subst z
    rw [Sto.same] at e
    cases e
    exact r
  · rw [Sto.ne z] at e
    exact (h a o' e).ext (.put n m) (upd_ne z)
theorem RelS.lst (h : RelS K S H) {ds : List D} (e : S a = some (.lst ds)) : ∃ vs, H a = some (.lst vs) ∧ RDs K H ds vs := h a _ e
end
abbrev Env := List (Option D)
abbrev DK := D → Sto → Prop
abbrev DTE := Env → Sto → DK → Prop
abbrev DTT := Env → Sto → (Bool → Sto → Prop) → Prop
abbrev DTA := Env → Sto → (List D → Sto → Prop) → Prop
structure DEnds where
  nx : Env → Sto → Prop
  rt : DK
  bk : Env → Sto → Prop := fun _ _ => False
  ct : Env → Sto → Prop := fun _ _ => False
abbrev DTS := DEnds → Env → Sto → Prop
structure RS (K : KK) (σ : L2.St) (H : Hp) (env : Env) (S : Sto) : Prop where
  len : env.length = σ.length
  slot : ∀ (i : Nat) (d : D), env[i]? = some (some d) → ∃ v, σ[i]? = some (some v) ∧ RD K H d v
  sto : RelS K S H
theorem RS.ext {K : KK} {σ : L2.St} {H H' : Hp} {env : Env} {S S' : Sto} (r : RS K σ H env S) (e : Ext H H') (s : RelS K S' H') : RS K σ H' env S' :=
  ⟨r.len, fun i d h => let ⟨v, q, x⟩ := r.slot i d h; ⟨v, q, x.ext e⟩, s⟩
theorem RS.set {K : KK} {σ : L2.St} {H : Hp} {env : Env} {S : Sto} {d : D} {v : V} (r : RS K σ H env S) (i : Nat) (h : RD K H d v) : RS K (σ.set i (some v)) H (env.set i (some d)) S := by
  refine ⟨by rw [List.length_set, List.length_set]; exact r.len, fun j d' e => ?_, r.sto⟩
  by_cases z : i = j
  · subst z
    by_cases hl : i < env.length
    · rw [List.getElem?_set_self hl] at e
      cases e
      exact ⟨v, List.getElem?_set_self (r.len ▸ hl), h⟩
    · rw [List.getElem?_eq_none (by rw [List.length_set]; omega)] at e
      cases e
  · rw [List.getElem?_set_ne z] at e ⊢
    exact r.slot j d' e
section
variable (K : KK)
def lE (t : DTE) : TE := fun σ H Q => ∃ env S R, RS K σ H env S ∧ t env S R ∧ ∀ d S' v H', R d S' → RelS K S' H' → RD K H' d v → Ext H H' → Q v H'
def lT (t : DTT) : TT := fun σ H Q => ∃ env S R, RS K σ H env S ∧ t env S R ∧ ∀ b S' H', R b S' → RelS K S' H' → Ext H H' → Q b H'
def lA (t : DTA) : TA := fun σ H Q => ∃ env S R, RS K σ H env S ∧ t env S R ∧ ∀ ds S' vs H', R ds S' → RelS K S' H' → RDs K H' ds vs → Ext H H' → Q vs H'
def lS (t : DTS) : TS := fun B σ H => ∃ env S C, RS K σ H env S ∧ t C env S ∧
  (∀ env' S' σ' H', C.nx env' S' → RS K σ' H' env' S' → Ext H H' → B.nx σ' H') ∧ (∀ d S' v H', C.rt d S' → RelS K S' H' → RD K H' d v → Ext H H' → B.rt v H') ∧
  (∀ env' S' σ' H', C.bk env' S' → RS K σ' H' env' S' → Ext H H' → B.bk σ' H') ∧ (∀ env' S' σ' H', C.ct env' S' → RS K σ' H' env' S' → Ext H H' → B.ct σ' H')
end
structure DE (X : Cx) (e : Expr) (t : DTE) : Prop where
  run : PE X e (lE X.kk t)
structure DT (X : Cx) (e : Expr) (t : DTT) : Prop where
  run : PT X e (lT X.kk t)
structure DW (X : Cx) (e : Expr) (t : DTT) : Prop where
  run : PW X e (lT X.kk t)
structure DA (X : Cx) (es : List Expr) (t : DTA) : Prop where
  run : PA X es (lA X.kk t)
structure DS (X : Cx) (st : Stmt) (t : DTS) : Prop where
  run : PS X st (lS X.kk t)
structure DSs (X : Cx) (sts : List Stmt) (t : DTS) : Prop where
  run : PSs X sts (lS X.kk t)
section
variable {X : Cx}
theorem _root_.L2.PE.of {e : Expr} {t t' : TE} (h : PE X e t) (q : ∀ σ H Q, t' σ H Q → t σ H Q) : PE X e t' := ⟨fun pins s σ H Q I w => h.run pins s σ H Q I (q σ H Q w)⟩
theorem _root_.L2.PT.of {e : Expr} {t t' : TT} (h : PT X e t) (q : ∀ σ H Q, t' σ H Q → t σ H Q) : PT X e t' := ⟨fun pins s σ H Q I w => h.run pins s σ H Q I (q σ H Q w)⟩
theorem _root_.L2.PW.of {e : Expr} {t t' : TT} (h : PW X e t) (q : ∀ σ H Q, t' σ H Q → t σ H Q) : PW X e t' := ⟨fun wh pins s σ H Q I w => h.run wh pins s σ H Q I (q σ H Q w)⟩
theorem _root_.L2.PA.of {e : List Expr} {t t' : TA} (h : PA X e t) (q : ∀ σ H Q, t' σ H Q → t σ H Q) : PA X e t' := ⟨fun pos pins s σ H Q I w => h.run pos pins s σ H Q I (q σ H Q w)⟩
theorem _root_.L2.PS.of {e : Stmt} {t t' : TS} (h : PS X e t) (q : ∀ σ H Q, t' Q σ H → t Q σ H) : PS X e t' := ⟨fun pins s σ H Q I w => h.run pins s σ H Q I (q σ H Q w)⟩
theorem _root_.L2.PSs.of {e : List Stmt} {t t' : TS} (h : PSs X e t) (q : ∀ σ H Q, t' Q σ H → t Q σ H) : PSs X e t' := ⟨fun pins s σ H Q I w => h.run pins s σ H Q I (q σ H Q w)⟩
def dVar (i : Nat) : DTE := fun env S R => ∃ d, env[i]? = some (some d) ∧ R d S
def dC (d : D) : DTE := fun _ S R => R d S
theorem de_var {i : Nat} {x : Str} {pos : Pos} (hN : X.N[i]? = some x) (hv : Vis X.env.scope x) (hd : (x == ("__debug__" : Str)) = false := by decide) (hcd : (x == ("__classdict__" : Str)) = false := by decide) : DE X (.Name x pos) (dVar i) :=
  ⟨(pe_var hN hv hd hcd).of fun σ H Q ⟨env, S, R, rs, ⟨d, h, q⟩, k⟩ => let ⟨v, e, r⟩ := rs.slot i d h; ⟨v, e, k _ _ _ _ q rs.sto r (.refl H)⟩⟩
theorem de_int {i j pos} : DE X (.Constant (.int i) j pos) (dC (.int i)) := ⟨pe_int.of fun σ H Q ⟨env, S, R, rs, q, k⟩ => k _ _ _ _ q rs.sto (.int i) (.refl H)⟩
theorem de_bl {b j pos} : DE X (.Constant (.bool b) j pos) (dC (.bl b)) := ⟨pe_bl.of fun σ H Q ⟨env, S, R, rs, q, k⟩ => k _ _ _ _ q rs.sto (.bl b) (.refl H)⟩
theorem de_non {j pos} : DE X (.Constant .none j pos) (dC .non) := ⟨pe_non.of fun σ H Q ⟨env, S, R, rs, q, k⟩ => k _ _ _ _ q rs.sto .non (.refl H)⟩
theorem de_str {x j pos} : DE X (.Constant (.str x) j pos) (dC (.str x)) := ⟨pe_str.of fun σ H Q ⟨env, S, R, rs, q, k⟩ => k _ _ _ _ q rs.sto (.str x) (.refl H)⟩
abbrev DR2 := D → D → Sto → DK → Prop
def l2 (K : KK) (r : DR2) : R2 := fun x y H Q => ∃ d e S R, RD K H d x ∧ RD K H e y ∧ RelS K S H ∧ r d e S R ∧ ∀ z S' v H', R z S' → RelS K S' H' → RD K H' z v → Ext H H' → Q v H'
def dBin (r : DR2) (ta tb : DTE) : DTE := fun env S R => ta env S fun x S1 => tb env S1 fun y S2 => r x y S2 R
theorem l2_bin {K : KK} {r : DR2} {ta tb : DTE} {σ : L2.St} {H : Hp} {Q : VK} (h : lE K (dBin r ta tb) σ H Q) : tOp (l2 K r) (lE K ta) (lE K tb) σ H Q := by
  obtain ⟨env, S, R, rs, h, k⟩ := h
  refine ⟨env, S, _, rs, h, fun d S1 v H1 q1 s1 r1 e1 => ⟨env, S1, _, rs.ext e1 s1, q1, fun e S2 u H2 q2 s2 r2 e2 => ⟨d, e, S2, R, r1.ext e2, r2, s2, q2, fun z S3 w H3 q3 s3 r3 e3 => k _ _ _ _ q3 s3 r3 (e1.trans (e2.trans e3))⟩⟩⟩
variable {a b : Expr} {ta tb tc : DTE} {pos : Pos}
theorem de_bin {op : Operator} {r : DR2} (ho : OpR X (binaryOp op) (l2 X.kk r)) (ha : DE X a ta) (hb : DE X b tb) : DE X (.BinOp a op b pos) (dBin r ta tb) := ⟨(pe_op ho ha.run hb.run).of fun _ _ _ => l2_bin⟩
theorem de_cmp {op : CmpOp} {r : DR2} (ho : OpR X (compareOp op) (l2 X.kk r)) (ha : DE X a ta) (hb : DE X b tb) (hm : behindInMarks op b = false := by first | rfl | exact nomark _) : DE X (.Compare a [op] [b] pos) (dBin r ta tb) := ⟨(pe_cmpR ho ha.run hb.run hm).of fun _ _ _ => l2_bin⟩
def dB (t : DTE) : DTT := fun env S R => t env S fun x S1 => ∃ c, x = .bl c ∧ R c S1
theorem lT_b {K : KK} {t : DTE} {σ : L2.St} {H : Hp} {Q : Bool → Hp → Prop} (h : lT K (dB t) σ H Q) : tB (lE K t) σ H Q := by
  obtain ⟨env, S, R, rs, h, k⟩ := h
  refine ⟨env, S, _, rs, h, fun d S1 v H1 ⟨c, q, q1⟩ s1 r1 e1 => ?_⟩
  subst q
  cases r1
  exact ⟨c, rfl, k _ _ _ q1 s1 e1⟩
theorem dt_cmp {op : CmpOp} {r : DR2} (ho : OpR X (compareOp op) (l2 X.kk r)) (ha : DE X a ta) (hb : DE X b tb) (hm : behindInMarks op b = false := by first | rfl | exact nomark _) : DT X (.Compare a [op] [b] pos) (dB (dBin r ta tb)) := by
  refine ⟨(pt_cmpR ho ha.run hb.run hm).of fun σ H Q h => ?_⟩
  obtain ⟨env, S, R, rs, h, k⟩ := lT_b h
  exact l2_bin ⟨env, S, R, rs, h, k⟩
/-- an expression whose value is a bool, as a test -/
theorem dt_val {e : Expr} {t : DTE} (h : DE X e t) (he : ∀ whole, isTrue e X.env whole = (do let v ← whole; standAt e.pos; holding [v] (truthy v)) := by intro _; rfl) : DT X e (dB t) := ⟨(pt_val h.run he).of fun _ _ _ => lT_b⟩
end
end Sv
namespace Sv
open PySem PySem.Spec PyProof.Rows L2
section
variable {X : Cx} {a b c e : Expr} {es rest : List Expr} {ta tb te : DTE} {t u : DTT} {tl : DTA} {pos : Pos}
def dAnd (t u : DTT) : DTT := fun env S R => t env S fun c S1 => if c = true then u env S1 R else R false S1
def dOr (t u : DTT) : DTT := fun env S R => t env S fun c S1 => if c = true then R true S1 else u env S1 R
def dNot (t : DTT) : DTT := fun env S R => t env S fun c S1 => R (!c) S1
theorem dw_and1 (h : DT X a t) : DW X (.BoolOp .And [a] pos) t := ⟨pw_and1 h.run⟩
theorem dw_or1 (h : DT X a t) : DW X (.BoolOp .Or [a] pos) t := ⟨pw_or1 h.run⟩
theorem dw_and (ha : DT X a t) (hb : DW X (.BoolOp .And (b :: rest) pos) u) : DW X (.BoolOp .And (a :: b :: rest) pos) (dAnd t u) := by
  refine ⟨(pw_and ha.run hb.run).of fun σ H Q ⟨env, S, R, rs, h, k⟩ => ⟨env, S, _, rs, h, fun c S1 H1 q s1 e1 => ?_⟩⟩
  cases c with
  | true => exact ⟨env, S1, R, rs.ext e1 s1, q, fun c S2 H2 q s2 e2 => k _ _ _ q s2 (e1.trans e2)⟩
  | false => exact k _ _ _ q s1 e1
theorem dw_or (ha : DT X a t) (hb : DW X (.BoolOp .Or (b :: rest) pos) u) : DW X (.BoolOp .Or (a :: b :: rest) pos) (dOr t u) := by
  refine ⟨(pw_or ha.run hb.run).of fun σ H Q ⟨env, S, R, rs, h, k⟩ => ⟨env, S, _, rs, h, fun c S1 H1 q s1 e1 => ?_⟩⟩
  cases c with
  | false => exact ⟨env, S1, R, rs.ext e1 s1, q, fun c S2 H2 q s2 e2 => k _ _ _ q s2 (e1.trans e2)⟩
  | true => exact k _ _ _ q s1 e1
theorem DW.dt (h : DW X e t) : DT X e t := ⟨h.run.pt⟩
theorem dt_not (h : DT X a t) : DT X (.UnaryOp .Not a pos) (dNot t) :=
  ⟨(pt_not h.run).of fun σ H Q ⟨env, S, R, rs, h, k⟩ => ⟨env, S, _, rs, h, fun c S1 H1 q s1 e1 => k _ _ _ q s1 e1⟩⟩
/-- bools as values -/
def dAndV (ta tb : DTE) : DTE := fun env S R => ta env S fun x S1 => ∃ c, x = .bl c ∧ if c = true then tb env S1 R else R (.bl false) S1
theorem de_one {op} (h : DE X a ta) : DE X (.BoolOp op [a] pos) ta := ⟨pe_one h.run⟩
theorem de_and (ha : DE X a ta) (hb : DE X (.BoolOp .And (b :: rest) pos) tb) : DE X (.BoolOp .And (a :: b :: rest) pos) (dAndV ta tb) := by
  refine ⟨(pe_and ha.run hb.run).of fun σ H Q ⟨env, S, R, rs, h, k⟩ => ⟨env, S, _, rs, h, fun d S1 v H1 ⟨c, z, q⟩ s1 r1 e1 => ?_⟩⟩
  subst z
  cases r1
  refine ⟨c, rfl, ?_⟩
  cases c with
  | true => exact ⟨env, S1, R, rs.ext e1 s1, q, fun c S2 v H2 q s2 r2 e2 => k _ _ _ _ q s2 r2 (e1.trans e2)⟩
  | false => exact k _ _ _ _ q s1 (.bl _) e1
def dIf (t : DTT) (ta tb : DTE) : DTE := fun env S R => t env S fun c S1 => if c = true then ta env S1 R else tb env S1 R
theorem de_ifExp (hc : DT X c t) (ha : DE X a ta) (hb : DE X b tb) : DE X (.IfExp c a b pos) (dIf t ta tb) := by
  refine ⟨(pe_ifExp hc.run ha.run hb.run).of fun σ H Q ⟨env, S, R, rs, h, k⟩ => ⟨env, S, _, rs, h, fun c S1 H1 q s1 e1 => ?_⟩⟩
  cases c with
  | true => exact ⟨env, S1, R, rs.ext e1 s1, q, fun c S2 v H2 q s2 r2 e2 => k _ _ _ _ q s2 r2 (e1.trans e2)⟩
  | false => exact ⟨env, S1, R, rs.ext e1 s1, q, fun c S2 v H2 q s2 r2 e2 => k _ _ _ _ q s2 r2 (e1.trans e2)⟩
/-- an operator of one value -/
abbrev DR1 := D → Sto → DK → Prop
def l1 (K : KK) (r : DR1) : V → Hp → VK → Prop := fun x H Q => ∃ d S R, RD K H d x ∧ RelS K S H ∧ r d S R ∧ ∀ z S' v H', R z S' → RelS K S' H' → RD K H' z v → Ext H H' → Q v H'
def dUn (r : DR1) (ta : DTE) : DTE := fun env S R => ta env S fun x S1 => r x S1 R
theorem l1_un {K : KK} {r : DR1} {σ : L2.St} {H : Hp} {Q : VK} (h : lE K (dUn r ta) σ H Q) : lE K ta σ H (fun x H1 => l1 K r x H1 Q) := by
  obtain ⟨env, S, R, rs, h, k⟩ := h
  exact ⟨env, S, _, rs, h, fun d S1 v H1 q s1 r1 e1 => ⟨d, S1, R, r1, s1, q, fun z S2 w H2 q2 s2 r2 e2 => k _ _ _ _ q2 s2 r2 (e1.trans e2)⟩⟩
theorem de_un {op : UnaryOp} {r : DR1} (ho : UnR X (unaryOp op) (l1 X.kk r)) (ha : DE X a ta) : DE X (.UnaryOp op a pos) (dUn r ta) := ⟨(pe_un ho ha.run).of fun _ _ _ => l1_un⟩
def isNon : D → Bool
  | .non => true
  | _ => false
def dIsN (ta : DTE) : DTE := dUn (fun d S R => R (.bl (isNon d)) S) ta
def dNotN (ta : DTE) : DTE := dUn (fun d S R => R (.bl (!isNon d)) S) ta
theorem rd_non {K : KK} {H : Hp} {d : D} {v : V} (r : RD K H d v) : decide (v = .non) = isNon d := by cases r <;> rfl
theorem lE_isN {K : KK} {σ : L2.St} {H : Hp} {Q : VK} (h : lE K (dIsN ta) σ H Q) : tIsN (lE K ta) σ H Q := by
  obtain ⟨env, S, R, rs, h, k⟩ := h
  refine ⟨env, S, _, rs, h, fun d S1 v H1 q s1 r1 e1 => ?_⟩
  show Q (.bl (decide (v = .non))) H1
  rw [rd_non r1]
  exact k _ _ _ _ q s1 (.bl _) e1
theorem lE_notN {K : KK} {σ : L2.St} {H : Hp} {Q : VK} (h : lE K (dNotN ta) σ H Q) : tNotN (lE K ta) σ H Q := by
  obtain ⟨env, S, R, rs, h, k⟩ := h
  refine ⟨env, S, _, rs, h, fun d S1 v H1 q s1 r1 e1 => ?_⟩
  show Q (.bl (!decide (v = .non))) H1
  rw [rd_non r1]
  exact k _ _ _ _ q s1 (.bl _) e1
theorem de_isN {j pos'} (ha : DE X a ta) : DE X (.Compare a [.Is] [.Constant .none j pos'] pos) (dIsN ta) := ⟨(pe_cmp (pc_isN ha.run)).of fun _ _ _ => lE_isN⟩
theorem dt_notN {j pos'} (ha : DE X a ta) : DT X (.Compare a [.IsNot] [.Constant .none j pos'] pos) (dB (dNotN ta)) := ⟨(pt_cmp (pc_notN ha.run)).of fun _ _ _ h => by
  obtain ⟨env, S, R, rs, h, k⟩ := lT_b h
  exact lE_notN ⟨env, S, R, rs, h, k⟩⟩
def dNil : DTA := fun _ S R => R [] S
def dCons (ta : DTE) (tr : DTA) : DTA := fun env S R => ta env S fun x S1 => tr env S1 fun xs S2 => R (x :: xs) S2
theorem da_nil : DA X [] dNil := ⟨pa_nil.of fun σ H Q ⟨env, S, R, rs, q, k⟩ => k _ _ _ _ q rs.sto .nil (.refl H)⟩
theorem da_cons (ha : DE X e ta) (hr : DA X es tl) (hs : starEach (e :: es) X.env = (false, eval e X.env) :: starEach es X.env := by rfl) : DA X (e :: es) (dCons ta tl) :=
  ⟨(pa_cons ha.run hr.run hs).of fun σ H Q ⟨env, S, R, rs, h, k⟩ => ⟨env, S, _, rs, h, fun d S1 v H1 q s1 r1 e1 => ⟨env, S1, _, rs.ext e1 s1, q, fun ds S2 vs H2 q2 s2 r2 e2 => k _ _ _ _ q2 s2 (.cons (r1.ext e2) r2) (e1.trans e2)⟩⟩⟩
theorem sz1000 {α : Type} {xs : List α} (h : decide (xs.length ≤ 1000) = true) : xs.length ≤ sizeLine := Nat.le_trans (of_decide_eq_true h) (by decide)
def dTup (t : DTA) : DTE := fun env S R => t env S fun ds S1 => decide (ds.length ≤ 1000) = true ∧ R (.tup ds) S1
def dLst (t : DTA) : DTE := fun env S R => t env S fun ds S1 => decide (ds.length ≤ 1000) = true ∧ ∀ p, S1 p = none → R (.ref p) (S1.put p (.lst ds))
theorem de_tup {x1} (h : DA X es tl) : DE X (.Tuple es x1 pos) (dTup tl) := by
  refine ⟨(pe_tupF h.run).of fun σ H Q ⟨env, S, R, rs, h, k⟩ => ⟨env, S, _, rs, h, fun ds S1 vs H1 ⟨hz, q⟩ s1 r1 e1 => ⟨?_, fun p o np ho => ?_⟩⟩⟩
  · rw [← r1.length]
    exact sz1000 hz
  · exact k _ _ _ _ q (s1.new np) (.tup (.new ho) (r1.ext (.new np))) (e1.trans (.new np))
theorem de_lst (h : DA X es tl) : DE X (.List es pos) (dLst tl) := by
  refine ⟨(pe_lst h.run).of fun σ H Q ⟨env, S, R, rs, h, k⟩ => ⟨env, S, _, rs, h, fun ds S1 vs H1 ⟨hz, q⟩ s1 r1 e1 => ⟨?_, fun p np => ?_⟩⟩⟩
  · rw [← r1.length]
    exact sz1000 hz
  · exact k _ _ _ _ (q p (s1.fresh np)) (s1.lay np ⟨_, upd_same, r1.ext (.new np)⟩) (.ref p) (e1.trans (.new np))
abbrev DRC := List D → Sto → DK → Prop
def lC (K : KK) (r : DRC) : List V → Hp → VK → Prop := fun vs H Q => ∃ ds S R, RDs K H ds vs ∧ RelS K S H ∧ r ds S R ∧ ∀ z S' v H', R z S' → RelS K S' H' → RD K H' z v → Ext H H' → Q v H'
def dCB (r : DRC) (t : DTA) : DTE := fun env S R => t env S fun ds S1 => r ds S1 R
theorem lC_of {K : KK} {r : DRC} {σ : L2.St} {H : Hp} {Q : VK} (h : lE K (dCB r tl) σ H Q) : lA K tl σ H (fun vs H1 => lC K r vs H1 Q) := by
  obtain ⟨env, S, R, rs, h, k⟩ := h
  exact ⟨env, S, _, rs, h, fun ds S1 vs H1 q s1 r1 e1 => ⟨ds, S1, R, r1, s1, q, fun z S2 w H2 q2 s2 r2 e2 => k _ _ _ _ q2 s2 r2 (e1.trans e2)⟩⟩
theorem de_callB {r : DRC} {id : String} {x : Str} {p : Pos} (hc : CallR X (.builtin id) (lC X.kk r)) (hg : Gl X x) (hm : X.mg x = none) (hv : bootBuiltins x = some (.builtin id)) (ha : DA X (e :: es) tl) (hn : x ≠ "__name__" := by decide) (hdb : (x == ("__debug__" : Str)) = false := by decide)
    (he : starEach (e :: es) X.env = (false, eval e X.env) :: starEach es X.env := by rfl) (hpl : (backTo pos (starEach es X.env)).any (·.1) = false := by rfl) : DE X (.Call (.Name x p) (e :: es) [] pos) (dCB r tl) :=
  ⟨(pe_callB hc hg hm hv ha.run hn hdb he hpl).of fun _ _ _ => lC_of⟩
theorem de_callTy {r : DRC} {T : String} {x : Str} {p : Pos} (hc : CallR X (.type T) (lC X.kk r)) (hg : Gl X x) (hm : X.mg x = none) (hv : bootBuiltins x = some (.type T)) (ha : DA X (e :: es) tl) (hn : x ≠ "__name__" := by decide) (hdb : (x == ("__debug__" : Str)) = false := by decide)
    (he : starEach (e :: es) X.env = (false, eval e X.env) :: starEach es X.env := by rfl) (hpl : (backTo pos (starEach es X.env)).any (·.1) = false := by rfl) : DE X (.Call (.Name x p) (e :: es) [] pos) (dCB r tl) :=
  ⟨(pe_callTy hc hg hm hv ha.run hn hdb he hpl).of fun _ _ _ => lC_of⟩
/-- a def's promise over data: n arguments -/
def lP (K : KK) (n : Nat) (r : DRC) : Sp := fun vs H Q _ => vs.length = n ∧ lC K r vs H Q
structure DFn (P : Program) (w : World) (K : PySem.W.Frag) (mg : Str → Option Value) (base : Heap) (k : Nat) (x : Str) (n : Nat) (r : DRC) : Prop where
  ex : ∃ (f : Addr) (fd : FuncData) (ps : List Str), FnG P w K mg base k f fd ps (lP ⟨P, w, K⟩ n r) ∧ mg x = some (.ref f) ∧ PySem.W.keepIn K (.ref f) = true ∧ Binds K fd ps []
def dCall (n : Nat) (r : DRC) (t : DTA) : DTE := dCB (fun ds S R => decide (ds.length = n) = true ∧ r ds S R) t
/-- the same of a def that makes no text (whatever runs around) -/
structure DFo (P : Program) (w : World) (K : PySem.W.Frag) (mg : Str → Option Value) (base : Heap) (k : Nat) (x : Str) (n : Nat) (r : DRC) : Prop where
  ex : ∃ (f : Addr) (fd : FuncData) (ps : List Str), FnOk P w K mg base CX0 k f fd ps (lP ⟨P, w, K⟩ n r) ∧ mg x = some (.ref f) ∧ PySem.W.keepIn K (.ref f) = true ∧ Binds K fd ps []
theorem de_callo {k n : Nat} {r : DRC} {x : Str} {p : Pos} (F : DFo X.prog X.w X.K X.mg X.base k x n r) (hr : Room k X.A) (hg : Gl X x) (ha : DA X (e :: es) tl) (hdb : (x == ("__debug__" : Str)) = false := by decide)
    (he : starEach (e :: es) X.env = (false, eval e X.env) :: starEach es X.env := by rfl) (hpl : (backTo pos (starEach es X.env)).any (·.1) = false := by rfl) : DE X (.Call (.Name x p) (e :: es) [] pos) (dCall n r tl) := by
  obtain ⟨f, fd, ps, F, hm, hk, hb⟩ := F.ex
  refine ⟨(pe_call F hr hg hm hk hb .nil (E := fun _ _ _ => False) pass0 ha.run hdb he hpl).of fun σ H Q h => ?_⟩
  obtain ⟨env, S, R, rs, h, k⟩ := lC_of h
  refine ⟨env, S, R, rs, h, fun ds S1 vs H1 q s1 r1 e1 => ?_⟩
  obtain ⟨ds', S', R', r', s', ⟨hl, q'⟩, k'⟩ := k ds S1 vs H1 q s1 r1 e1
  rw [List.append_nil]
  exact ⟨by rw [← r'.length]; exact of_decide_eq_true hl, ds', S', R', r', s', q', k'⟩
/-- .. of a def with a star: its values behind one another -/
structure DFs (P : Program) (w : World) (K : PySem.W.Frag) (mg : Str → Option Value) (base : Heap) (k : Nat) (x : Str) (r : DRC) : Prop where
  ex : ∃ f : Addr, FnR P w K mg base CX0 k f (fun vs H Q _ => lC ⟨P, w, K⟩ r vs H Q) ∧ mg x = some (.ref f) ∧ PySem.W.keepIn K (.ref f) = true
abbrev DRM := D → List D → Sto → DK → Prop
def lM (K : KK) (r : DRM) : V → List V → Hp → VK → Prop := fun x vs H Q => ∃ d ds S R, RD K H d x ∧ RDs K H ds vs ∧ RelS K S H ∧ r d ds S R ∧ ∀ z S' v H', R z S' → RelS K S' H' → RD K H' z v → Ext H H' → Q v H'
end
section
variable {X : Cx} {st : Stmt} {rest : List Stmt} {t u : DTS} {e : Expr} {te : DTE} {pos : Pos}
def dNext : DTS := fun C env S => C.nx env S
def dSeq (t u : DTS) : DTS := fun C env S => t { C with nx := u C } env S
theorem dss_nil : DSs X [] dNext := ⟨pss_nil.of fun σ H B ⟨env, S, C, rs, q, k, _⟩ => k _ _ _ _ q rs (.refl H)⟩
theorem lS_seq {K : KK} {σ : L2.St} {H : Hp} {B : Ends} (h : lS K (dSeq t u) B σ H) : tSeq (lS K t) (lS K u) B σ H := by
  obtain ⟨env, S, C, rs, h, k1, k2, k3, k4⟩ := h
  refine ⟨env, S, _, rs, h, fun env1 S1 σ1 H1 q r1 e1 => ⟨env1, S1, C, r1, q, ?_, ?_, ?_, ?_⟩, k2, k3, k4⟩
  · exact fun env2 S2 σ2 H2 q2 r2 e2 => k1 _ _ _ _ q2 r2 (e1.trans e2)
  · exact fun d S2 v H2 q2 s2 r2 e2 => k2 _ _ _ _ q2 s2 r2 (e1.trans e2)
  · exact fun env2 S2 σ2 H2 q2 r2 e2 => k3 _ _ _ _ q2 r2 (e1.trans e2)
  · exact fun env2 S2 σ2 H2 q2 r2 e2 => k4 _ _ _ _ q2 r2 (e1.trans e2)
theorem dss_cons (h1 : DS X st t) (h2 : DSs X rest u) : DSs X (st :: rest) (dSeq t u) := ⟨(pss_cons h1.run h2.run).of fun _ _ _ => lS_seq⟩
theorem dss_one (h1 : DS X st t) : DSs X [st] t := ⟨pss_one h1.run⟩
theorem ds_pass : DS X (.Pass pos) dNext := ⟨ps_pass.of fun σ H B ⟨env, S, C, rs, q, k, _⟩ => k _ _ _ _ q rs (.refl H)⟩
def dDrop (te : DTE) : DTS := fun C env S => te env S fun _ S1 => C.nx env S1
theorem ds_expr (he : DE X e te) (hs : swapsWith e none pos.line X.env = pure false := by rfl) : DS X (.Expr e pos) (dDrop te) :=
  ⟨(ps_expr he.run hs).of fun σ H B ⟨env, S, C, rs, h, k, _⟩ => ⟨env, S, _, rs, h, fun d S1 v H1 q s1 r1 e1 => k _ _ _ _ q (rs.ext e1 s1) e1⟩⟩
def dRet (te : DTE) : DTS := fun C env S => te env S C.rt
theorem ds_ret (he : DE X e te) : DS X (.Return (some e) pos) (dRet te) :=
  ⟨(ps_ret he.run).of fun σ H B ⟨env, S, C, rs, h, _, k, _⟩ => ⟨env, S, _, rs, h, fun d S1 v H1 q s1 r1 e1 => k _ _ _ _ q s1 r1 e1⟩⟩
/-- ways behind a first step -/
theorem lS_go {K : KK} {σ : L2.St} {H H1 : Hp} {B : Ends} {C : DEnds} {env : Env} {S1 : Sto} (rs : RS K σ H1 env S1) (e1 : Ext H H1) (q : t C env S1)
    (k : (∀ env' S' σ' H', C.nx env' S' → RS K σ' H' env' S' → Ext H H' → B.nx σ' H') ∧ (∀ d S' v H', C.rt d S' → RelS K S' H' → RD K H' d v → Ext H H' → B.rt v H') ∧
      (∀ env' S' σ' H', C.bk env' S' → RS K σ' H' env' S' → Ext H H' → B.bk σ' H') ∧ (∀ env' S' σ' H', C.ct env' S' → RS K σ' H' env' S' → Ext H H' → B.ct σ' H')) : lS K t B σ H1 :=
  ⟨env, S1, C, rs, q, fun _ _ _ _ q r e => k.1 _ _ _ _ q r (e1.trans e), fun _ _ _ _ q s r e => k.2.1 _ _ _ _ q s r (e1.trans e), fun _ _ _ _ q r e => k.2.2.1 _ _ _ _ q r (e1.trans e), fun _ _ _ _ q r e => k.2.2.2 _ _ _ _ q r (e1.trans e)⟩
def dIfS (c : DTT) (t u : DTS) : DTS := fun C env S => c env S fun b S1 => if b = true then t C env S1 else u C env S1
theorem ds_if {c : Expr} {a b : List Stmt} {tc : DTT} (hc : DT X c tc) (ha : DSs X a t) (hb : DSs X b u) : DS X (.If c a b pos) (dIfS tc t u) := by
  refine ⟨(ps_if hc.run ha.run hb.run).of fun σ H B ⟨env, S, C, rs, h, k⟩ => ⟨env, S, _, rs, h, fun c S1 H1 q s1 e1 => ?_⟩⟩
  cases c with
  | true => exact lS_go (rs.ext e1 s1) e1 q k
  | false => exact lS_go (rs.ext e1 s1) e1 q k
def RDw (K : KK) (b : Bool) (H : Hp) (d : D) (v : V) : Prop := RD K H d v ∨ (b = false ∧ ∃ a ds vs, d = .tup ds ∧ v = .ref a ∧ SqT K.k H a vs ∧ RDs K H ds vs)
abbrev DTG := D → Env → Sto → (Env → Sto → Prop) → Prop
abbrev DTGs := List D → Env → Sto → (Env → Sto → Prop) → Prop
def Off (vs : List Nat) (σ σ' : L2.St) : Prop := σ'.length = σ.length ∧ ∀ i, i ∉ vs → σ'[i]? = σ[i]?
theorem Off.refl (vs : List Nat) (σ : L2.St) : Off vs σ σ := ⟨rfl, fun _ _ => rfl⟩
theorem Off.trans {vs : List Nat} {σ σ1 σ2 : L2.St} (x : Off vs σ σ1) (y : Off vs σ1 σ2) : Off vs σ σ2 := ⟨y.1.trans x.1, fun i h => (y.2 i h).trans (x.2 i h)⟩
theorem Off.mono {vs us : List Nat} {σ σ' : L2.St} (x : Off vs σ σ') (h : ∀ i ∈ vs, i ∈ us) : Off us σ σ' := ⟨x.1, fun i hi => x.2 i fun z => hi (h i z)⟩
def lG (K : KK) (b : Bool) (vs : List Nat) (g : DTG) : TG := fun v σ H Q => ∃ d env S R, RDw K b H d v ∧ RS K σ H env S ∧ g d env S R ∧ ∀ env' S' σ' H', R env' S' → RS K σ' H' env' S' → Ext H H' → Off vs σ σ' → Q σ' H'
def lGs (K : KK) (vs : List Nat) (g : DTGs) : TGs := fun us σ H Q => ∃ ds env S R, RDs K H ds us ∧ RS K σ H env S ∧ g ds env S R ∧ ∀ env' S' σ' H', R env' S' → RS K σ' H' env' S' → Ext H H' → Off vs σ σ' → Q σ' H'
structure DG (X : Cx) (b : Bool) (vs : List Nat) (tg : Expr) (g : DTG) : Prop where
  run : PG X tg (lG X.kk b vs g)
structure DGs (X : Cx) (vs : List Nat) (ts : List Expr) (g : DTGs) : Prop where
  run : PGs X ts (lGs X.kk vs g)
theorem _root_.L2.PG.of {tg : Expr} {t t' : TG} (h : PG X tg t) (q : ∀ v σ H Q, t' v σ H Q → t v σ H Q) : PG X tg t' := ⟨fun pins s σ H v u Q I r w => h.run pins s σ H v u Q I r (q v σ H Q w)⟩
theorem _root_.L2.PG.or {tg : Expr} {t t' : TG} (h : PG X tg t) (h' : PG X tg t') : PG X tg (fun v σ H Q => t v σ H Q ∨ t' v σ H Q) := ⟨fun pins s σ H v u Q I r w => w.elim (h.run pins s σ H v u Q I r) (h'.run pins s σ H v u Q I r)⟩
theorem _root_.L2.PGs.of {ts : List Expr} {t t' : TGs} (h : PGs X ts t) (q : ∀ v σ H Q, t' v σ H Q → t v σ H Q) : PGs X ts t' := ⟨fun pins s σ H v u Q I r w => h.run pins s σ H v u Q I r (q v σ H Q w)⟩
def dgName (i : Nat) : DTG := fun d env S R => R (env.set i (some d)) S
theorem dg_name {i : Nat} {x : Str} (hN : X.N.Nodup) (hi : X.N[i]? = some x) (hx : Loc X.env.scope x) (hf : X.fn x = true ∨ X.env.scope.names.lookup x = some .local := by first | exact .inl rfl | exact .inr rfl | assumption) : DG X true [i] (.Name x pos) (dgName i) := by
  refine ⟨(pg_name hN hi hx hf).of fun v σ H Q ⟨d, env, S, R, rw', rs, q, k⟩ => ?_⟩
  rcases rw' with r | ⟨z, _⟩
  · exact k _ _ _ _ q (rs.set i r) (.refl H) ⟨List.length_set, fun j hj => List.getElem?_set_ne fun z => hj (by rw [z]; exact List.mem_singleton_self _)⟩
  · cases z
def dgNil : DTGs := fun ds env S R => ds = [] ∧ R env S
def dgCons (g : DTG) (gs : DTGs) : DTGs := fun ds env S R => ∃ d r, ds = d :: r ∧ g d env S fun env' S' => gs r env' S' R
theorem dgs_nil : DGs X [] [] dgNil := ⟨pgs_nil.of fun us σ H Q ⟨ds, env, S, R, r, rs, ⟨e, q⟩, k⟩ => by
  subst e
  cases r
  exact ⟨rfl, k _ _ _ _ q rs (.refl H) (.refl _ _)⟩⟩
theorem dgs_cons {e : Expr} {es : List Expr} {vs us : List Nat} {g : DTG} {gs : DTGs} (h1 : DG X true vs e g) (h2 : DGs X us es gs)
    (hs : (assignEach (e :: es) X.env).map (·.2) = assign e X.env :: (assignEach es X.env).map (·.2) := by rfl) : DGs X (vs ++ us) (e :: es) (dgCons g gs) := by
  refine ⟨(pgs_cons h1.run h2.run hs).of fun ws σ H Q ⟨ds, env, S, R, r, rs, ⟨d, r', e, q⟩, k⟩ => ?_⟩
  subst e
  cases r with
  | cons r1 rr =>
    refine ⟨_, _, rfl, d, env, S, _, .inl r1, rs, q, fun env1 S1 σ1 H1 q1 rs1 e1 o1 => ⟨r', env1, S1, R, rr.ext e1, rs1, q1, fun env2 S2 σ2 H2 q2 rs2 e2 o2 => ?_⟩⟩
    exact k _ _ _ _ q2 rs2 (e1.trans e2) ((o1.mono fun i h => List.mem_append_left _ h).trans (o2.mono fun i h => List.mem_append_right _ h))
/-- the items of a tuple or of a list -/
def dUnp (n : Nat) (gs : DTGs) : DTG := fun d env S R => ∃ ds, ds.length = n ∧ ((d = .tup ds ∨ d = .wtup ds) ∨ ∃ a, d = .ref a ∧ S a = some (.lst ds)) ∧ gs ds env S R
theorem dg_tup {es : List Expr} {k n : Nat} {b : Bool} {vs : List Nat} {gs : DTGs} (hc : X.calm = true) (h : DGs X vs es gs)
    (hn : (assignEach es X.env).length = n := by rfl) (hst : (assignEach es X.env).findIdx? (·.1) = none := by rfl) : DG X b vs (.Tuple es k pos) (dUnp n gs) := by
  refine ⟨((pg_tup hc h.run hn hst).or (pg_unl hc h.run hn hst)).of fun v σ H Q ⟨d, env, S, R, r, rs, ⟨ds, hl, e, q⟩, k⟩ => ?_⟩
  rcases e with (rfl | rfl) | ⟨a, rfl, e⟩
  · rcases r with r | ⟨_, a, ds', vs', z, rfl, ht, r⟩
    · cases r with
      | tup ht r => exact .inl ⟨_, _, rfl, ht.sqT, r.length.symm.trans hl, ds, env, S, R, r, rs, q, k⟩
    · cases z
      exact .inl ⟨a, vs', rfl, ht, r.length.symm.trans hl, ds, env, S, R, r, rs, q, k⟩
  · rcases r with r | ⟨_, a, ds', vs', z, rfl, ht, r⟩
    · cases r with
      | wtup ht r => exact .inl ⟨_, _, rfl, .of ht, r.length.symm.trans hl, ds, env, S, R, r, rs, q, k⟩
    · cases z
  · rcases r with r | ⟨_, a, ds', vs', z, rfl, ht, r⟩
    · cases r
      obtain ⟨vs', h1, r⟩ := rs.sto.lst e
      exact .inr ⟨_, _, rfl, .of h1, r.length.symm.trans hl, ds, env, S, R, r, rs, q, k⟩
    · cases z
/-- target = e -/
def dAsg (te : DTE) (g : DTG) : DTS := fun C env S => te env S fun d S1 => g d env S1 C.nx
theorem lS_asg {K : KK} {b : Bool} {vs : List Nat} {g : DTG} {σ : L2.St} {H : Hp} {B : Ends} (h : lS K (dAsg te g) B σ H) : tAsg (lE K te) (lG K b vs g) B σ H := by
  obtain ⟨env, S, C, rs, h, k, _⟩ := h
  exact ⟨env, S, _, rs, h, fun d S1 v H1 q s1 r1 e1 => ⟨d, env, S1, C.nx, .inl r1, rs.ext e1 s1, q, fun _ _ _ _ q r e _ => k _ _ _ _ q r (e1.trans e)⟩⟩
theorem ds_asg {tg : Expr} {b : Bool} {vs : List Nat} {g : DTG} (he : DE X e te) (hg : DG X b vs tg g) (hs : swapsWithSole [tg] e pos.line X.env = pure false := by rfl) (hw : swappedStores [tg] e X.env = pure none := by rfl)
    (h1 : (assignEach [tg] X.env).map (·.2) = [assign tg X.env] := by rfl) : DS X (.Assign [tg] e pos) (dAsg te g) := ⟨(ps_asg he.run hg.run hs hw h1).of fun _ _ _ => lS_asg⟩
theorem ds_set {i : Nat} {x : Str} {pos' : Pos} (hN : X.N.Nodup) (hi : X.N[i]? = some x) (hx : Loc X.env.scope x) (he : DE X e te) (hs : swapsWith e (some (.Name x pos')) pos.line X.env = pure false := by rfl) (hf : X.fn x = true ∨ X.env.scope.names.lookup x = some .local := by first | exact .inl rfl | exact .inr rfl | assumption) :
    DS X (.Assign [.Name x pos'] e pos) (dAsg te (dgName i)) :=
  ⟨(ps_set hN hi hx he.run hs hf).of fun σ H B ⟨env, S, C, rs, h, k, _⟩ => ⟨env, S, _, rs, h, fun d S1 v H1 q s1 r1 e1 => k _ _ _ _ q ((rs.ext e1 s1).set i r1) e1⟩⟩
/-- two local names at once -/
theorem ds_par {i j : Nat} {x y : Str} {a b : Expr} {ta : DTA} {px py pt : Pos} {kt k2 pt2} (hc : X.calm = true) (hN : X.N.Nodup) (hi : X.N[i]? = some x) (hj : X.N[j]? = some y) (hij : i ≠ j)
    (hx : X.env.scope.names.lookup x = some .local) (hy : X.env.scope.names.lookup y = some .local) (ha : DA X [a, b] ta)
    (hw : swappedStores [.Tuple [.Name x px, .Name y py] kt pt] (.Tuple [a, b] k2 pt2) X.env = pure (some [x, y]))
    (hs : swapsWithSole [.Tuple [.Name x px, .Name y py] kt pt] (.Tuple [a, b] k2 pt2) pos.line X.env = pure false := by rfl) :
    DS X (.Assign [.Tuple [.Name x px, .Name y py] kt pt] (.Tuple [a, b] k2 pt2) pos) (dAsg (dTup ta) (dUnp 2 (dgCons (dgName i) (dgCons (dgName j) dgNil)))) := by
  refine ⟨(ps_par hc hN hi hj hij hx hy ha.run hw hs).of fun σ H B ⟨env, S, C, rs, h, k, _⟩ => ⟨env, S, _, rs, h, fun ds S1 vs H1 ⟨_, ds', hl, hd, q⟩ s1 r1 e1 => ?_⟩⟩
  have hdd : ds = ds' := by
    rcases hd with (z | z) | ⟨a, z, _⟩
    · cases z; rfl
    · cases z
    · cases z
  subst hdd
  obtain ⟨d1, r', rfl, d2, r'', rfl, rfl, q⟩ := q
  obtain ⟨v, u, rfl, rv, ru⟩ := r1.inv2
  exact ⟨v, u, rfl, k _ _ _ _ q (((rs.ext e1 s1).set i rv).set j ru) e1⟩
/-- name op= e -/
def dAug (i : Nat) (te : DTE) (r : DR2) : DTS := fun C env S => ∃ d, env[i]? = some (some d) ∧ te env S fun y S1 => r d y S1 fun z S2 => C.nx (env.set i (some z)) S2
theorem ds_aug {i : Nat} {x : Str} {op : Operator} {r : DR2} {pos' : Pos} (hN : X.N.Nodup) (hi : X.N[i]? = some x) (hx : Loc X.env.scope x) (ho : PIp X op (l2 X.kk r)) (he : DE X e te) (hf : X.fn x = true ∨ X.env.scope.names.lookup x = some .local := by first | exact .inl rfl | exact .inr rfl | assumption) :
    DS X (.AugAssign (.Name x pos') op e pos) (dAug i te r) := by
  refine ⟨(ps_aug hN hi hx he.run ho hf).of fun σ H B ⟨env, S, C, rs, ⟨d, hd, h⟩, k, _⟩ => ?_⟩
  obtain ⟨v, hv, rv⟩ := rs.slot i d hd
  exact ⟨v, hv, env, S, _, rs, h, fun y S1 u H1 q s1 r1 e1 => ⟨d, y, S1, _, rv.ext e1, r1, s1, q, fun z S2 w H2 q2 s2 r2 e2 => k _ _ _ _ q2 ((rs.ext (e1.trans e2) s2).set i r2) (e1.trans e2)⟩⟩
end
section
variable {X : Cx} {pos : Pos}
def dWhile (c : DTT) (tb : DTS) : DTS := fun C env S => ∃ W : Nat → Env → Sto → Prop, (∃ m, W m env S) ∧ ∀ m env S, W m env S →
  c env S fun b S1 => if b = true then tb { C with nx := fun env' S' => ∃ m', m' < m ∧ W m' env' S', ct := fun env' S' => ∃ m', m' < m ∧ W m' env' S', bk := C.nx } env S1 else C.nx env S1
theorem ds_while {c : Expr} {body : List Stmt} {tc : DTT} {tb : DTS} (hp : PassesOwn (model X.prog X.w) X.A X.env X.xe) (hc : DT X c tc) (hb : DSs X body tb) : DS X (.While c body [] pos) (dWhile tc tb) := by
  refine ⟨(ps_while hp hc.run hb.run).of fun σ H B ⟨env, S, C, rs, ⟨W, ⟨m0, w0⟩, turn⟩, k1, k2, _⟩ => ?_⟩
  refine ⟨fun m σ' H' => ∃ env' S', RS X.kk σ' H' env' S' ∧ Ext H H' ∧ W m env' S', ⟨m0, env, S, rs, .refl H, w0⟩, ?_⟩
  rintro m σ1 H1 ⟨env1, S1, rs1, e1, w1⟩
  refine ⟨env1, S1, _, rs1, turn m env1 S1 w1, fun b S2 H2 q s2 e2 => ?_⟩
  cases b with
  | false => exact k1 _ _ _ _ q (rs1.ext e2 s2) (e1.trans e2)
  | true =>
    refine ⟨fun σ' H' => ∃ m', m' < m ∧ ∃ env' S', RS X.kk σ' H' env' S' ∧ Ext H H' ∧ W m' env' S', fun σ' H' h => h, env1, S2, _, rs1.ext e2 s2, q, ?_, ?_, ?_, ?_⟩
    · rintro env' S' σ' H' ⟨m', hm, w'⟩ rs' e'
      exact ⟨m', hm, env', S', rs', e1.trans (e2.trans e'), w'⟩
    · exact fun d S' v H' q' s' r' e' => k2 _ _ _ _ q' s' r' (e1.trans (e2.trans e'))
    · exact fun env' S' σ' H' q' r' e' => k1 _ _ _ _ q' r' (e1.trans (e2.trans e'))
    · rintro env' S' σ' H' ⟨m', hm, w'⟩ rs' e'
      exact ⟨m', hm, env', S', rs', e1.trans (e2.trans e'), w'⟩
/-- what is walked: its items, and what must hold of the store at each turn -/
structure Src where
  items : List D
  live : Sto → Prop := fun _ => True
abbrev DTI := Env → Sto → (Src → Sto → Prop) → Prop
structure Steps (K : KK) (b : Bool) (H0 : Hp) (J : It) (w : Src) : Prop where
  ex : ∃ (G : Hp → Prop) (Y : Nat → Hp → V → Hp → Prop), Walk J w.items.length G Y ∧ (∀ H S, Ext H0 H → RelS K S H → w.live S → G H) ∧
    ∀ i H x H', Ext H0 H → Y i H x H' → Ext H H' ∧ (∀ S, RelS K S H → RelS K S H') ∧ ∃ d, w.items[i]? = some d ∧ RDw K b H' d x
def lI (K : KK) (b : Bool) (t : DTI) : TI := fun σ H R => ∃ env S R0, RS K σ H env S ∧ t env S R0 ∧ ∀ w S' J H', R0 w S' → RelS K S' H' → Ext H H' → Steps K b H' J w → R J H'
structure DI (X : Cx) (b : Bool) (tg e : Expr) (t : DTI) : Prop where
  run : PI X tg e (lI X.kk b t)
theorem _root_.L2.PI.of {tg e : Expr} {t t' : TI} (h : PI X tg e t) (q : ∀ σ H R, t' σ H R → t σ H R) : PI X tg e t' := ⟨fun pins s σ H R I w => h.run pins s σ H R I (q σ H R w)⟩
theorem _root_.L2.PI.or {tg e : Expr} {t t' : TI} (h : PI X tg e t) (h' : PI X tg e t') : PI X tg e (fun σ H R => t σ H R ∨ t' σ H R) := ⟨fun pins s σ H R I w => w.elim (h.run pins s σ H R I) (h'.run pins s σ H R I)⟩
def dFor (ti : DTI) (g : DTG) (tb : DTS) : DTS := fun C env S => ti env S fun w S1 => ∃ Pv : Nat → Env → Sto → Prop, Pv 0 env S1 ∧ (∀ i env S, i ≤ w.items.length → Pv i env S → w.live S) ∧
  (∀ i d env S, w.items[i]? = some d → Pv i env S → g d env S fun env' S' => tb { C with nx := Pv (i + 1), ct := Pv (i + 1), bk := C.nx } env' S') ∧ ∀ env S, Pv w.items.length env S → C.nx env S
theorem ds_for {tg iter : Expr} {b : Bool} {vs : List Nat} {body : List Stmt} {ti : DTI} {g : DTG} {tb : DTS} (hp : PassesOwn (model X.prog X.w) X.A X.env X.xe) (hc : X.calm = true) (hi : DI X b tg iter ti) (hg : DG X b vs tg g) (hb : DSs X body tb)
    (hs : ∀ x, foldedSetIterable iter X.env x = pure x := by intro _; rfl) : DS X (.For tg iter body [] pos) (dFor ti g tb) := by
  refine ⟨(ps_for hp hc hi.run hg.run hb.run hs).of fun σ H B ⟨env, S, C, rs, h, k1, k2, _⟩ => ⟨env, S, _, rs, h, fun w S1 J H1 ⟨Pv, p0, lv, step, done⟩ s1 e1 st => ?_⟩⟩
  obtain ⟨G, Y, wk, hG, hY⟩ := st.ex
  refine for_it wk (fun i σ' H' => ∃ env' S', RS X.kk σ' H' env' S' ∧ Ext H1 H' ∧ Pv i env' S') ⟨env, S1, rs.ext e1 s1, .refl H1, p0⟩ (fun i σ' H' hi ⟨env', S', rs', e', p'⟩ => hG H' S' e' rs'.sto (lv i env' S' hi p')) ?_ ?_
  · rintro i x σ2 H2 H3 hi ⟨env2, S2, rs2, e2, p2⟩ y
    obtain ⟨e3, hS, d, hd, rd⟩ := hY i H2 x H3 e2 y
    refine ⟨d, env2, S2, _, rd, rs2.ext e3 (hS S2 rs2.sto), step i d env2 S2 hd p2, fun env4 S4 σ4 H4 q4 rs4 e4 _ => ⟨env4, S4, _, rs4, q4, ?_, ?_, ?_, ?_⟩⟩
    · exact fun env' S' σ' H' q' rs' e' => ⟨env', S', rs', e2.trans (e3.trans (e4.trans e')), q'⟩
    · exact fun d S' v H' q' s' r' e' => k2 _ _ _ _ q' s' r' (e1.trans (e2.trans (e3.trans (e4.trans e'))))
    · exact fun env' S' σ' H' q' rs' e' => k1 _ _ _ _ q' rs' (e1.trans (e2.trans (e3.trans (e4.trans e'))))
    · exact fun env' S' σ' H' q' rs' e' => ⟨env', S', rs', e2.trans (e3.trans (e4.trans e')), q'⟩
  · rintro σ2 H2 ⟨env2, S2, rs2, e2, p2⟩
    exact k1 _ _ _ _ (done env2 S2 p2) rs2 (e1.trans e2)
end
end Sv
namespace Sv
open PySem PySem.Spec PyProof.Rows L2
section
variable {X : Cx} {tg e : Expr} {te : DTE} {pos p : Pos}
/-- a tuple or a list, as it comes -/
def iVal (K : PySem.W.Frag) (tl : TE) : TI := fun σ H R => tl σ H fun x H1 => ∃ a, x = .ref a ∧ (((∃ xs, SqL K H1 a xs) ∧ R (Itl K a) H1) ∨ ((∃ xs, SqT K H1 a xs) ∧ R (Itt K a) H1))
theorem pi_val {l : Expr} {tl : TE} (hl : PE X l tl) : PI X tg l (iVal X.K tl) := by
  refine ⟨fun pins s σ H R I h => ?_⟩
  refine thn (hl.run pins s σ H _ I h) fun v s1 ⟨x, H1, I1, r1, q1⟩ => ?_
  obtain ⟨a, e, q⟩ := q1
  subst e
  cases r1
  rcases q with ⟨⟨xs, hq⟩, q⟩ | ⟨⟨xs, hq⟩, q⟩
  · obtain ⟨its, rv, p, hz⟩ := I1.list hq
    refine wpAny_pyIter_list p.isList ?_
    refine ⟨s1.heap.objs.size, [s1.heap.objs.size], _, _, H1, rfl, I1.kept (t' := s1.toks) fun b o e => Heap.get?_push_of_some _ e, turn_list a _, ⟨_, Heap.get?_push_size _ rfl, rfl, rfl⟩, fun b hb => ?_, q⟩
    have e : b = s1.heap.objs.size := by simpa using hb
    subst e
    exact I1.fpOk (Nat.le_refl _) (I1.hok.fresh (Nat.le_refl _))
  · obtain ⟨its, rv, p, hz⟩ := I1.tuple hq
    refine wpAny_pyIter_tuple (show s1.heap.IsTuple a its.toArray from p) ?_
    refine ⟨s1.heap.objs.size, [s1.heap.objs.size], _, _, H1, rfl, I1.kept (t' := s1.toks) fun b o e => Heap.get?_push_of_some _ e, turn_tuple a _, ⟨_, Heap.get?_push_size _ rfl, rfl, rfl⟩, fun b hb => ?_, q⟩
    have e : b = s1.heap.objs.size := by simpa using hb
    subst e
    exact I1.fpOk (Nat.le_refl _) (I1.hok.fresh (Nat.le_refl _))
/-- the items of a value, with what must stay -/
def Items (S : Sto) (d : D) (w : Src) : Prop := match d with
  | .tup ds => w = ⟨ds, fun _ => True⟩
  | .rol ds => w = ⟨ds, fun _ => True⟩
  | .wtup ds => w = ⟨ds, fun _ => True⟩
  | .ref a => ∃ ds, S a = some (.lst ds) ∧ w = ⟨ds, fun S' => S' a = some (.lst ds)⟩
  | _ => False
def diVal (te : DTE) : DTI := fun env S R => te env S fun d S1 => ∃ w, Items S1 d w ∧ R w S1
theorem steps_list {K : KK} {H0 : Hp} {a : Addr} {ds : List D} {lv : Sto → Prop} (h : ∀ H S, Ext H0 H → RelS K S H → lv S → ∃ vs, SqL K.k H a vs ∧ RDs K H ds vs) : Steps K true H0 (Itl K.k a) ⟨ds, lv⟩ := by
  refine ⟨fun H => ∃ vs, SqL K.k H a vs ∧ RDs K H ds vs, fun i H x H' => H' = H ∧ ∃ vs, RDs K H ds vs ∧ vs[i]? = some x, ⟨fun i H hi ⟨vs, h1, r⟩ => ?_, fun H ⟨vs, h1, r⟩ => ⟨vs, h1, by rw [← r.length]; exact Nat.le_refl _⟩, fun i H x H' hi ⟨vs, h1, r⟩ y => ⟨y.1, vs, r, y.2 vs h1⟩⟩, h, ?_⟩
  · have : i < vs.length := by rw [← r.length]; exact hi
    exact ⟨vs, vs[i], h1, by simp [this]⟩
  · rintro i H x H' e ⟨rfl, vs, r, hx⟩
    obtain ⟨d, h1, h2⟩ := r.atv hx
    exact ⟨.refl _, fun S s => s, d, h1, .inl h2⟩
theorem steps_tup {K : KK} {H0 : Hp} {a : Addr} {ds : List D} {vs : List V} (h : ∀ H, Ext H0 H → SqT K.k H a vs) (r : RDs K H0 ds vs) : Steps K true H0 (Itt K.k a) ⟨ds, fun _ => True⟩ := by
  refine ⟨fun H => SqT K.k H a vs, fun i H x H' => H' = H ∧ vs[i]? = some x, ?_, fun H S e _ _ => h H e, ?_⟩
  · have w := walk_tup (K := K.k) (a := a) (xs := vs)
    rw [← r.length] at w
    exact w
  · rintro i H x H' e ⟨rfl, hx⟩
    obtain ⟨d, h1, h2⟩ := (r.ext e).atv hx
    exact ⟨.refl _, fun S s => s, d, h1, .inl h2⟩
theorem di_val (he : DE X e te) : DI X true tg e (diVal te) := by
  refine ⟨(pi_val he.run).of fun σ H R ⟨env, S, R0, rs, h, k⟩ => ⟨env, S, _, rs, h, fun d S1 v H1 ⟨w, hw, q⟩ s1 r1 e1 => ?_⟩⟩
  cases r1 with
  | tup ht r =>
    cases (show w = ⟨_, _⟩ from hw)
    exact ⟨_, rfl, .inr ⟨⟨_, ht.sqT⟩, k _ _ _ _ q s1 e1 (steps_tup (fun H e => (ht.ext e).sqT) r)⟩⟩
  | wtup ht r =>
    cases (show w = ⟨_, _⟩ from hw)
    exact ⟨_, rfl, .inr ⟨⟨_, .of ht⟩, k _ _ _ _ q s1 e1 (steps_tup (fun H e => .of (e.2 _ _ ht)) r)⟩⟩
  | rol ht r =>
    cases (show w = ⟨_, _⟩ from hw)
    exact ⟨_, rfl, .inl ⟨⟨_, ht.sqL⟩, k _ _ _ _ q s1 e1 (steps_list fun H S e _ _ => ⟨_, (ht.ext e).sqL, r.ext e⟩)⟩⟩
  | ref a =>
    obtain ⟨ds, hs, rfl⟩ := hw
    obtain ⟨vs, h1, r⟩ := s1.lst hs
    refine ⟨_, rfl, .inl ⟨⟨_, .of h1⟩, k _ _ _ _ q s1 e1 (steps_list fun H S e s l => ?_)⟩⟩
    obtain ⟨vs', h2, r'⟩ := s.lst l
    exact ⟨vs', .of h2, r'⟩
  | _ => exact hw.elim
/-- range -/
def rgD (lo : Int) (n : Nat) : List D := (List.range n).map fun i => .int (lo + (i : Nat))
theorem steps_range {K : KK} {H0 : Hp} {lo : Int} {n : Nat} : Steps K true H0 (Itr lo n) ⟨rgD lo n, fun _ => True⟩ := by
  refine ⟨fun _ => True, fun i H x H' => i < n ∧ H' = H ∧ x = .int (lo + i), ?_, fun _ _ _ _ _ => trivial, ?_⟩
  · have w := walk_range (lo := lo) (n := n)
    have : (rgD lo n).length = n := by simp [rgD]
    rw [this]
    exact ⟨w.goes, w.stops, fun i H x H' hi g y => ⟨hi, w.yields i H x H' hi g y⟩⟩
  · rintro i H x H' e ⟨hi, rfl, rfl⟩
    refine ⟨.refl _, fun S s => s, .int (lo + i), ?_, .inl (.int _)⟩
    show (rgD lo n)[i]? = _
    rw [rgD, List.getElem?_map, List.getElem?_range hi]
    rfl
def diRg1 (ta : DTA) : DTI := fun env S R => ta env S fun ds S1 => ∃ n : Int, ds = [.int n] ∧ -(2 ^ 62) ≤ n ∧ n < 2 ^ 62 ∧ R ⟨rgD 0 n.toNat, fun _ => True⟩ S1
theorem di_rg1 {ta : DTA} (hg : Gl X "range") (hm : X.mg "range" = none) (ha : DA X [e] ta) (hs : starEach [e] X.env = [(false, eval e X.env)] := by rfl) : DI X true tg (.Call (.Name "range" p) [e] [] pos) (diRg1 ta) := by
  refine ⟨(pi_range1 hg hm ha.run hs).of fun σ H R ⟨env, S, R0, rs, h, k⟩ => ⟨env, S, _, rs, h, fun ds S1 vs H1 q s1 r1 e1 => ?_⟩⟩
  obtain ⟨n, rfl, h1, h2, q⟩ := q
  obtain ⟨v, rfl, r⟩ := r1.inv1
  cases r
  exact ⟨n, rfl, h1, h2, k _ _ _ _ q s1 e1 steps_range⟩
theorem rdw_pair {K : KK} {H : Hp} {T : Addr} {d e : D} {x y : V} (n : H T = none) (r1 : RD K H d x) (r2 : RD K H e y) : RDw K false (upd H T (.tup [x, y])) (.tup [d, e]) (.ref T) :=
  .inr ⟨rfl, T, [d, e], [x, y], rfl, rfl, .of upd_same, .cons (r1.ext (.new n)) (.cons (r2.ext (.new n)) .nil)⟩
theorem steps_pair {K : KK} {H0 : Hp} {J : It} {n : Nat} {G : Hp → Prop} {xs ys : Nat → Option V} {ps : List D} {lv : Sto → Prop} (w : Walk J n G (YPair xs ys)) (hn : ps.length = n) (hG : ∀ H S, Ext H0 H → RelS K S H → lv S → G H)
    (hp : ∀ i H x y, i < n → Ext H0 H → G H → xs i = some x → ys i = some y → ∃ d e, ps[i]? = some (.tup [d, e]) ∧ RD K H d x ∧ RD K H e y) : Steps K false H0 J ⟨ps, lv⟩ := by
  subst hn
  refine ⟨G, fun i H x H' => i < ps.length ∧ G H ∧ YPair xs ys i H x H', ⟨w.goes, w.stops, fun i H x H' hi g y => ⟨hi, g, w.yields i H x H' hi g y⟩⟩, hG, ?_⟩
  rintro i H v H' e ⟨hi, g, T, x, y, rfl, nT, rfl, hx, hy⟩
  obtain ⟨d, d', h1, h2, h3⟩ := hp i H x y hi e g hx hy
  exact ⟨.new nT, fun S s => s.new nT, _, h1, rdw_pair nT h2 h3⟩
def enD (ds : List D) : List D := ds.mapIdx fun i d => .tup [.int (i : Nat), d]
theorem enD_at {ds : List D} {i : Nat} {d : D} (h : ds[i]? = some d) : (enD ds)[i]? = some (.tup [.int (i : Nat), d]) := by
  rw [enD, List.getElem?_mapIdx, h]
  rfl
theorem enD_len (ds : List D) : (enD ds).length = ds.length := by simp [enD]
/-- enumerate of a tuple or a list -/
def iEnumA (K : PySem.W.Frag) (ta : TA) : TI := fun σ H R => ta σ H fun vs H1 => ∃ a xs, vs = [.ref a] ∧ ((SqL K H1 a xs ∧ R (Ite K a) H1) ∨ (SqT K H1 a xs ∧ R (Itte K a xs) H1))
theorem pi_enumA {ta : TA} {elts : List Expr} {kk : Nat} {tpos : Pos} (hg : Gl X "enumerate") (hm : X.mg "enumerate" = none) (ha : PA X [e] ta)
    (hs : starEach [e] X.env = [(false, eval e X.env)] := by rfl) : PI X (.Tuple elts kk tpos) (.Call (.Name "enumerate" p) [e] [] pos) (iEnumA X.K ta) := by
  refine ⟨fun pins s σ H R I h => ?_⟩
  refine Call_ (ld_blt I hg hm boot_enumerate (PyProof.Rows.callWith_type1 (thn (ha.run pos pins s σ H _ I h) fun us s1 ⟨vs, H1, I1, r1, q1⟩ => ?_) hs rfl))
  obtain ⟨a, xs, rfl, q⟩ := q1
  obtain ⟨u, rfl, ru⟩ := vals1 r1
  cases ru
  rcases q with ⟨hq, q⟩ | ⟨hq, q⟩
  · obtain ⟨its, rv, p', hz⟩ := I1.list hq
    refine call_enumerate_list p'.isList fun h' he hit hsz hk => wpAny_pyIter_enum he ?_
    have I2 : Inv X pins σ H1 { s1 with heap := h' } := I1.kept (t' := s1.toks) hk
    refine ⟨s1.heap.objs.size + 1, [s1.heap.objs.size + 1, s1.heap.objs.size], _, _, H1, rfl, I2, turn_enum a (s1.heap.objs.size + 1) s1.heap.objs.size, ⟨⟨.none, he⟩, hit, Nat.succ_ne_self _⟩, fun b hb => ?_, q⟩
    have hle : s1.heap.objs.size ≤ b := by
      rcases (show b = s1.heap.objs.size + 1 ∨ b = s1.heap.objs.size by simpa using hb) with rfl | rfl
      · exact Nat.le_succ _
      · exact Nat.le_refl _
    exact I1.fpOk hle (I1.hok.fresh hle)
  · obtain ⟨its, rv, p', hz⟩ := I1.tuple hq
    have hal : a < s1.heap.objs.size := by
      obtain ⟨o, ho, _⟩ := id p'
      exact Heap.lt_size ho
    refine sv_enum_call (begins_tuple a its.toArray) p' fun h' he hit hk => wpAny_pyIter_enum he ?_
    have I2 : Inv X pins σ H1 { s1 with heap := h' } := I1.kept (t' := s1.toks) hk
    refine ⟨s1.heap.objs.size + 1, [s1.heap.objs.size + 1, s1.heap.objs.size], _, _, H1, rfl, I2, turn_etup a (s1.heap.objs.size + 1) s1.heap.objs.size xs,
      ⟨⟨.none, he⟩, ⟨_, hit, rfl, rfl⟩, Nat.succ_ne_self _, Nat.ne_of_lt hal, Nat.ne_of_lt (Nat.lt_succ_of_lt hal)⟩, fun b hb => ?_, q⟩
    have hle : s1.heap.objs.size ≤ b := by
      rcases (show b = s1.heap.objs.size + 1 ∨ b = s1.heap.objs.size by simpa using hb) with rfl | rfl
      · exact Nat.le_succ _
      · exact Nat.le_refl _
    exact I1.fpOk hle (I1.hok.fresh hle)
theorem walk_etup' {K : PySem.W.Frag} {a : Addr} {xs : List V} : Walk (Itte K a xs) xs.length (fun H => SqT K H a xs) (YPair (fun i => some (.int (i : Nat))) (fun i => xs[i]?)) :=
  ⟨fun _ _ hi q => ⟨q, hi⟩, fun _ q => ⟨q, rfl⟩, fun i H v H' _ q y => by
    obtain ⟨T, x, h1, h2, h3, h4⟩ := y
    exact ⟨T, .int (i : Nat), x, h1, h2, h3, rfl, h4⟩⟩
theorem steps_enumL {K : KK} {H0 : Hp} {a : Addr} {ds : List D} {lv : Sto → Prop} (h : ∀ H S, Ext H0 H → RelS K S H → lv S → ∃ vs, SqL K.k H a vs ∧ RDs K H ds vs) : Steps K false H0 (Ite K.k a) ⟨enD ds, lv⟩ := by
  refine ⟨fun H => ∃ vs, SqL K.k H a vs ∧ RDs K H ds vs, fun i H v H' => ∃ T x vs, v = .ref T ∧ H T = none ∧ H' = upd H T (.tup [.int (i : Nat), x]) ∧ RDs K H ds vs ∧ vs[i]? = some x, ⟨fun i H hi ⟨vs, h1, r⟩ => ?_, fun H ⟨vs, h1, r⟩ => ⟨vs, h1, ?_⟩, fun i H v H' hi ⟨vs, h1, r⟩ y => ?_⟩, h, ?_⟩
  · have : i < vs.length := by rw [← r.length, ← enD_len]; exact hi
    exact ⟨vs, vs[i], h1, by simp [this]⟩
  · show vs.length ≤ (enD ds).length
    rw [← r.length, enD_len]
    exact Nat.le_refl _
  · obtain ⟨T, x, h2, h3, h4, h5⟩ := y
    exact ⟨T, x, vs, h2, h3, h4, r, h5 vs h1⟩
  · rintro i H v H' e ⟨T, x, vs, rfl, nT, rfl, r, hx⟩
    obtain ⟨d, h1, h2⟩ := r.atv hx
    exact ⟨.new nT, fun S s => s.new nT, _, enD_at h1, rdw_pair nT (.int _) h2⟩
def diEnum (ta : DTA) : DTI := fun env S R => ta env S fun ds S1 => ∃ d w, ds = [d] ∧ Items S1 d w ∧ R ⟨enD w.items, w.live⟩ S1
theorem di_enum {ta : DTA} {elts : List Expr} {kk : Nat} {tpos : Pos} (hg : Gl X "enumerate") (hm : X.mg "enumerate" = none) (ha : DA X [e] ta) (hs : starEach [e] X.env = [(false, eval e X.env)] := by rfl) :
    DI X false (.Tuple elts kk tpos) (.Call (.Name "enumerate" p) [e] [] pos) (diEnum ta) := by
  refine ⟨(pi_enumA hg hm ha.run hs).of fun σ H R ⟨env, S, R0, rs, h, k⟩ => ⟨env, S, _, rs, h, fun ds S1 vs H1 ⟨d, w, hd, hw, q⟩ s1 r1 e1 => ?_⟩⟩
  subst hd
  obtain ⟨v, rfl, r⟩ := r1.inv1
  cases r with
  | tup ht r =>
    cases (show w = ⟨_, _⟩ from hw)
    refine ⟨_, _, rfl, .inr ⟨ht.sqT, k _ _ _ _ q s1 e1 (steps_pair walk_etup' (by rw [enD_len, r.length]) (fun H S e _ _ => (ht.ext e).sqT) fun i H x y hi e g hx hy => ?_)⟩⟩
    cases hx
    obtain ⟨d, h1, h2⟩ := (r.ext e).atv hy
    exact ⟨_, _, enD_at h1, .int _, h2⟩
  | wtup ht r =>
    cases (show w = ⟨_, _⟩ from hw)
    refine ⟨_, _, rfl, .inr ⟨.of ht, k _ _ _ _ q s1 e1 (steps_pair walk_etup' (by rw [enD_len, r.length]) (fun H S e _ _ => .of (e.2 _ _ ht)) fun i H x y hi e g hx hy => ?_)⟩⟩
    cases hx
    obtain ⟨d, h1, h2⟩ := (r.ext e).atv hy
    exact ⟨_, _, enD_at h1, .int _, h2⟩
  | rol ht r =>
    cases (show w = ⟨_, _⟩ from hw)
    refine ⟨_, _, rfl, .inl ⟨ht.sqL, k _ _ _ _ q s1 e1 (steps_pair walk_enum (by rw [enD_len, r.length]) (fun H S e _ _ => (ht.ext e).sqL) fun i H x y hi e g hx hy => ?_)⟩⟩
    cases hx
    obtain ⟨d, h1, h2⟩ := (r.ext e).atv hy
    exact ⟨_, _, enD_at h1, .int _, h2⟩
  | ref a =>
    obtain ⟨ds, hs', rfl⟩ := hw
    obtain ⟨vs, h1, r⟩ := s1.lst hs'
    refine ⟨_, _, rfl, .inl ⟨.of h1, k _ _ _ _ q s1 e1 (steps_enumL fun H S e s l => ?_)⟩⟩
    obtain ⟨vs', h2, r'⟩ := s.lst l
    exact ⟨vs', .of h2, r'⟩
  | _ => exact hw.elim
end
end Sv
namespace Sv
open PySem PySem.Spec PyProof.Rows L2
theorem wipe_in {σ : L2.St} {i : Nat} : ∀ {vs : List Nat}, i ∈ vs → i < σ.length → (wipe σ vs)[i]? = some none
  | v :: vs, h, hl => by
    unfold wipe
    by_cases z : v = i
    · subst z
      rw [List.getElem?_set_self (by rw [wipe_length]; exact hl)]
    · rw [List.getElem?_set_ne z]
      exact wipe_in ((List.mem_cons.mp h).resolve_left fun e => z e.symm) hl
theorem wipe_at {σ τ : L2.St} {vs : List Nat} (hl : τ.length = σ.length) (h : ∀ i, i ∉ vs → τ[i]? = σ[i]?) : wipe τ vs = wipe σ vs := by
  refine List.ext_getElem? fun i => ?_
  by_cases hi : i ∈ vs
  · by_cases z : i < σ.length
    · rw [wipe_in hi z, wipe_in hi (hl ▸ z)]
    · rw [List.getElem?_eq_none (by rw [wipe_length]; omega), List.getElem?_eq_none (by rw [wipe_length]; omega)]
  · rw [wipe_out hi, wipe_out hi, h i hi]
theorem wipe_off {σ τ : L2.St} {vs us : List Nat} (o : Off vs (wipe σ us) τ) (h : ∀ i ∈ vs, i ∈ us) : wipe τ us = wipe σ us :=
  wipe_at (by rw [o.1, wipe_length]) fun i hi => by rw [o.2 i fun z => hi (h i z), wipe_out hi]
def dwipe (env : Env) : List Nat → Env
  | [] => env
  | v :: vs => (dwipe env vs).set v none
theorem RS.wipe {K : KK} {σ : L2.St} {H : Hp} {env : Env} {S : Sto} (r : RS K σ H env S) : ∀ vs : List Nat, RS K (L2.wipe σ vs) H (dwipe env vs) S
  | [] => r
  | v :: vs => by
    have q := RS.wipe r vs
    refine ⟨by unfold dwipe L2.wipe; rw [List.length_set, List.length_set]; exact q.len, fun i d h => ?_, q.sto⟩
    unfold dwipe at h
    by_cases z : v = i
    · subst z
      by_cases hl : v < (dwipe env vs).length
      · rw [List.getElem?_set_self hl] at h
        cases h
      · rw [List.getElem?_eq_none (by rw [List.length_set]; omega)] at h
        cases h
    · rw [List.getElem?_set_ne z] at h
      obtain ⟨x, h1, h2⟩ := q.slot i d h
      exact ⟨x, by unfold L2.wipe; rw [List.getElem?_set_ne z]; exact h1, h2⟩
structure DTs (X : Cx) (ifs : List Expr) (t : DTT) : Prop where
  run : PTs X ifs (lT X.kk t)
theorem PTs.of {X : Cx} {ifs : List Expr} {t t' : TT} (h : PTs X ifs t) (q : ∀ σ H Q, t' σ H Q → t σ H Q) : PTs X ifs t' := ⟨fun pins s σ H Q I w => h.run pins s σ H Q I (q σ H Q w)⟩
def dYes : DTT := fun _ S R => R true S
theorem dts_nil {X : Cx} : DTs X [] dYes := ⟨PTs.of pts_nil fun σ H Q ⟨env, S, R, rs, q, k⟩ => k _ _ _ q rs.sto (.refl H)⟩
theorem dts_one {X : Cx} {c : Expr} {t : DTT} (h : DT X c t) : DTs X [c] t := ⟨pts_one h.run⟩
section
variable {X : Cx}
/-- [elt for target in iter if ..]: p the new list -/
def dLc (ti : DTI) (g : DTG) (tt : DTT) (te : DTE) (us : List Nat) : DTE := fun env S R => ti env S fun w S1 => ∀ p, S1 p = none → ∃ Pv : Nat → Sto → Prop, Pv 0 (S1.put p (.lst [])) ∧ (∀ i S, i ≤ w.items.length → Pv i S → w.live S) ∧
  (∀ i d S, w.items[i]? = some d → Pv i S → g d (dwipe env us) S fun env' S' => tt env' S' fun b S2 => if b = true then te env' S2 fun y S3 => ∃ acc, S3 p = some (.lst acc) ∧ acc.length < 1000000 ∧ Pv (i + 1) (S3.put p (.lst (acc ++ [y]))) else Pv (i + 1) S2) ∧
  ∀ S, Pv w.items.length S → R (.ref p) S
theorem app_rel {K : KK} {S : Sto} {H : Hp} {p : Addr} {acc : List D} {y : D} {v : V} (s : RelS K S H) (h : S p = some (.lst acc)) (hl : acc.length < 1000000) (r : RD K H y v) :
    ∃ vs, H p = some (.lst vs) ∧ vs.length < sizeLine ∧ RelS K (S.put p (.lst (acc ++ [y]))) (upd H p (.lst (vs ++ [v]))) ∧ Ext H (upd H p (.lst (vs ++ [v]))) := by
  obtain ⟨vs, h1, h2⟩ := s.lst h
  have e : Ext H (upd H p (.lst (vs ++ [v]))) := .put h1 trivial
  exact ⟨vs, h1, Nat.lt_of_lt_of_le (h2.length ▸ hl) (by decide), s.put h1 trivial ⟨_, upd_same, (h2.append (.cons r .nil)).ext e⟩, e⟩
theorem lE_lc {K : KK} {b : Bool} {ti : DTI} {g : DTG} {tt : DTT} {te : DTE} {us vs : List Nat} {σ : L2.St} {H : Hp} {Q : VK} (hv : ∀ i ∈ vs, i ∈ us) (h : lE K (dLc ti g tt te us) σ H Q) : tLc (lI K b ti) (lG K b vs g) (lT K tt) (lE K te) us σ H Q := by
  obtain ⟨env, S, R, rs, h, k⟩ := h
  refine ⟨env, S, _, rs, h, fun w S1 J H1 q s1 e1 st p np => ?_⟩
  obtain ⟨Pv, p0, lv, step, done⟩ := q p (s1.fresh np)
  obtain ⟨G, Y, wk, hG, hY⟩ := st.ex
  have s1' : RelS K (S1.put p (.lst [])) (upd H1 p (.lst [])) := s1.lay np ⟨_, upd_same, .nil⟩
  have e1' : Ext H1 (upd H1 p (.lst [])) := .new np
  refine lc_it wk (fun i H' => ∃ S', RelS K S' H' ∧ Ext H1 H' ∧ Pv i S') ⟨_, s1', e1', p0⟩ (fun i H' hi ⟨S', s', e', p'⟩ => hG H' S' e' s' (lv i S' hi p')) ?_ ?_
  · rintro i x H2 H3 hi ⟨S2, s2, e2, p2⟩ y
    obtain ⟨e3, hS, d, hd, rd⟩ := hY i H2 x H3 e2 y
    have e13 := e1.trans (e2.trans e3)
    refine ⟨d, dwipe env us, S2, _, rd, (rs.ext e13 (hS S2 s2)).wipe us, step i d S2 hd p2, fun env4 S4 σ4 H4 q4 rs4 e4 o4 => ⟨wipe_off o4 hv, env4, S4, _, rs4, q4, fun c S5 H5 q5 s5 e5 => ?_⟩⟩
    cases c with
    | false => exact ⟨S5, s5, e2.trans (e3.trans (e4.trans e5)), q5⟩
    | true =>
      refine ⟨env4, S5, _, rs4.ext e5 s5, q5, fun y S6 v H6 ⟨acc, h1, h2, q6⟩ s6 r6 e6 => ?_⟩
      obtain ⟨vs', h3, h4, s7, e7⟩ := app_rel s6 h1 h2 r6
      exact ⟨vs', h3, h4, _, s7, e2.trans (e3.trans (e4.trans (e5.trans (e6.trans e7)))), q6⟩
  · rintro H2 ⟨S2, s2, e2, p2⟩
    exact k _ _ _ _ (done S2 p2) s2 (.ref p) (e1.trans e2)
variable {elt tg iter : Expr} {ifs : List Expr} {scope : Scope} {own : List (Str × Nat)} {vs : List Nat} {pos spos : Pos} {b : Bool} {ti : DTI} {g : DTG} {tt : DTT} {te : DTE}
theorem de_lc (hc : X.calm = true) (hN : X.N.Nodup) (hi : DI X b tg iter ti) (ok : BlkOk X.N X.env.scope scope own) (hv : ∀ i ∈ vs, i ∈ own.map (·.2))
    (hg : ∀ (s : Shared) (H : Hp) (C : Addr) (cl : List (Str × Addr)) (fp : List Addr), DG (X.blk s H scope (compEnvC scope cl C X.env) fp) b vs tg g) (ht : ∀ (s : Shared) (H : Hp) (C : Addr) (cl : List (Str × Addr)) (fp : List Addr), DTs (X.blk s H scope (compEnvC scope cl C X.env) fp) ifs tt)
    (he : ∀ (s : Shared) (H : Hp) (C : Addr) (cl : List (Str × Addr)) (fp : List Addr), DE (X.blk s H scope (compEnvC scope cl C X.env) fp) elt te) (hs : ∀ x, foldedSetIterable iter X.env x = pure x := by intro _; rfl) :
    DE X (.ListComp elt [⟨tg, iter, ifs, 0⟩] scope pos) (dLc ti g tt te (own.map (·.2))) :=
  ⟨(pe_lc (te := lE X.kk te) hc hN hi.run ok (fun s H C cl fp => (hg s H C cl fp).run) (fun s H C cl fp => (ht s H C cl fp).run) (fun s H C cl fp => (he s H C cl fp).run) hs).of fun _ _ _ => lE_lc hv⟩
theorem ds_setLc {i : Nat} {y : Str} {py : Pos} (hc : X.calm = true) (hN : X.N.Nodup) (hy : X.N[i]? = some y) (hyl : X.env.scope.names.lookup y = some .local)
    (hsw : swapsWith (.ListComp elt [⟨tg, iter, ifs, 0⟩] scope pos) (some (.Name y py)) spos.line X.env = pure true) (hi : DI X b tg iter ti) (ok : BlkOk X.N X.env.scope scope own) (hv : ∀ i ∈ vs, i ∈ own.map (·.2))
    (hg : ∀ (s : Shared) (H : Hp) (C : Addr) (cl : List (Str × Addr)) (fp : List Addr), DG (X.blk s H scope (compEnvC scope cl C X.env) fp) b vs tg g) (ht : ∀ (s : Shared) (H : Hp) (C : Addr) (cl : List (Str × Addr)) (fp : List Addr), DTs (X.blk s H scope (compEnvC scope cl C X.env) fp) ifs tt)
    (he : ∀ (s : Shared) (H : Hp) (C : Addr) (cl : List (Str × Addr)) (fp : List Addr), DE (X.blk s H scope (compEnvC scope cl C X.env) fp) elt te) (hs : ∀ x, foldedSetIterable iter X.env x = pure x := by intro _; rfl) :
    DS X (.Assign [.Name y py] (.ListComp elt [⟨tg, iter, ifs, 0⟩] scope pos) spos) (dAsg (dLc ti g tt te (own.map (·.2))) (dgName i)) := by
  refine ⟨(ps_setLc (g := lG X.kk b vs g) (tt := lT X.kk tt) (te := lE X.kk te) hc hN hy hyl hsw hi.run ok (fun s H C cl fp => (hg s H C cl fp).run) (fun s H C cl fp => (ht s H C cl fp).run) (fun s H C cl fp => (he s H C cl fp).run) hs).of fun σ H B h => ?_⟩
  obtain ⟨env, S, C, rs, h, k, _⟩ := h
  exact lE_lc hv ⟨env, S, _, rs, h, fun d S1 v H1 q s1 r1 e1 => k _ _ _ _ q ((rs.ext e1 s1).set i r1) e1⟩
/-- two clauses -/
def dLc2 (ti : DTI) (g : DTG) (tt : DTT) (ti1 : DTI) (g1 : DTG) (tt1 : DTT) (te : DTE) (us us1 : List Nat) : DTE := fun env S R => ti env S fun w S1 => ∀ p, S1 p = none → ∃ Pv : Nat → Sto → Prop, Pv 0 (S1.put p (.lst [])) ∧ (∀ i S, i ≤ w.items.length → Pv i S → w.live S) ∧
  (∀ i d S, w.items[i]? = some d → Pv i S → g d (dwipe env us) S fun env' S' => tt env' S' fun b S2 => if b = true then ti1 env' S2 fun w1 S3 => ∃ Pw : Nat → Sto → Prop, Pw 0 S3 ∧ (∀ j S, j ≤ w1.items.length → Pw j S → w1.live S) ∧
    (∀ j e S, w1.items[j]? = some e → Pw j S → g1 e (dwipe env' us1) S fun env2 S4 => tt1 env2 S4 fun b S5 => if b = true then te env2 S5 fun y S6 => ∃ acc, S6 p = some (.lst acc) ∧ acc.length < 1000000 ∧ Pw (j + 1) (S6.put p (.lst (acc ++ [y]))) else Pw (j + 1) S5) ∧
    (∀ S, Pw w1.items.length S → Pv (i + 1) S) else Pv (i + 1) S2) ∧
  ∀ S, Pv w.items.length S → R (.ref p) S
theorem lE_lc2 {K : KK} {b b1 : Bool} {ti ti1 : DTI} {g g1 : DTG} {tt tt1 : DTT} {te : DTE} {us us1 vs vs1 : List Nat} {σ : L2.St} {H : Hp} {Q : VK} (hv : ∀ i ∈ vs, i ∈ us) (hv1 : ∀ i ∈ vs1, i ∈ us1) (h : lE K (dLc2 ti g tt ti1 g1 tt1 te us us1) σ H Q) :
    tLc2 (lI K b ti) (lG K b vs g) (lT K tt) (lI K b1 ti1) (lG K b1 vs1 g1) (lT K tt1) (lE K te) us us1 σ H Q := by
  obtain ⟨env, S, R, rs, h, k⟩ := h
  refine ⟨env, S, _, rs, h, fun w S1 J H1 q s1 e1 st p np => ?_⟩
  obtain ⟨Pv, p0, lv, step, done⟩ := q p (s1.fresh np)
  obtain ⟨G, Y, wk, hG, hY⟩ := st.ex
  have s1' : RelS K (S1.put p (.lst [])) (upd H1 p (.lst [])) := s1.lay np ⟨_, upd_same, .nil⟩
  have e1' : Ext H1 (upd H1 p (.lst [])) := .new np
  refine lc2_out wk (fun i H' => ∃ S', RelS K S' H' ∧ Ext H1 H' ∧ Pv i S') ⟨_, s1', e1', p0⟩ (fun i H' hi ⟨S', s', e', p'⟩ => hG H' S' e' s' (lv i S' hi p')) ?_ ?_
  · rintro i x H2 H3 hi ⟨S2, s2, e2, p2⟩ y
    obtain ⟨e3, hS, d, hd, rd⟩ := hY i H2 x H3 e2 y
    have e13 := e1.trans (e2.trans e3)
    refine ⟨d, dwipe env us, S2, _, rd, (rs.ext e13 (hS S2 s2)).wipe us, step i d S2 hd p2, fun env4 S4 σ4 H4 q4 rs4 e4 o4 => ⟨wipe_off o4 hv, env4, S4, _, rs4, q4, fun c S5 H5 q5 s5 e5 => ?_⟩⟩
    have e25 := e2.trans (e3.trans (e4.trans e5))
    cases c with
    | false => exact ⟨S5, s5, e25, q5⟩
    | true =>
      refine ⟨env4, S5, _, rs4.ext e5 s5, q5, fun w1 S6 J1 H6 ⟨Pw, pw0, lv1, step1, done1⟩ s6 e6 st1 => ?_⟩
      obtain ⟨G1, Y1, wk1, hG1, hY1⟩ := st1.ex
      refine lc2_in wk1 (fun j H' => ∃ S', RelS K S' H' ∧ Ext H6 H' ∧ Pw j S') ⟨_, s6, .refl _, pw0⟩ (fun i H' hi ⟨S', s', e', p'⟩ => hG1 H' S' e' s' (lv1 i S' hi p')) ?_ ?_
      · rintro j x7 H7 H8 hj ⟨S7, s7, e7, p7⟩ y7
        obtain ⟨e8, hS8, d8, hd8, rd8⟩ := hY1 j H7 x7 H8 e7 y7
        refine ⟨d8, dwipe env4 us1, S7, _, rd8, (rs4.ext (e5.trans (e6.trans (e7.trans e8))) (hS8 S7 s7)).wipe us1, step1 j d8 S7 hd8 p7, fun env9 S9 σ9 H9 q9 rs9 e9 o9 => ⟨wipe_off o9 hv1, env9, S9, _, rs9, q9, fun c S10 H10 q10 s10 e10 => ?_⟩⟩
        have e710 := e7.trans (e8.trans (e9.trans e10))
        cases c with
        | false => exact ⟨S10, s10, e710, q10⟩
        | true =>
          refine ⟨env9, S10, _, rs9.ext e10 s10, q10, fun y S11 v H11 ⟨acc, h1, h2, q11⟩ s11 r11 e11 => ?_⟩
          obtain ⟨vs', h3, h4, s12, e12⟩ := app_rel s11 h1 h2 r11
          exact ⟨vs', h3, h4, _, s12, e710.trans (e11.trans e12), q11⟩
      · rintro H7 ⟨S7, s7, e7, p7⟩
        exact ⟨S7, s7, e25.trans (e6.trans e7), done1 S7 p7⟩
  · rintro H2 ⟨S2, s2, e2, p2⟩
    exact k _ _ _ _ (done S2 p2) s2 (.ref p) (e1.trans e2)
theorem de_lc2 {tg1 iter1 : Expr} {ifs1 : List Expr} {us1 vs1 : List Nat} {b1 : Bool} {ti1 : DTI} {g1 : DTG} {tt1 : DTT} (hc : X.calm = true) (hN : X.N.Nodup) (hi : DI X b tg iter ti) (ok : BlkOk X.N X.env.scope scope own) (hv : ∀ i ∈ vs, i ∈ own.map (·.2)) (hv1 : ∀ i ∈ vs1, i ∈ us1) (hu1 : ∀ i ∈ us1, i ∈ own.map (·.2))
    (hg : ∀ (s : Shared) (H : Hp) (C : Addr) (cl : List (Str × Addr)) (fp : List Addr), DG (X.blk s H scope (compEnvC scope cl C X.env) fp) b vs tg g) (ht : ∀ (s : Shared) (H : Hp) (C : Addr) (cl : List (Str × Addr)) (fp : List Addr), DTs (X.blk s H scope (compEnvC scope cl C X.env) fp) ifs tt)
    (hi1 : ∀ (s : Shared) (H : Hp) (C : Addr) (cl : List (Str × Addr)) (fp : List Addr), DI (X.blk s H scope (compEnvC scope cl C X.env) fp) b1 tg1 iter1 ti1)
    (hg1 : ∀ (s : Shared) (H : Hp) (C : Addr) (cl : List (Str × Addr)) (fp : List Addr), DG (X.blk s H scope (compEnvC scope cl C X.env) fp) b1 vs1 tg1 g1) (ht1 : ∀ (s : Shared) (H : Hp) (C : Addr) (cl : List (Str × Addr)) (fp : List Addr), DTs (X.blk s H scope (compEnvC scope cl C X.env) fp) ifs1 tt1)
    (he : ∀ (s : Shared) (H : Hp) (C : Addr) (cl : List (Str × Addr)) (fp : List Addr), DE (X.blk s H scope (compEnvC scope cl C X.env) fp) elt te) (hs : ∀ x, foldedSetIterable iter X.env x = pure x := by intro _; rfl) (hs1 : ∀ env x, foldedSetIterable iter1 env x = pure x := by intro _ _; rfl) :
    DE X (.ListComp elt [⟨tg, iter, ifs, 0⟩, ⟨tg1, iter1, ifs1, 0⟩] scope pos) (dLc2 ti g tt ti1 g1 tt1 te (own.map (·.2)) us1) :=
  ⟨(pe_lc2 (te := lE X.kk te) hc hN hi.run ok hu1 (fun s H C cl fp => (hg s H C cl fp).run) (fun s H C cl fp => (ht s H C cl fp).run) (fun s H C cl fp => (hi1 s H C cl fp).run) (fun s H C cl fp => (hg1 s H C cl fp).run) (fun s H C cl fp => (ht1 s H C cl fp).run) (fun s H C cl fp => (he s H C cl fp).run) hs hs1).of fun _ _ _ => lE_lc2 hv hv1⟩
end
end Sv
namespace Sv
open PySem PySem.Spec PyProof.Rows L2
mutual
inductive Py (S : Sto) : D → PyData → Prop
  | non : Py S .non .none
  | bl (b : Bool) : Py S (.bl b) (.bool b)
  | int (i : Int) : Py S (.int i) (.int i)
  | str (x : Str) : Py S (.str x) (.str x)
  | tup {ds : List D} {ps : List PyData} : Pys S ds ps → Py S (.tup ds) (.tuple ps)
  | rol {ds : List D} {ps : List PyData} : Pys S ds ps → Py S (.rol ds) (.list ps)
  | wtup {ds : List D} {ps : List PyData} : Pys S ds ps → Py S (.wtup ds) (.tuple ps)
  | lst {a : Addr} {ds : List D} {ps : List PyData} : S a = some (.lst ds) → Pys S ds ps → Py S (.ref a) (.list ps)
inductive Pys (S : Sto) : List D → List PyData → Prop
  | nil : Pys S [] []
  | cons {d : D} {ds : List D} {p : PyData} {ps : List PyData} : Py S d p → Pys S ds ps → Pys S (d :: ds) (p :: ps)
end
section
variable {K : KK} {S : Sto} {H : Hp}
mutual
theorem Py.dp (s : RelS K S H) : ∀ {d : D} {p : PyData} {v : V}, Py S d p → RD K H d v → Dp K.k H v p
  | _, _, _, .non, .non => .non
  | _, _, _, .bl b, .bl _ => .bl b
  | _, _, _, .int i, .int _ => .int i
  | _, _, _, .str x, .str _ => .str x
  | _, _, _, .tup h, .tup t r => .tup t.sqT (Pys.dp s h r)
  | _, _, _, .rol h, .rol t r => .lst t.sqL (Pys.dp s h r)
  | _, _, _, .wtup h, .wtup t r => .tup (.of t) (Pys.dp s h r)
  | _, _, _, .lst e h, .ref _ => let ⟨vs, q, r⟩ := s.lst e; .lst (.of q) (Pys.dp s h r)
theorem Pys.dp (s : RelS K S H) : ∀ {ds : List D} {ps : List PyData} {vs : List V}, Pys S ds ps → RDs K H ds vs → DpAll K.k H vs ps
  | _, _, _, .nil, .nil => .nil
  | _, _, _, .cons h t, .cons r q => .cons (Py.dp s h r) (Pys.dp s t q)
end
end
def rAdd : DR2 := fun x y S R => match x, y with
  | .int i, .int j => R (.int (i + j)) S
  | .tup xs, .tup ys => xs.length + ys.length ≤ 100000 ∧ R (.tup (xs ++ ys)) S
  | .str a, .str b => a.length + b.length ≤ 100000 ∧ R (.str (a ++ b)) S
  | .ref a, .ref b => ∃ xs ys, S a = some (.lst xs) ∧ S b = some (.lst ys) ∧ xs.length + ys.length ≤ 100000 ∧ ∀ p, S p = none → R (.ref p) (S.put p (.lst (xs ++ ys)))
  | _, _ => False
def rSub : DR2 := fun x y S R => match x, y with
  | .int i, .int j => R (.int (i - j)) S
  | _, _ => False
def rMul : DR2 := fun x y S R => match x, y with
  | .int i, .int j => CMul i j ∧ R (.int (i * j)) S
  | .tup xs, .int k => xs ≠ [] ∧ 1 ≤ k ∧ k ≤ 1000 ∧ xs.length ≤ 1000 ∧ R (.tup (List.replicate k.toNat xs).flatten) S
  | .ref a, .int k => ∃ xs, S a = some (.lst xs) ∧ 0 ≤ k ∧ k ≤ 1000 ∧ xs.length ≤ 1000 ∧ ∀ p, S p = none → R (.ref p) (S.put p (.lst (List.replicate k.toNat xs).flatten))
  | _, _ => False
def rDiv : DR2 := fun x y S R => match x, y with
  | .int i, .int j => CDiv i j ∧ R (.int (i / j)) S
  | _, _ => False
def rMod : DR2 := fun x y S R => match x, y with
  | .int i, .int j => 0 < j ∧ R (.int (i % j)) S
  | _, _ => False
def rPow : DR2 := fun x y S R => match x, y with
  | .int i, .int j => CPow i j ∧ R (.int (i ^ j.toNat)) S
  | _, _ => False
section
variable {X : Cx}
theorem cat_frz {pins : List (Addr × Obj)} {σ : L2.St} {H : Hp} {s : Shared} {a b : Addr} {xs ys : List V} {Q : VK} (I : Inv X pins σ H s) (ha : TupN H a xs) (hb : TupN H b ys) (hz : xs.length + ys.length ≤ sizeLine)
    (q : ∀ (H' : Hp) (p : Addr), Same H H' → (∀ b, H b ≠ none → H' b = H b) → TupN H' p (xs ++ ys) → Q (.ref p) H') (q2 : ∀ (p : Addr) (o : Obj), H p = none → o.dict = none → Q (.ref p) (upd H p (.frz o (.tup (xs ++ ys))))) : wpAny (model X.prog X.w) X.A (binaryOp .Add (.ref a) (.ref b)) (EP X pins σ Q) X.xe s := by
  obtain ⟨its, r1, p1, _⟩ := I.tuple (ha.sqT (K := X.K))
  obtain ⟨its2, r2, p2, _⟩ := I.tuple (hb.sqT (K := X.K))
  by_cases hx : its = []
  · subst hx
    have e1 : xs = [] := r1.nil_iff.mp rfl
    subst e1
    exact cat_tup0 p1 p2 ⟨.ref b, H, I, rfl, q H b (fun _ _ h => h) (fun _ _ => rfl) hb⟩
  · have hl : its.length + its2.length ≤ sizeLine := by rw [← r1.length, ← r2.length]; exact hz
    refine HT.cat_tup p1 p2 hx (fun z => ?_) (fun _ => ?_) hl
    · subst z
      have e2 : ys = [] := r2.nil_iff.mp rfl
      subst e2
      exact ⟨.ref a, H, I, rfl, q H a (fun _ _ h => h) (fun _ _ => rfl) (by rw [List.append_nil]; exact ha)⟩
    · have hg := Heap.get?_push_size s.heap (o := { cls := .type "tuple", data := .seq (its ++ its2).toArray }) rfl
      refine ⟨.ref s.heap.objs.size, _, I.laid (t' := s.toks) (o := .frz { cls := .type "tuple", data := .seq (its ++ its2).toArray } (.tup (xs ++ ys))) (fun b ob q => Heap.get?_push_of_some _ q) (Nat.le_refl _) ?_, rfl, q2 _ _ (I.hok.fresh (Nat.le_refl _)) rfl⟩
      exact ⟨hg, by rw [List.length_append]; exact hz, _, r1.append r2, ⟨_, hg, rfl, _, rfl⟩⟩
theorem big5 {n : Nat} (h : n ≤ 100000) : n ≤ sizeLine := Nat.le_trans h (by decide)
theorem o_add : OpR X (binaryOp .Add) (l2 X.kk rAdd) := by
  intro pins s σ H x y v u Q I rx ry ⟨d, e, S, R, r1, r2, s1, h, k⟩
  cases r1 with
  | int i =>
    cases r2 with
    | int j => exact op_add pins s σ H _ _ v u Q I rx ry ⟨i, j, rfl, rfl, k _ _ _ _ h s1 (.int _) (.refl H)⟩
    | _ => exact h.elim
  | str i =>
    cases r2 with
    | str j => exact op_add_str pins s σ H _ _ v u Q I rx ry ⟨i, j, rfl, rfl, big5 h.1, k _ _ _ _ h.2 s1 (.str _) (.refl H)⟩
    | _ => exact h.elim
  | tup t1 q1 =>
    cases r2 with
    | tup t2 q2 =>
      cases rx
      cases ry
      refine cat_frz I t1 t2 (by rw [← q1.length, ← q2.length]; exact big5 h.1) (fun H' p sm same t => ?_) fun p o np ho => ?_
      · exact k _ _ _ _ h.2 (fun a o e => (s1 a o e).ext (.of sm) (same a fun z => by obtain ⟨u, q, _⟩ := (s1 a o e).mut; rw [z] at q; cases q)) (.tup t ((q1.append q2).ext (.of sm))) (.of sm)
      · exact k _ _ _ _ h.2 (s1.new np) (.tup (.new ho) ((q1.append q2).ext (.new np))) (.new np)
    | _ => exact h.elim
  | ref a =>
    cases r2 with
    | ref b =>
      obtain ⟨xs, ys, h1, h2, hz, q⟩ := h
      obtain ⟨vs, e1, q1⟩ := s1.lst h1
      obtain ⟨ws, e2, q2⟩ := s1.lst h2
      exact op_cat pins s σ H _ _ v u Q I rx ry ⟨a, b, vs, ws, rfl, rfl, e1, e2, by rw [← q1.length, ← q2.length]; exact big5 hz, fun p np =>
        k _ _ _ _ (q p (s1.fresh np)) (s1.lay np ⟨_, upd_same, (q1.append q2).ext (.new np)⟩) (.ref p) (.new np)⟩
    | _ => exact h.elim
  | _ => exact h.elim
theorem o_sub : OpR X (binaryOp .Sub) (l2 X.kk rSub) := by
  intro pins s σ H x y v u Q I rx ry ⟨d, e, S, R, r1, r2, s1, h, k⟩
  cases r1 with
  | int i =>
    cases r2 with
    | int j => exact op_sub pins s σ H _ _ v u Q I rx ry ⟨i, j, rfl, rfl, k _ _ _ _ h s1 (.int _) (.refl H)⟩
    | _ => exact h.elim
  | _ => exact h.elim
theorem o_div : OpR X (binaryOp .FloorDiv) (l2 X.kk rDiv) := by
  intro pins s σ H x y v u Q I rx ry ⟨d, e, S, R, r1, r2, s1, h, k⟩
  cases r1 with
  | int i =>
    cases r2 with
    | int j => exact op_fdiv pins s σ H _ _ v u Q I rx ry ⟨i, j, rfl, rfl, h.1, k _ _ _ _ h.2 s1 (.int _) (.refl H)⟩
    | _ => exact h.elim
  | _ => exact h.elim
theorem o_mod : OpR X (binaryOp .Mod) (l2 X.kk rMod) := by
  intro pins s σ H x y v u Q I rx ry ⟨d, e, S, R, r1, r2, s1, h, k⟩
  cases r1 with
  | int i =>
    cases r2 with
    | int j => exact op_mod pins s σ H _ _ v u Q I rx ry ⟨i, j, rfl, rfl, h.1, k _ _ _ _ h.2 s1 (.int _) (.refl H)⟩
    | _ => exact h.elim
  | _ => exact h.elim
theorem o_pow : OpR X (binaryOp .Pow) (l2 X.kk rPow) := by
  intro pins s σ H x y v u Q I rx ry ⟨d, e, S, R, r1, r2, s1, h, k⟩
  cases r1 with
  | int i =>
    cases r2 with
    | int j => exact op_pow pins s σ H _ _ v u Q I rx ry ⟨i, j, rfl, rfl, h.1, k _ _ _ _ h.2 s1 (.int _) (.refl H)⟩
    | _ => exact h.elim
  | _ => exact h.elim
def rCmp (f : Int → Int → Bool) : DR2 := fun x y S R => match x, y with
  | .int i, .int j => R (.bl (f i j)) S
  | _, _ => False
theorem o_cmp {op : CmpOp} {f : Int → Int → Bool} (ho : OpR X (compareOp op) (rI0 fun i j => .bl (f i j))) : OpR X (compareOp op) (l2 X.kk (rCmp f)) := by
  intro pins s σ H x y v u Q I rx ry ⟨d, e, S, R, r1, r2, s1, h, k⟩
  cases r1 with
  | int i =>
    cases r2 with
    | int j => exact ho pins s σ H _ _ v u Q I rx ry ⟨i, j, rfl, rfl, k _ _ _ _ h s1 (.bl _) (.refl H)⟩
    | _ => exact h.elim
  | _ => exact h.elim
theorem o_lt : OpR X (compareOp .Lt) (l2 X.kk (rCmp fun i j => decide (i < j))) := o_cmp op_lt
theorem o_gt : OpR X (compareOp .Gt) (l2 X.kk (rCmp fun i j => decide (j < i))) := o_cmp op_gt
theorem o_ge : OpR X (compareOp .GtE) (l2 X.kk (rCmp fun i j => decide (j ≤ i))) := o_cmp op_ge
/-- == : ints, texts and bools at once, the rest as data -/
def rEqq (n : Bool) : DR2 := fun x y S R => match x, y with
  | .int i, .int j => R (.bl (decide (i = j) ^^ n)) S
  | .str i, .str j => R (.bl (decide (i = j) ^^ n)) S
  | .bl i, .bl j => R (.bl (decide (i = j) ^^ n)) S
  | _, _ => ∃ p q, Py S x p ∧ Py S y q ∧ SeqAt.shaped p = true ∧ SeqAt.shaped q = true ∧ R (.bl (PyData.eqv p q ^^ n)) S
theorem xor_ff (b : Bool) : (b ^^ false) = b := by cases b <;> rfl
theorem xor_tt (b : Bool) : (b ^^ true) = !b := by cases b <;> rfl
theorem o_eq (hu : X.A.units + 64 < cLine) : OpR X (compareOp .Eq) (l2 X.kk (rEqq false)) := by
  intro pins s σ H x y v u Q I rx ry ⟨d, e, S, R, r1, r2, s1, h, k⟩
  have dat : (∃ p q, Py S d p ∧ Py S e q ∧ SeqAt.shaped p = true ∧ SeqAt.shaped q = true ∧ R (.bl (PyData.eqv p q ^^ false)) S) → wpAny (model X.prog X.w) X.A (compareOp .Eq v u) (EP X pins σ Q) X.xe s := by
    rintro ⟨p, q, h1, h2, h3, h4, h5⟩
    rw [xor_ff] at h5
    exact op_eqD hu pins s σ H _ _ v u Q I rx ry ⟨p, q, h1.dp s1 r1, h2.dp s1 r2, h3, h4, k _ _ _ _ h5 s1 (.bl _) (.refl H)⟩
  have fl : ∀ {b : Bool}, decide (x = y) = b → scal x y = true → R (.bl (b ^^ false)) S → wpAny (model X.prog X.w) X.A (compareOp .Eq v u) (EP X pins σ Q) X.xe s := fun {b} hb hs q => by
    rw [xor_ff] at q
    exact op_eq pins s σ H _ _ v u Q I rx ry ⟨hs, by rw [hb]; exact k _ _ _ _ q s1 (.bl _) (.refl H)⟩
  cases r1 with
  | int i =>
    cases r2 with
    | int j => exact fl (by simp) rfl h
    | _ => exact dat h
  | str i =>
    cases r2 with
    | str j => exact fl (by simp) rfl h
    | _ => exact dat h
  | bl i =>
    cases r2 with
    | bl j => exact fl (by simp) rfl h
    | _ => exact dat h
  | _ => exact dat h
theorem o_ne (hu : X.A.units + 64 < cLine) : OpR X (compareOp .NotEq) (l2 X.kk (rEqq true)) := by
  intro pins s σ H x y v u Q I rx ry ⟨d, e, S, R, r1, r2, s1, h, k⟩
  have dat : (∃ p q, Py S d p ∧ Py S e q ∧ SeqAt.shaped p = true ∧ SeqAt.shaped q = true ∧ R (.bl (PyData.eqv p q ^^ true)) S) → wpAny (model X.prog X.w) X.A (compareOp .NotEq v u) (EP X pins σ Q) X.xe s := by
    rintro ⟨p, q, h1, h2, h3, h4, h5⟩
    rw [xor_tt] at h5
    exact op_neD hu pins s σ H _ _ v u Q I rx ry ⟨p, q, h1.dp s1 r1, h2.dp s1 r2, h3, h4, k _ _ _ _ h5 s1 (.bl _) (.refl H)⟩
  have fl : ∀ {b : Bool}, decide (x = y) = b → scal x y = true → R (.bl (b ^^ true)) S → wpAny (model X.prog X.w) X.A (compareOp .NotEq v u) (EP X pins σ Q) X.xe s := fun {b} hb hs q => by
    rw [xor_tt] at q
    exact op_ne pins s σ H _ _ v u Q I rx ry ⟨hs, by rw [hb]; exact k _ _ _ _ q s1 (.bl _) (.refl H)⟩
  cases r1 with
  | int i =>
    cases r2 with
    | int j => exact fl (by simp) rfl h
    | _ => exact dat h
  | str i =>
    cases r2 with
    | str j => exact fl (by simp) rfl h
    | _ => exact dat h
  | bl i =>
    cases r2 with
    | bl j => exact fl (by simp) rfl h
    | _ => exact dat h
  | _ => exact dat h
end
end Sv
namespace Sv
open PySem PySem.Spec PyProof.Rows L2
section
variable {X : Cx} {a b e : Expr} {es : List Expr} {ta tb te : DTE} {tl : DTA} {pos : Pos}
/-- the items of a sequence -/
def seqOf (S : Sto) : D → Option (List D)
  | .tup ds => some ds
  | .rol ds => some ds
  | .wtup ds => some ds
  | .ref a => match S a with
    | some (.lst ds) => some ds
    | _ => none
  | _ => none
theorem seqOf_ref {S : Sto} {a : Addr} {ds : List D} (h : seqOf S (.ref a) = some ds) : S a = some (.lst ds) := by
  have h : (match S a with
    | some (.lst ds) => some ds
    | _ => none) = some ds := h
  split at h
  · rename_i e
    rw [e]
    cases h
    rfl
  · cases h
theorem seqOf_lst {S : Sto} {a : Addr} {ds : List D} (h : S a = some (.lst ds)) : seqOf S (.ref a) = some ds := by
  show (match S a with
    | some (.lst ds) => some ds
    | _ => none) = some ds
  rw [h]
theorem seq_rel {K : KK} {S : Sto} {H : Hp} {d : D} {v : V} {ds : List D} (s : RelS K S H) (r : RD K H d v) (h : seqOf S d = some ds) : ∃ p vs, v = .ref p ∧ (SqL K.k H p vs ∨ SqT K.k H p vs) ∧ RDs K H ds vs := by
  cases r with
  | tup t q => cases h; exact ⟨_, _, rfl, .inr t.sqT, q⟩
  | rol t q => cases h; exact ⟨_, _, rfl, .inl t.sqL, q⟩
  | wtup t q => cases h; exact ⟨_, _, rfl, .inr (.of t), q⟩
  | ref a =>
    obtain ⟨vs, e, q⟩ := s.lst (seqOf_ref h)
    exact ⟨a, vs, rfl, .inl (.of e), q⟩
  | _ => cases h
theorem atI_rel {K : KK} {H : Hp} {ds : List D} {vs : List V} {i : Int} {d : D} (r : RDs K H ds vs) (h : atI ds i = some d) : ∃ v, atI vs i = some v ∧ RD K H d v := by
  unfold atI at h ⊢
  rw [← r.length]
  obtain ⟨j, h1, h2⟩ := Option.bind_eq_some_iff.mp h
  obtain ⟨v, h3, h4⟩ := r.at h2
  exact ⟨v, by rw [h1]; exact h3, h4⟩
/-- x[i] -/
def rIxq : DR2 := fun x y S R => ∃ ds i d, seqOf S x = some ds ∧ y = .int i ∧ atI ds i = some d ∧ R d S
theorem o_ix : IxR X (l2 X.kk rIxq) := by
  intro value slice pins s σ H x y v u Q I rx ry h hs
  obtain ⟨d, e, S, R, r1, r2, s1, ⟨ds, i, z, hd, rfl, hi, q⟩, k⟩ := h
  cases r2
  obtain ⟨p, vs, rfl, hq, r⟩ := seq_rel s1 r1 hd
  obtain ⟨w, hw, rw'⟩ := atI_rel r hi
  refine ix_seq value slice pins s σ H _ _ v u Q I rx ry ?_ hs
  have fin := k _ _ _ _ q s1 rw' (.refl H)
  rcases hq with hq | hq
  · exact .inl ⟨p, vs, i, w, rfl, rfl, hq, hw, fin⟩
  · exact .inr (.inl ⟨p, vs, i, w, rfl, rfl, hq, hw, fin⟩)
theorem de_ix {r : DR2} (hr : IxR X (l2 X.kk r)) (ha : DE X a ta) (hb : DE X b tb) (hs : PlainIx b := by intro _ _; rfl) : DE X (.Subscript a b pos) (dBin r ta tb) := ⟨(pe_ix hr ha.run hb.run hs).of fun _ _ _ => l2_bin⟩
abbrev DTO := Env → Sto → (Option Int → Sto → Prop) → Prop
def lO (K : KK) (t : DTO) : TO := fun σ H Q => ∃ env S R, RS K σ H env S ∧ t env S R ∧ ∀ o S' H', R o S' → RelS K S' H' → Ext H H' → Q o H'
structure DO (X : Cx) (e : Option Expr) (t : DTO) : Prop where
  run : PO X e (lO X.kk t)
theorem _root_.L2.PO.of {e : Option Expr} {t t' : TO} (h : PO X e t) (q : ∀ σ H Q, t' σ H Q → t σ H Q) : PO X e t' := ⟨fun pins s σ H Q I w => h.run pins s σ H Q I (q σ H Q w)⟩
def dNoP : DTO := fun _ S R => R none S
def dPart (t : DTE) : DTO := fun env S R => t env S fun d S1 => ∃ i, d = .int i ∧ R (some i) S1
theorem do_none : DO X none dNoP := ⟨po_none.of fun σ H Q ⟨env, S, R, rs, q, k⟩ => k _ _ _ q rs.sto (.refl H)⟩
theorem do_some (h : DE X e te) : DO X (some e) (dPart te) := ⟨(po_some h.run).of fun σ H Q ⟨env, S, R, rs, h, k⟩ => ⟨env, S, _, rs, h, fun d S1 v H1 ⟨i, z, q⟩ s1 r1 e1 => by
  subst z
  cases r1
  exact ⟨i, rfl, k _ _ _ q s1 e1⟩⟩⟩
def cutD (xs : List D) (lo hi : Option Int) : List D := (xs.drop (HT.sIx xs.length 0 lo)).take (HT.sIx xs.length xs.length hi - HT.sIx xs.length 0 lo)
theorem RDs.cut {K : KK} {H : Hp} {ds : List D} {vs : List V} (r : RDs K H ds vs) (lo hi : Option Int) : RDs K H (cutD ds lo hi) (cutV vs lo hi) := by
  unfold cutD cutV
  rw [r.length]
  exact (r.drop _).take _
/-- x[lo:hi] -/
def rSlq : D → Option Int → Option Int → Sto → DK → Prop := fun x lo hi S R => match x with
  | .tup ds => R (.tup (cutD ds lo hi)) S
  | .rol ds => ∀ p, S p = none → R (.ref p) (S.put p (.lst (cutD ds lo hi)))
  | .ref a => ∃ ds, S a = some (.lst ds) ∧ ∀ p, S p = none → R (.ref p) (S.put p (.lst (cutD ds lo hi)))
  | _ => False
def lSl (K : KK) (r : D → Option Int → Option Int → Sto → DK → Prop) : V → Option Int → Option Int → Hp → VK → Prop := fun x lo hi H Q => ∃ d S R, RD K H d x ∧ RelS K S H ∧ r d lo hi S R ∧ ∀ z S' v H', R z S' → RelS K S' H' → RD K H' z v → Ext H H' → Q v H'
theorem o_sl : SlR X (lSl X.kk rSlq) := by
  intro pins s σ H x v vl vu lo hi sl Q I rx hs pl pu ⟨d, S, R, r1, s1, h, k⟩
  cases r1 with
  | tup t q =>
    refine (sl_tupA.or sl_tupF) pins s σ H _ v vl vu lo hi sl Q I rx hs pl pu ?_
    rename_i a ds vs
    by_cases hw : HT.sIx vs.length 0 lo = 0 ∧ HT.sIx vs.length vs.length hi = vs.length
    · refine .inl ⟨a, vs, rfl, t.sqT, fun _ => k _ _ _ _ h s1 ?_ (.refl H), fun z => absurd hw z⟩
      have e : cutD ds lo hi = ds := by
        unfold cutD
        rw [q.length, hw.1, hw.2, List.drop_zero, Nat.sub_zero, ← q.length, List.take_length]
      rw [e]
      exact .tup t q
    · exact .inr ⟨a, vs, rfl, t.sqT, hw, fun p o np ho => k _ _ _ _ h (s1.new np) (.tup (.new ho) ((q.cut lo hi).ext (.new np))) (.new np)⟩
  | rol t q => exact sl_list pins s σ H _ v vl vu lo hi sl Q I rx hs pl pu ⟨_, _, rfl, t.sqL, fun p np => k _ _ _ _ (h p (s1.fresh np)) (s1.lay np ⟨_, upd_same, (q.cut lo hi).ext (.new np)⟩) (.ref p) (.new np)⟩
  | ref a =>
    obtain ⟨ds, h1, h⟩ := h
    obtain ⟨vs, e, q⟩ := s1.lst h1
    exact sl_list pins s σ H _ v vl vu lo hi sl Q I rx hs pl pu ⟨_, _, rfl, .of e, fun p np => k _ _ _ _ (h p (s1.fresh np)) (s1.lay np ⟨_, upd_same, (q.cut lo hi).ext (.new np)⟩) (.ref p) (.new np)⟩
  | _ => exact h.elim
def dSl (te : DTE) (tlo thi : DTO) : DTE := fun env S R => te env S fun d S1 => tlo env S1 fun lo S2 => thi env S2 fun hi S3 => rSlq d lo hi S3 R
theorem de_sl {lo hi : Option Expr} {tlo thi : DTO} {p2 : Pos} (he : DE X e te) (hl : DO X lo tlo) (hu : DO X hi thi) : DE X (.Subscript e (.Slice lo hi none p2) pos) (dSl te tlo thi) := by
  refine ⟨(pe_slice o_sl he.run hl.run hu.run).of fun σ H Q ⟨env, S, R, rs, h, k⟩ => ⟨env, S, _, rs, h, fun d S1 v H1 q s1 r1 e1 => ⟨env, S1, _, rs.ext e1 s1, q, fun lo S2 H2 q2 s2 e2 => ⟨env, S2, _, rs.ext (e1.trans e2) s2, q2, fun hi S3 H3 q3 s3 e3 => ?_⟩⟩⟩⟩
  exact ⟨d, S3, R, r1.ext (e2.trans e3), s3, q3, fun z S4 w H4 q4 s4 r4 e4 => k _ _ _ _ q4 s4 r4 (e1.trans (e2.trans (e3.trans e4)))⟩
def dSub (to ti : DTE) : DTG := fun d env S R => to env S fun o S1 => ti env S1 fun i S2 => ∃ a ds k j, o = .ref a ∧ i = .int k ∧ S2 a = some (.lst ds) ∧ ixN ds.length k = some j ∧ R env (S2.put a (.lst (ds.set j d)))
theorem dg_sub {o i : Expr} {to ti : DTE} (ho : DE X o to) (hi : DE X i ti)
    (ha : ∀ v, assign (.Subscript o i pos) X.env v = (do
      let ov ← holding [v] (eval o X.env)
      let iv ← holding [v, ov] (eval i X.env)
      standAt pos
      holding [v, ov, iv] (setItem ov iv v)
      release [v, ov, iv] []) := by intro _; rfl) : DG X true [] (.Subscript o i pos) (dSub to ti) := by
  refine ⟨(pg_sub ho.run hi.run set_list ha).of fun v σ H Q ⟨d, env, S, R, r, rs, h, k⟩ => ⟨env, S, _, rs, h, fun o S1 ov H1 q1 s1 r1 e1 => ⟨env, S1, _, rs.ext e1 s1, q1, fun i S2 iv H2 q2 s2 r2 e2 => ?_⟩⟩⟩
  obtain ⟨a, ds, kk, j, rfl, rfl, hs, hj, q⟩ := q2
  cases r1
  cases r2
  obtain ⟨vs, h1, q1⟩ := s2.lst hs
  have rd : RD X.kk H d v := by
    rcases r with r | ⟨z, _⟩
    · exact r
    · cases z
  refine ⟨a, vs, kk, j, rfl, rfl, h1, by rw [← q1.length]; exact hj, ?_⟩
  have e3 : Ext H2 (upd H2 a (.lst (vs.set j v))) := .put h1 trivial
  have e := e1.trans (e2.trans e3)
  exact k _ _ _ _ q (rs.ext e (s2.put h1 trivial ⟨_, upd_same, (q1.set (rd.ext (e1.trans e2)) j).ext e3⟩)) e (.refl _ _)
/-- x in seq, as data -/
def rInq (n : Bool) : DR2 := fun x y S R => ∃ p ps, Py S x p ∧ (Py S y (.list ps) ∨ Py S y (.tuple ps)) ∧ SeqAt.shaped p = true ∧ SeqAt.shaped (.tuple ps) = true ∧ SeqAt.shaped (.list ps) = true ∧ R (.bl ((ps.any fun z => PyData.eqv z p) ^^ n)) S
end
end Sv
namespace Sv
open PySem PySem.Spec PyProof.Rows L2
section
variable {X : Cx} {a b e : Expr} {es : List Expr} {ta tb te : DTE} {tl : DTA} {pos : Pos}
theorem o_in (hu : X.A.units + 65 < cLine) : OpR X (compareOp .In) (l2 X.kk (rInq false)) := by
  intro pins s σ H x y v u Q I rx ry ⟨d, e, S, R, r1, r2, s1, ⟨p, ps, h1, h2, h3, h4, h5, q⟩, k⟩
  rw [xor_ff] at q
  have fin := k _ _ _ _ q s1 (.bl _) (.refl H)
  obtain ⟨as, ra⟩ := Dp.reads I p x v (h1.dp s1 r1) rx
  rcases h2 with h2 | h2
  · exact op_inD hu pins s σ H _ _ v u Q I rx ry ⟨p, ps, h1.dp s1 r1, h2.dp s1 r2, h3, h5, fin⟩
  · obtain ⟨bs, rb⟩ := Dp.reads I (.tuple ps) y u (h2.dp s1 r2) ry
    exact SeqAt.in_tuple_reads rb ra (SeqAt.canLay_of_shaped h4) (SeqAt.canLay_of_shaped h3) (room_in_shaped h3 hu) ⟨.bl _, H, I, rfl, fin⟩
def rLen : DRC := fun ds S R => ∃ d xs, ds = [d] ∧ seqOf S d = some xs ∧ R (.int xs.length) S
theorem b_len : CallR X (.builtin "len") (lC X.kk rLen) := by
  intro pins s σ H vs us Q I r ⟨ds, S, R, r1, s1, ⟨d, xs, hd, hx, q⟩, k⟩
  subst hd
  obtain ⟨v, rfl, rv⟩ := r1.inv1
  obtain ⟨p, ws, rfl, hq, rw'⟩ := seq_rel s1 rv hx
  refine call_len pins s σ H _ us Q I r ⟨.ref p, ws.length, rfl, ?_, ?_⟩
  · rcases hq with hq | hq
    · exact .inl ⟨ws, hq, rfl⟩
    · exact .inr ⟨ws, hq, rfl⟩
  · rw [← rw'.length]
    exact k _ _ _ _ q s1 (.int _) (.refl H)
def rAbs : DRC := fun ds S R => ∃ i, ds = [.int i] ∧ R (.int (if i < 0 then -i else i)) S
theorem b_abs : CallR X (.builtin "abs") (lC X.kk rAbs) := by
  intro pins s σ H vs us Q I r ⟨ds, S, R, r1, s1, ⟨i, hd, q⟩, k⟩
  subst hd
  obtain ⟨v, rfl, rv⟩ := r1.inv1
  cases rv
  exact call_abs pins s σ H _ us Q I r ⟨i, rfl, k _ _ _ _ q s1 (.int _) (.refl H)⟩
def rMax2 : DRC := fun ds S R => ∃ i j, ds = [.int i, .int j] ∧ R (.int (if j > i then j else i)) S
theorem b_max2 (hc : X.calm = true) : CallR X (.builtin "max") (lC X.kk rMax2) := by
  intro pins s σ H vs us Q I r ⟨ds, S, R, r1, s1, ⟨i, j, hd, q⟩, k⟩
  subst hd
  obtain ⟨v, u, rfl, rv, ru⟩ := r1.inv2
  cases rv
  cases ru
  exact call_max2 hc pins s σ H _ us Q I r ⟨i, j, rfl, k _ _ _ _ q s1 (.int _) (.refl H)⟩
def rTupq : DRC := fun ds S R => ∃ d xs, ds = [d] ∧ seqOf S d = some xs ∧ (∀ ys, d ≠ .wtup ys) ∧ R (.tup xs) S
theorem b_tuple : CallR X (.type "tuple") (lC X.kk rTupq) := by
  intro pins s σ H vs us Q I r ⟨ds, S, R, r1, s1, ⟨d, xs, hd, hx, hw, q⟩, k⟩
  subst hd
  obtain ⟨v, rfl, rv⟩ := r1.inv1
  cases rv with
  | wtup t qq => exact absurd rfl (hw _)
  | tup t qq =>
    cases hx
    exact call_tuple_of pins s σ H _ us Q I r ⟨_, _, rfl, .inr ⟨t.sqT, k _ _ _ _ q s1 (.tup t qq) (.refl H)⟩⟩
  | rol t qq =>
    cases hx
    exact call_tupleF pins s σ H _ us Q I r ⟨_, _, rfl, t.sqL, fun l o nl ho => k _ _ _ _ q (s1.new nl) (.tup (.new ho) (qq.ext (.new nl))) (.new nl)⟩
  | ref a =>
    obtain ⟨ws, h1, qq⟩ := s1.lst (seqOf_ref hx)
    exact call_tupleF pins s σ H _ us Q I r ⟨_, _, rfl, .of h1, fun l o nl ho => k _ _ _ _ q (s1.new nl) (.tup (.new ho) (qq.ext (.new nl))) (.new nl)⟩
  | _ => cases hx
def intsD (ns : List Int) : List D := ns.map D.int
def rSorted1 : DRC := fun ds S R => ∃ d ns, ds = [d] ∧ seqOf S d = some (intsD ns) ∧ ((∀ xs, d ≠ .tup xs) ∧ ∀ xs, d ≠ .wtup xs) ∧ ns.length < 64 ∧ ∀ (ns' : List Int) (p : Addr), ns'.Perm ns → ns'.Pairwise (· ≤ ·) → S p = none → R (.ref p) (S.put p (.lst (intsD ns')))
theorem b_sorted : CallR X (.builtin "sorted") (lC X.kk rSorted1) := by
  intro pins s σ H vs us Q I r ⟨ds, S, R, r1, s1, ⟨d, ns, hd, hx, ht, hn, q⟩, k⟩
  subst hd
  obtain ⟨v, rfl, rv⟩ := r1.inv1
  cases rv with
  | tup t qq => exact absurd rfl (ht.1 _)
  | wtup t qq => exact absurd rfl (ht.2 _)
  | rol t qq =>
    cases hx
    cases (RDs.ints_inv qq)
    exact cr_sorted pins s σ H _ us Q I r ⟨_, ns, rfl, t.sqL, hn, fun ns' p h1 h2 np => k _ _ _ _ (q ns' p h1 h2 (s1.fresh np)) (s1.lay np ⟨_, upd_same, .ints ns'⟩) (.ref p) (.new np)⟩
  | ref a =>
    obtain ⟨ws, h1, qq⟩ := s1.lst (seqOf_ref hx)
    cases (RDs.ints_inv qq)
    exact cr_sorted pins s σ H _ us Q I r ⟨_, ns, rfl, .of h1, hn, fun ns' p h1 h2 np => k _ _ _ _ (q ns' p h1 h2 (s1.fresh np)) (s1.lay np ⟨_, upd_same, .ints ns'⟩) (.ref p) (.new np)⟩
  | _ => cases hx
theorem RDs.bls_inv {K : KK} {H : Hp} : ∀ {bs : List Bool} {vs : List V}, RDs K H (bs.map D.bl) vs → vs = bs.map V.bl
  | [], _, .nil => rfl
  | n :: r, _, .cons (.bl _) t => by rw [RDs.bls_inv t]; rfl
def rAnyq (f : List Bool → Bool) : DRC := fun ds S R => ∃ a bs, ds = [.ref a] ∧ S a = some (.lst (bs.map D.bl)) ∧ R (.bl (f bs)) S
theorem b_any (hc : X.calm = true) : CallR X (.builtin "any") (lC X.kk (rAnyq fun bs => bs.any id)) := by
  intro pins s σ H vs us Q I r ⟨ds, S, R, r1, s1, ⟨a, bs, hd, hx, q⟩, k⟩
  subst hd
  obtain ⟨v, rfl, rv⟩ := r1.inv1
  cases rv
  obtain ⟨ws, h1, qq⟩ := s1.lst hx
  cases (RDs.bls_inv qq)
  exact cr_any hc pins s σ H _ us Q I r ⟨a, bs, rfl, .of h1, k _ _ _ _ q s1 (.bl _) (.refl H)⟩
def dMtq (T : String) (r : DRM) (to : DTE) (t : DTA) : DTE := fun env S R => to env S fun x S1 => (T = "list" ∧ ∃ xs, seqOf S1 x = some xs ∧ (∀ ds, x ≠ .tup ds) ∧ ∀ ds, x ≠ .wtup ds) ∧ t env S1 fun ds S2 => r x ds S2 R
theorem de_mL {r : DRM} {name : Str} {id : String} {o : Expr} {to : DTE} {apos cpos : Pos} (slot : Slot "list" name id) (hty : typeOf (.builtin id) = pure (.type "method_descriptor")) (hm : MtR X id (lM X.kk r)) (ho : DE X o to) (ha : DA X (e :: es) tl)
    (hbase : attributeBase o name X.env (eval o X.env) = eval o X.env := by rfl)
    (hfew : ((backTo cpos (starEach (e :: es) X.env)).all (fun x => !x.1) && (backToKw cpos (keywordEach [] X.env)).all (fun x => x.1.isSome)
      && decide ((e :: es).length + ([] : List Keyword).length + (if ([] : List Keyword).isEmpty then 0 else 1) < 30)) = true := by rfl)
    (hline : (apos.endLine == cpos.line) = true := by rfl) (hs : starEach (e :: es) X.env = (false, eval e X.env) :: starEach es X.env := by rfl) (hplain : (backTo cpos (starEach es X.env)).any (·.1) = false := by rfl) :
    DE X (.Call (.Attribute o name apos) (e :: es) [] cpos) (dMtq "list" r to tl) := by
  refine ⟨(pe_bm PySem.F.plainAttrs_list slot hty hm ho.run ha.run hbase hfew hline hs hplain).of fun σ H Q ⟨env, S, R, rs, h, k⟩ => ⟨env, S, _, rs, h, fun x S1 v H1 ⟨⟨_, xs, hx, hn⟩, q⟩ s1 r1 e1 => ⟨?_, env, S1, _, rs.ext e1 s1, q, fun ds S2 vs H2 q2 s2 r2 e2 => ?_⟩⟩⟩
  · cases r1 with
    | tup t qq => exact absurd rfl (hn.1 _)
    | wtup t qq => exact absurd rfl (hn.2 _)
    | rol t qq => exact .inl ⟨rfl, _, t.sqL⟩
    | ref a =>
      obtain ⟨ws, h1, _⟩ := s1.lst (seqOf_ref hx)
      exact .inl ⟨rfl, _, .of h1⟩
    | _ => cases hx
  · exact ⟨x, ds, S2, R, r1.ext e2, r2, s2, q2, fun z S3 w H3 q3 s3 r3 e3 => k _ _ _ _ q3 s3 r3 (e1.trans (e2.trans e3))⟩
def dMtT (r : DRM) (to : DTE) (t : DTA) : DTE := fun env S R => to env S fun x S1 => (∃ xs, x = .tup xs) ∧ t env S1 fun ds S2 => r x ds S2 R
theorem de_mT {r : DRM} {name : Str} {id : String} {o : Expr} {to : DTE} {apos cpos : Pos} (slot : Slot "tuple" name id) (hty : typeOf (.builtin id) = pure (.type "method_descriptor")) (hm : MtR X id (lM X.kk r)) (ho : DE X o to) (ha : DA X (e :: es) tl)
    (hbase : attributeBase o name X.env (eval o X.env) = eval o X.env := by rfl)
    (hfew : ((backTo cpos (starEach (e :: es) X.env)).all (fun x => !x.1) && (backToKw cpos (keywordEach [] X.env)).all (fun x => x.1.isSome)
      && decide ((e :: es).length + ([] : List Keyword).length + (if ([] : List Keyword).isEmpty then 0 else 1) < 30)) = true := by rfl)
    (hline : (apos.endLine == cpos.line) = true := by rfl) (hs : starEach (e :: es) X.env = (false, eval e X.env) :: starEach es X.env := by rfl) (hplain : (backTo cpos (starEach es X.env)).any (·.1) = false := by rfl) :
    DE X (.Call (.Attribute o name apos) (e :: es) [] cpos) (dMtT r to tl) := by
  refine ⟨(pe_tm slot hty hm ho.run ha.run hbase hfew hline hs hplain).of fun σ H Q ⟨env, S, R, rs, h, k⟩ => ⟨env, S, _, rs, h, fun x S1 v H1 ⟨⟨xs, hx⟩, q⟩ s1 r1 e1 => ⟨?_, env, S1, _, rs.ext e1 s1, q, fun ds S2 vs H2 q2 s2 r2 e2 => ?_⟩⟩⟩
  · subst hx
    cases r1 with
    | tup t qq => exact ⟨_, _, rfl, t⟩
  · exact ⟨x, ds, S2, R, r1.ext e2, r2, s2, q2, fun z S3 w H3 q3 s3 r3 e3 => k _ _ _ _ q3 s3 r3 (e1.trans (e2.trans e3))⟩
def mAppend : DRM := fun x ds S R => ∃ l xs y, x = .ref l ∧ ds = [y] ∧ S l = some (.lst xs) ∧ xs.length < 1000000 ∧ R .non (S.put l (.lst (xs ++ [y])))
theorem m_append : MtR X "list.append" (lM X.kk mAppend) := by
  intro pins s σ H x vs v us Q I rx rv ⟨d, ds, S, R, r1, r2, s1, ⟨l, xs, y, hd, hds, hx, hl, q⟩, k⟩
  subst hd hds
  cases r1
  obtain ⟨w, rfl, rw'⟩ := r2.inv1
  obtain ⟨ws, h3, h4, s7, e7⟩ := app_rel s1 hx hl rw'
  exact mt_append pins s σ H _ _ v us Q I rx rv ⟨l, ws, w, rfl, rfl, h3, h4, k _ _ _ _ q s7 .non e7⟩
def mExtend : DRM := fun x ds S R => ∃ l b xs zs, x = .ref l ∧ ds = [.ref b] ∧ S l = some (.lst xs) ∧ S b = some (.lst zs) ∧ xs.length + zs.length ≤ 100000 ∧ R .non (S.put l (.lst (xs ++ zs)))
theorem m_extend : MtR X "list.extend" (lM X.kk mExtend) := by
  intro pins s σ H x vs v us Q I rx rv ⟨d, ds, S, R, r1, r2, s1, ⟨l, b, xs, zs, hd, hds, hx, hz, hl, q⟩, k⟩
  subst hd hds
  cases r1
  obtain ⟨w, rfl, rw'⟩ := r2.inv1
  cases rw'
  obtain ⟨ws, h3, q3⟩ := s1.lst hx
  obtain ⟨us', h4, q4⟩ := s1.lst hz
  have e : Ext H (upd H l (.lst (ws ++ us'))) := .put h3 trivial
  exact mt_extend pins s σ H _ _ v us Q I rx rv ⟨l, b, ws, us', rfl, rfl, h3, h4, by rw [← q3.length, ← q4.length]; exact big5 hl, k _ _ _ _ q (s1.put h3 trivial ⟨_, upd_same, (q3.append q4).ext e⟩) .non e⟩
def mTcount : DRM := fun x ds S R => ∃ ns k, x = .tup (intsD ns) ∧ ds = [.int k] ∧ R (.int (ns.count k : Nat)) S
theorem m_tcount (hu : X.A.units + 64 < cLine) : MtR X "tuple.count" (lM X.kk mTcount) := by
  intro pins s σ H x vs v us Q I rx rv ⟨d, ds, S, R, r1, r2, s1, ⟨ns, kk, hd, hds, q⟩, k⟩
  subst hd hds
  cases r1 with
  | tup t qq =>
    obtain ⟨w, rfl, rw'⟩ := r2.inv1
    cases rw'
    cases (RDs.ints_inv qq)
    exact mt_tcount hu pins s σ H _ _ v us Q I rx rv ⟨_, ns, kk, rfl, rfl, t.sqT, k _ _ _ _ q s1 (.int _) (.refl H)⟩
def mTindex : DRM := fun x ds S R => ∃ ns k, x = .tup (intsD ns) ∧ ds = [.int k] ∧ k ∈ ns ∧ R (.int (ns.idxOf k : Nat)) S
theorem m_tindex : MtR X "tuple.index" (lM X.kk mTindex) := by
  intro pins s σ H x vs v us Q I rx rv ⟨d, ds, S, R, r1, r2, s1, ⟨ns, kk, hd, hds, hk, q⟩, k⟩
  subst hd hds
  cases r1 with
  | tup t qq =>
    obtain ⟨w, rfl, rw'⟩ := r2.inv1
    cases rw'
    cases (RDs.ints_inv qq)
    exact mt_tindex pins s σ H _ _ v us Q I rx rv ⟨_, ns, kk, rfl, rfl, t.sqT, hk, k _ _ _ _ q s1 (.int _) (.refl H)⟩
end
end Sv
namespace Sv
open PySem PySem.Spec PyProof.Rows L2
theorem dv {X : Cx} (i : Nat) {x : Str} {pos : Pos} (hN : X.N[i]? = some x := by rfl) (hv : Vis X.env.scope x := by first | exact Or.inl rfl | exact Or.inr (Or.inl rfl) | exact Or.inr (Or.inr rfl)) (hd : (x == ("__debug__" : Str)) = false := by decide)
    (hcd : (x == ("__classdict__" : Str)) = false := by decide) : DE X (.Name x pos) (dVar i) := de_var hN hv hd hcd
section
variable {X : Cx} {a b c e : Expr} {ta tb tc te : DTE} {pos : Pos}
def rNeg : DR1 := fun d S R => match d with
  | .int i => R (.int (-i)) S
  | _ => False
theorem o_neg : UnR X (unaryOp .USub) (l1 X.kk rNeg) := by
  intro pins s σ H x v Q I rx ⟨d, S, R, r1, s1, h, k⟩
  cases r1 with
  | int i => exact un_neg pins s σ H _ v Q I rx ⟨i, rfl, k _ _ _ _ h s1 (.int _) (.refl H)⟩
  | _ => exact h.elim
end
def dStart (n : Nat) (ds : List D) : Env := ds.map some ++ List.replicate (n - ds.length) none
def dFn (n : Nat) (B : DTS) : DRC := fun ds S R => B { nx := fun _ S' => R .non S', rt := R } (dStart n ds) S
section
variable {P : Program} {w : World} {K : PySem.W.Frag} {mg : Str → Option Value} {base : Heap}
theorem rs_start {K : KK} {H : Hp} {S : Sto} {N : List Str} {ds : List D} {vs : List V} (r : RDs K H ds vs) (s : RelS K S H) : RS K (L2.start N vs) H (dStart N.length ds) S := by
  have hl := r.length
  refine ⟨by unfold dStart L2.start; rw [List.length_append, List.length_append, List.length_map, List.length_map, List.length_replicate, List.length_replicate, hl], fun i d h => ?_, s⟩
  unfold dStart at h
  unfold L2.start
  by_cases hi : i < ds.length
  · rw [List.getElem?_append_left (by simpa using hi), List.getElem?_map] at h
    have hd : ds[i]? = some d := by
      cases e : ds[i]? with
      | none => rw [e] at h; cases h
      | some a => rw [e] at h; cases h; rfl
    obtain ⟨v, hv, rv⟩ := r.at hd
    exact ⟨v, by rw [List.getElem?_append_left (by rw [List.length_map]; omega), List.getElem?_map, hv]; rfl, rv⟩
  · rw [List.getElem?_append_right (by simpa using hi), List.getElem?_replicate] at h
    split at h <;> cases h
theorem fn_d {x : Str} {st : Stmt} {f : Addr} {fd : FuncData} {N ps : List Str} {k n : Nat} {B : DTS} (F : Fun K x x st f fd) (Sc : FnScope N ps (defScope st)) (hn : ps.length = n)
    (hbody : ∀ (cdv : Value) (A : Around) (outer : List PySem.Env) (s : Shared) (H : Hp) (E : XK), A.guards = some [] → Room k (A.deeper (envOfC x (defScope st) s.heap.objs.size f cdv)) →
      DSs (cxOf CX0 P w K mg base N x (defScope st) f cdv A outer s H E).nox (defBody st) B) : FnG P w K mg base (k + 1) f fd ps (lP ⟨P, w, K⟩ n (dFn N.length B)) := by
  refine okG F Sc (fun vs H Q E h => by rw [hn]; exact h.1) fun cdv A outer s H vs Q E hg hr h => ⟨_, (hbody cdv A outer s H E hg hr).run, ?_⟩
  obtain ⟨_, ds, S, R, r, s1, q, k⟩ := h
  exact ⟨_, S, _, rs_start r s1, q, fun env' S' σ' H' q' r' e' => k _ _ _ _ q' r'.sto .non e', fun d S' v H' q' s' r' e' => k _ _ _ _ q' s' r' e', fun _ _ _ _ q' => q'.elim, fun _ _ _ _ q' => q'.elim⟩
theorem DFn.mk' {k n : Nat} {x : Str} {r : DRC} {f : Addr} {fd : FuncData} {ps : List Str} (F : FnG P w K mg base k f fd ps (lP ⟨P, w, K⟩ n r)) (hm : mg x = some (.ref f)) (hk : PySem.W.keepIn K (.ref f) = true) (hb : Binds K fd ps []) : DFn P w K mg base k x n r :=
  ⟨f, fd, ps, F, hm, hk, hb⟩
theorem lP_law {K : KK} {H : Hp} {a : Addr} {ns : List Int} {r : DRC} (hO : Only H) (h : SqL K.k H a (ns.map V.int)) (q : r [.rol (intsD ns)] (fun _ => none) (fun d _ => d = .bl true)) : lP K 1 r [.ref a] H (fun v _ => v = .bl true) (fun _ _ _ => False) := by
  refine ⟨rfl, [.rol (intsD ns)], fun _ => none, _, .cons (.rol ?_ (.ints ns)) .nil, fun a o e => (nomatch e), q, fun z S' v H' e _ rz _ => ?_⟩
  · rcases h with h | h
    · rcases h with h | ⟨o, h⟩
      · rcases hO a with z | ⟨o, u, z⟩
        · rw [h] at z; cases z
        · rw [h] at z; cases z
      · exact .inl ⟨o, h⟩
    · exact .inr h
  · subst e
    cases rz
    rfl
end
end Sv
namespace Sv
open PySem PySem.Spec PyProof.Rows L2
section
variable {X : Cx} {pos : Pos}
theorem RDs.inv3 {K : KK} {H : Hp} {d e f : D} {vs : List V} (h : RDs K H [d, e, f] vs) : ∃ v u w, vs = [v, u, w] ∧ RD K H d v ∧ RD K H e u ∧ RD K H f w := by
  cases h with
  | cons r t =>
    obtain ⟨u, w, rfl, q, s⟩ := t.inv2
    exact ⟨_, _, _, rfl, r, q, s⟩
theorem ds_par3 {i j l : Nat} {x y z : Str} {a b c : Expr} {ta : DTA} {px py pz pt : Pos} {kt k2 pt2} (hc : X.calm = true) (hN : X.N.Nodup) (hi : X.N[i]? = some x) (hj : X.N[j]? = some y) (hl : X.N[l]? = some z) (hij : i ≠ j) (hil : i ≠ l) (hjl : j ≠ l)
    (hx : X.env.scope.names.lookup x = some .local) (hy : X.env.scope.names.lookup y = some .local) (hz : X.env.scope.names.lookup z = some .local) (ha : DA X [a, b, c] ta)
    (hw : swappedStores [.Tuple [.Name x px, .Name y py, .Name z pz] kt pt] (.Tuple [a, b, c] k2 pt2) X.env = pure (some [x, y, z]))
    (hs : swapsWithSole [.Tuple [.Name x px, .Name y py, .Name z pz] kt pt] (.Tuple [a, b, c] k2 pt2) pos.line X.env = pure false := by rfl) :
    DS X (.Assign [.Tuple [.Name x px, .Name y py, .Name z pz] kt pt] (.Tuple [a, b, c] k2 pt2) pos) (dAsg (dTup ta) (dUnp 3 (dgCons (dgName i) (dgCons (dgName j) (dgCons (dgName l) dgNil))))) := by
  refine ⟨(ps_par3 hc hN hi hj hl hij hil hjl hx hy hz ha.run hw hs).of fun σ H B ⟨env, S, C, rs, h, k, _⟩ => ⟨env, S, _, rs, h, fun ds S1 vs H1 ⟨_, ds', hl, hd, q⟩ s1 r1 e1 => ?_⟩⟩
  have hdd : ds = ds' := by
    rcases hd with (z | z) | ⟨a, z, _⟩
    · cases z; rfl
    · cases z
    · cases z
  subst hdd
  obtain ⟨d1, r', rfl, d2, r'', rfl, d3, r3, rfl, rfl, q⟩ := q
  obtain ⟨v, u, w, rfl, rv, ru, rw'⟩ := r1.inv3
  exact ⟨v, u, w, rfl, k _ _ _ _ q ((((rs.ext e1 s1).set i rv).set j ru).set l rw') e1⟩
def rI2 (f : Int → Int → Int) : DR2 := fun x y S R => match x, y with
  | .int i, .int j => R (.int (f i j)) S
  | _, _ => False
theorem o_ip {op : Operator} {f : Int → Int → Int} (ho : PIp X op (ipI f)) : PIp X op (l2 X.kk (rI2 f)) := by
  intro pins s σ H x y v u Q I rx ry ⟨d, e, S, R, r1, r2, s1, h, k⟩
  cases r1 with
  | int i =>
    cases r2 with
    | int j => exact ho pins s σ H _ _ v u Q I rx ry ⟨i, j, rfl, rfl, k _ _ _ _ h s1 (.int _) (.refl H)⟩
    | _ => exact h.elim
  | _ => exact h.elim
theorem o_iadd : PIp X .Add (l2 X.kk (rI2 fun i j => i + j)) := o_ip ip_add
/-- tuple * int, known to bear no dict -/
def rRepF (K : PySem.W.Frag) : R2 := fun x y H Q => ∃ l k xs, x = .ref l ∧ y = .int k ∧ SqT K H l xs ∧ xs ≠ [] ∧ 2 ≤ k ∧ k ≤ 1000 ∧ xs.length ≤ 1000 ∧ ∀ (p : Addr) (o : Obj), H p = none → o.dict = none → Q (.ref p) (upd H p (.frz o (.tup (List.replicate k.toNat xs).flatten)))
theorem op_repF : OpR X (binaryOp .Mult) (rRepF X.K) := by
  intro pins s σ H x y v u Q I rx ry h
  obtain ⟨l, k, xs, rfl, rfl, hT, hne, h1, h2, hz, q⟩ := h
  cases rx
  obtain ⟨t, rfl⟩ := ry
  obtain ⟨its, r, ⟨⟨cls, dd, data, sl⟩, ho, hc, n, hd⟩, hs⟩ := I.tuple hT
  simp only at hc hd
  subst hc hd
  have e1 : its.length = xs.length := r.length.symm
  have ne : its.toArray.isEmpty = false := by
    cases its with
    | nil => exact absurd (List.eq_nil_of_length_eq_zero e1.symm) hne
    | cons a b => rfl
  have e2 : its.toArray.size = xs.length := by rw [List.size_toArray, e1]
  have a1 : k.toNat * xs.length ≤ 1000 * 1000 := Nat.mul_le_mul (by omega) hz
  have a2 : ((xs.length : Nat) : Int) * k ≤ 1000000 := by
    have b1 : ((xs.length : Nat) : Int) * k ≤ 1000 * k := Int.mul_le_mul_of_nonneg_right (by omega) (by omega)
    omega
  have fl : (List.replicate k.toNat its).flatten.length ≤ sizeLine := by
    rw [PyProof.Rows.lm_len_rep_flat, e1, sizeLine_eq]
    omega
  have c4 : Builtin.Tuple.tupleTooMany (((its.toArray.size : Nat) : Int) * k) = false := by
    unfold Builtin.Tuple.tupleTooMany
    rw [sizeLine_eq, e2]
    exact decide_eq_false (by omega)
  refine wpAny_binaryOp_repeat_ref (T := "tuple") (U := "int") (by decide) ⟨_, ho, rfl⟩ (fun s' => typeIs_int s' k t) noFill_tuple_mul F.fills_int_mul F.slot_int_rmul repeat_tuple F.slot_int_index.lookup
    (call_meets F.slot_int_rmul (typeIs_int s k t) F.entry_int_rmul (F.args_int_rmul_2 _ _) (int_rmul_tuple k t l its.toArray n dd sl)
      ⟨ho, rfl, ⟨_, ho, rfl⟩, call_meets F.slot_tuple_mul ⟨_, ho, rfl⟩ F.entry_tuple_mul (F.args_tuple_mul_2 _ _)
        (tuple_mulW l its.toArray n dd sl k t (by rw [decide_eq_false (by omega), decide_eq_false (by omega)] <;> rfl) (by rw [ne, Bool.false_or]; exact beq_eq_false_iff_ne.mpr (by omega)) (by rw [ne, Bool.or_false]; exact decide_eq_false (by omega)) (by rw [e2]; omega) c4 (by rw [size_rep, List.size_toArray]; exact fl)) ⟨ho, ?_⟩⟩)
  rw [size_rep]
  have hg := Heap.get?_push_size s.heap (o := { cls := .type "tuple", data := .seq (List.replicate k.toNat its).flatten.toArray }) rfl
  refine ⟨.ref s.heap.objs.size, _, I.laid (t' := s.toks) (o := .frz { cls := .type "tuple", data := .seq (List.replicate k.toNat its).flatten.toArray } (.tup (List.replicate k.toNat xs).flatten)) (fun b ob q => Heap.get?_push_of_some _ q) (Nat.le_refl _) ?_, rfl, q _ _ (I.hok.fresh (Nat.le_refl _)) rfl⟩
  exact ⟨hg, by rw [PyProof.Rows.lm_len_rep_flat, sizeLine_eq]; omega, _, r.rep k.toNat, ⟨_, hg, rfl, _, rfl⟩⟩
theorem RDs.rep {K : KK} {H : Hp} {ds : List D} {vs : List V} (r : RDs K H ds vs) : ∀ n : Nat, RDs K H (List.replicate n ds).flatten (List.replicate n vs).flatten
  | 0 => .nil
  | n + 1 => by
    rw [List.replicate_succ, List.replicate_succ, List.flatten_cons, List.flatten_cons]
    exact r.append (RDs.rep r n)
theorem rep_one {α : Type} (xs : List α) : (List.replicate (1 : Int).toNat xs).flatten = xs := by
  show (List.replicate 1 xs).flatten = xs
  simp
theorem o_mul : OpR X (binaryOp .Mult) (l2 X.kk rMul) := by
  intro pins s σ H x y v u Q I rx ry ⟨d, e, S, R, r1, r2, s1, h, k⟩
  cases r1 with
  | int i =>
    cases r2 with
    | int j => exact op_mul pins s σ H _ _ v u Q I rx ry ⟨i, j, rfl, rfl, h.1, k _ _ _ _ h.2 s1 (.int _) (.refl H)⟩
    | _ => exact h.elim
  | tup t q =>
    cases r2 with
    | int j =>
      obtain ⟨hne, h1, h2, hz, qq⟩ := h
      by_cases hj : j = 1
      · subst hj
        rw [rep_one] at qq
        exact op_rep1 pins s σ H _ _ v u Q I rx ry ⟨_, _, rfl, rfl, t.sqT, k _ _ _ _ qq s1 (.tup t q) (.refl H)⟩
      · have hl := q.length
        refine op_repF pins s σ H _ _ v u Q I rx ry ⟨_, j, _, rfl, rfl, t.sqT, fun z => hne (List.eq_nil_of_length_eq_zero (by rw [hl, z]; rfl)), by omega, h2, hl ▸ hz, fun p o np ho => k _ _ _ _ qq (s1.new np) (.tup (.new ho) ((q.rep _).ext (.new np))) (.new np)⟩
    | _ => exact h.elim
  | ref a =>
    cases r2 with
    | int j =>
      obtain ⟨xs, h1, h0, hk, hz, qq⟩ := h
      obtain ⟨vs, e, q⟩ := s1.lst h1
      refine op_rep pins s σ H _ _ v u Q I rx ry ⟨a, j, vs, rfl, rfl, e, by omega, by omega, ?_, fun p np => k _ _ _ _ (qq p (s1.fresh np)) (s1.lay np ⟨_, upd_same, (q.rep _).ext (.new np)⟩) (.ref p) (.new np)⟩
      rw [← q.length]
      have : xs.length * j.toNat ≤ 1000 * 1000 := Nat.mul_le_mul hz (by omega)
      exact Nat.le_trans this (by decide)
    | _ => exact h.elim
  | _ => exact h.elim
end
end Sv
namespace Sv
open PySem PySem.Spec PyProof.Rows L2
section
variable {P : Program} {w : World} {K : PySem.W.Frag} {mg : Str → Option Value} {base : Heap}
theorem fn_o {x : Str} {st : Stmt} {f : Addr} {fd : FuncData} {N ps : List Str} {k n : Nat} {B : DTS} (F : Fun K x x st f fd) (Sc : FnScope N ps (defScope st)) (hn : ps.length = n)
    (hbody : ∀ (cdv : Value) (A : Around) (outer : List PySem.Env) (s : Shared) (H : Hp) (E : XK), Room k (A.deeper (envOfC x (defScope st) s.heap.objs.size f cdv)) →
      DSs (cxOf CX0 P w K mg base N x (defScope st) f cdv A outer s H E).nox (defBody st) B) : FnOk P w K mg base CX0 (k + 1) f fd ps (lP ⟨P, w, K⟩ n (dFn N.length B)) := by
  refine F.ok Sc (fun vs H Q E h => by rw [hn]; exact h.1) fun cdv A outer s H vs Q E hr h => ⟨_, (hbody cdv A outer s H E hr).run, ?_⟩
  obtain ⟨_, ds, S, R, r, s1, q, k⟩ := h
  exact ⟨_, S, _, rs_start r s1, q, fun env' S' σ' H' q' r' e' => k _ _ _ _ q' r'.sto .non e', fun d S' v H' q' s' r' e' => k _ _ _ _ q' s' r' e', fun _ _ _ _ q' => q'.elim, fun _ _ _ _ q' => q'.elim⟩
theorem DFo.mk' {k n : Nat} {x : Str} {r : DRC} {f : Addr} {fd : FuncData} {ps : List Str} (F : FnOk P w K mg base CX0 k f fd ps (lP ⟨P, w, K⟩ n r)) (hm : mg x = some (.ref f)) (hk : PySem.W.keepIn K (.ref f) = true) (hb : Binds K fd ps []) : DFo P w K mg base k x n r :=
  ⟨f, fd, ps, F, hm, hk, hb⟩
theorem DFs.mk' {k : Nat} {x : Str} {r : DRC} {f : Addr} (F : FnR P w K mg base CX0 k f (fun vs H Q _ => lC ⟨P, w, K⟩ r vs H Q)) (hm : mg x = some (.ref f)) (hk : PySem.W.keepIn K (.ref f) = true) : DFs P w K mg base k x r := ⟨f, F, hm, hk⟩
end
section
variable {X : Cx} {a b e : Expr} {es : List Expr} {ta tb te : DTE} {tl : DTA} {pos p : Pos}
def Sto.rem (S : Sto) (a : Addr) : Sto := fun b => if b = a then none else S b
theorem RelS.rem {K : KK} {S : Sto} {H : Hp} {p : Addr} {u w : HO} (h : RelS K S H) (n : H p = some w) (m : Mut (some w)) : RelS K (S.rem p) (upd H p u) := fun a o e => by
  unfold Sto.rem at e
  by_cases z : a = p
  · rw [if_pos z] at e; cases e
  · rw [if_neg z] at e
    exact (h a o e).ext (.put n m) (upd_ne z)
def kD : Key → D
  | .inl i => .int i
  | .inr x => .str x
theorem kD_inv {K : KK} {H : Hp} {k : Key} {v : V} (r : RD K H (kD k) v) : v = kV k := by
  cases k with
  | inl i => cases r; rfl
  | inr x => cases r; rfl
def putD (kvs : List (Key × D)) (k : Key) (v : D) : List (Key × D) :=
  if (kvs.any fun kv => decide (kv.1 = k)) = true then kvs.map (fun kv => if kv.1 = k then (kv.1, v) else kv) else kvs ++ [(k, v)]
def getD' (kvs : List (Key × D)) (k : Key) : Option D := (kvs.find? fun kv => decide (kv.1 = k)).map (·.2)
theorem RDk.any {K : KK} {H : Hp} {k : Key} : ∀ {ds : List (Key × D)} {vs : List (Key × V)}, RDk K H ds vs → (ds.any fun kv => decide (kv.1 = k)) = (vs.any fun kv => decide (kv.1 = k))
  | _, _, .nil => rfl
  | _, _, .cons r t => by rw [List.any_cons, List.any_cons, RDk.any t]
theorem RDk.app {K : KK} {H : Hp} : ∀ {ds es : List (Key × D)} {vs ws : List (Key × V)}, RDk K H ds vs → RDk K H es ws → RDk K H (ds ++ es) (vs ++ ws)
  | _, _, _, _, .nil, s => s
  | _, _, _, _, .cons r t, s => .cons r (RDk.app t s)
theorem RDk.mapK {K : KK} {H : Hp} {k : Key} {d : D} {v : V} (h : RD K H d v) : ∀ {ds : List (Key × D)} {vs : List (Key × V)}, RDk K H ds vs → RDk K H (ds.map fun kv => if kv.1 = k then (kv.1, d) else kv) (vs.map fun kv => if kv.1 = k then (kv.1, v) else kv)
  | _, _, .nil => .nil
  | _, _, @RDk.cons _ _ k' d' ds v' vs r t => by
    rw [List.map_cons, List.map_cons]
    by_cases z : k' = k
    · subst z
      simp only [if_true]
      exact .cons h (RDk.mapK h t)
    · simp only [z, if_false]
      exact .cons r (RDk.mapK h t)
theorem RDk.put {K : KK} {H : Hp} {k : Key} {d : D} {v : V} (h : RD K H d v) {ds : List (Key × D)} {vs : List (Key × V)} (r : RDk K H ds vs) : RDk K H (putD ds k d) (putK vs k v) := by
  unfold putD putK
  rw [r.any]
  by_cases z : (vs.any fun kv => decide (kv.1 = k)) = true
  · rw [if_pos z, if_pos z]
    exact r.mapK h
  · rw [if_neg z, if_neg z]
    exact r.app (.cons h .nil)
theorem RDk.get {K : KK} {H : Hp} {k : Key} : ∀ {ds : List (Key × D)} {vs : List (Key × V)}, RDk K H ds vs → (∀ d, getD' ds k = some d → ∃ v, valV vs k = some v ∧ RD K H d v) ∧ (getD' ds k = none → valV vs k = none)
  | _, _, .nil => ⟨fun d h => (nomatch h), fun _ => rfl⟩
  | _, _, @RDk.cons _ _ k' d' ds v' vs r t => by
    have ih := RDk.get (k := k) t
    unfold getD' valV at ih ⊢
    rw [List.find?_cons, List.find?_cons]
    by_cases z : k' = k
    · subst z
      simp only [decide_true]
      exact ⟨fun d h => ⟨v', rfl, by cases h; exact r⟩, fun h => (nomatch h)⟩
    · simp only [z, decide_false]
      exact ih
/-- {key: value for target in iter if ..}, read from then on -/
def dDc (ti : DTI) (g : DTG) (tt : DTT) (tk tv : DTE) (us : List Nat) : DTE := fun env S R => ti env S fun w S1 => ∀ p, S1 p = none → ∃ Pv : Nat → Sto → Prop, Pv 0 (S1.put p (.dK [])) ∧ (∀ i S, i ≤ w.items.length → Pv i S → w.live S) ∧
  (∀ i d S, w.items[i]? = some d → Pv i S → g d (dwipe env us) S fun env' S' => tt env' S' fun b S2 => if b = true then tk env' S2 fun y S3 => tv env' S3 fun z S4 => ∃ kvs k, y = kD k ∧ S4 p = some (.dK kvs) ∧ kvs.length < 1000000 ∧ Pv (i + 1) (S4.put p (.dK (putD kvs k z))) else Pv (i + 1) S2) ∧
  ∀ S, Pv w.items.length S → ∃ kvs, S p = some (.dK kvs) ∧ R (.dct kvs) (S.rem p)
theorem lE_dc {K : KK} {b : Bool} {ti : DTI} {g : DTG} {tt : DTT} {tk tv : DTE} {us vs : List Nat} {σ : L2.St} {H : Hp} {Q : VK} (hv : ∀ i ∈ vs, i ∈ us) (h : lE K (dDc ti g tt tk tv us) σ H Q) : tFrz (tDc (lI K b ti) (lG K b vs g) (lT K tt) (lE K tk) (lE K tv) us) σ H Q := by
  obtain ⟨env, S, R, rs, h, k⟩ := h
  refine ⟨env, S, _, rs, h, fun w S1 J H1 q s1 e1 st p np => ?_⟩
  obtain ⟨Pv, p0, lv, step, done⟩ := q p (s1.fresh np)
  obtain ⟨G, Y, wk, hG, hY⟩ := st.ex
  have s1' : RelS K (S1.put p (.dK [])) (upd H1 p (.dK [])) := s1.lay np ⟨_, upd_same, .nil⟩
  have e1' : Ext H1 (upd H1 p (.dK [])) := .new np
  refine dc_it wk (fun i H' => ∃ S', RelS K S' H' ∧ Ext H1 H' ∧ Pv i S') ⟨_, s1', e1', p0⟩ (fun i H' hi ⟨S', s', e', p'⟩ => hG H' S' e' s' (lv i S' hi p')) ?_ ?_
  · rintro i x H2 H3 hi ⟨S2, s2, e2, p2⟩ y
    obtain ⟨e3, hS, d, hd, rd⟩ := hY i H2 x H3 e2 y
    have e13 := e1.trans (e2.trans e3)
    refine ⟨d, dwipe env us, S2, _, rd, (rs.ext e13 (hS S2 s2)).wipe us, step i d S2 hd p2, fun env4 S4 σ4 H4 q4 rs4 e4 o4 => ⟨wipe_off o4 hv, env4, S4, _, rs4, q4, fun c S5 H5 q5 s5 e5 => ?_⟩⟩
    cases c with
    | false => exact ⟨S5, s5, e2.trans (e3.trans (e4.trans e5)), q5⟩
    | true =>
      refine ⟨env4, S5, _, rs4.ext e5 s5, q5, fun y S6 v H6 q6 s6 r6 e6 => ⟨env4, S6, _, rs4.ext (e5.trans e6) s6, q6, fun z S7 u H7 ⟨kvs, kk, hy, h1, h2, q7⟩ s7 r7 e7 => ?_⟩⟩
      subst hy
      obtain ⟨ws, h3, h4⟩ := s7 p _ h1
      have e8 : Ext H7 (upd H7 p (.dK (putK ws kk u))) := .put h3 trivial
      exact ⟨ws, kk, kD_inv r6, h3, Nat.lt_of_lt_of_le (h4.length ▸ h2) (by decide), _, s7.put (o := .dK (putD kvs kk z)) h3 trivial ⟨_, upd_same, (h4.put r7).ext e8⟩, e2.trans (e3.trans (e4.trans (e5.trans (e6.trans (e7.trans e8))))), q7⟩
  · rintro H2 ⟨S2, s2, e2, p2⟩
    obtain ⟨kvs, h1, q⟩ := done S2 p2
    obtain ⟨ws, h3, h4⟩ := s2 p _ h1
    refine ⟨p, _, rfl, h3, trivial, fun od => ?_⟩
    have e3 : Ext H2 (upd H2 p (.frz od (.dK ws))) := .put h3 trivial
    exact k _ _ _ _ q (s2.rem h3 trivial) (.dct upd_same (h4.ext e3)) (e1.trans (e2.trans e3))
theorem de_dc {kx vx tg iter : Expr} {ifs : List Expr} {scope : Scope} {own : List (Str × Nat)} {vs : List Nat} {bb : Bool} {ti : DTI} {g : DTG} {tt : DTT} {tk tv : DTE} (hc : X.calm = true) (hN : X.N.Nodup) (hi : DI X bb tg iter ti) (ok : BlkOk X.N X.env.scope scope own) (hv : ∀ i ∈ vs, i ∈ own.map (·.2))
    (hg : ∀ (s : Shared) (H : Hp) (C : Addr) (cl : List (Str × Addr)) (fp : List Addr), DG (X.blk s H scope (compEnvC scope cl C X.env) fp) bb vs tg g) (ht : ∀ (s : Shared) (H : Hp) (C : Addr) (cl : List (Str × Addr)) (fp : List Addr), DTs (X.blk s H scope (compEnvC scope cl C X.env) fp) ifs tt)
    (hk : ∀ (s : Shared) (H : Hp) (C : Addr) (cl : List (Str × Addr)) (fp : List Addr), DE (X.blk s H scope (compEnvC scope cl C X.env) fp) kx tk)
    (he : ∀ (s : Shared) (H : Hp) (C : Addr) (cl : List (Str × Addr)) (fp : List Addr), DE (X.blk s H scope (compEnvC scope cl C X.env) fp) vx tv) (hs : ∀ x, foldedSetIterable iter X.env x = pure x := by intro _; rfl) :
    DE X (.DictComp kx vx [⟨tg, iter, ifs, 0⟩] scope pos) (dDc ti g tt tk tv (own.map (·.2))) :=
  ⟨(pe_frz (pe_dc (g := lG X.kk bb vs g) (tt := lT X.kk tt) (tk := lE X.kk tk) (tv := lE X.kk tv) hc hN hi.run ok (fun s H C cl fp => (hg s H C cl fp).run) (fun s H C cl fp => (ht s H C cl fp).run) (fun s H C cl fp => (hk s H C cl fp).run) (fun s H C cl fp => (he s H C cl fp).run) hs)).of fun _ _ _ => lE_dc hv⟩
def diKeys (te : DTE) : DTI := fun env S R => te env S fun d S1 => ∃ kvs, d = .dct kvs ∧ R ⟨kvs.map fun kv => kD kv.1, fun _ => True⟩ S1
theorem rd_kD {K : KK} {H : Hp} (k : Key) : RD K H (kD k) (kV k) := by
  cases k with
  | inl i => exact .int i
  | inr x => exact .str x
theorem di_keys {tg : Expr} (he : DE X e te) : DI X true tg e (diKeys te) := by
  refine ⟨(pi_keys he.run).of fun σ H R ⟨env, S, R0, rs, h, k⟩ => ⟨env, S, _, rs, h, fun d S1 v H1 ⟨kvs, hd, q⟩ s1 r1 e1 => ?_⟩⟩
  subst hd
  cases r1 with
  | @dct a o _ vs ht r =>
    refine ⟨a, o, rfl, .inl ⟨vs, ht, k _ _ _ _ q s1 e1 ⟨fun H => H a = some (.frz o (.dK vs)), fun i H x H' => H' = H ∧ ∃ k v, vs[i]? = some (k, v) ∧ x = kV k, ?_, fun H S e _ _ => e.1 _ _ _ ht, ?_⟩⟩⟩
    · have w := walk_keys (d := a) (o := o) (kvs := vs)
      have : (kvs.map fun kv => kD kv.1).length = vs.length := by rw [List.length_map, r.length]
      rw [this]
      exact w
    · rintro i H x H' e ⟨rfl, kk, z, hx, rfl⟩
      obtain ⟨d, h1, h2⟩ := (r.ext e).atv hx
      exact ⟨.refl _, fun S s => s, kD kk, by show (kvs.map fun kv => kD kv.1)[i]? = _; rw [List.getElem?_map, h1]; rfl, .inl (rd_kD kk)⟩
/-- what a dict holds -/
def dictOf (S : Sto) : D → Option (List (Key × D))
  | .dct kvs => some kvs
  | .ref a => match S a with
    | some (.dK kvs) => some kvs
    | _ => none
  | _ => none
theorem dict_rel {K : KK} {S : Sto} {H : Hp} {d : D} {v : V} {kvs : List (Key × D)} (s : RelS K S H) (r : RD K H d v) (h : dictOf S d = some kvs) : ∃ a vs, v = .ref a ∧ Rd H a (.dK vs) ∧ RDk K H kvs vs := by
  cases r with
  | dct t q => cases h; exact ⟨_, _, rfl, .inr ⟨_, t⟩, q⟩
  | ref a =>
    have h : (match S a with
      | some (.dK kvs) => some kvs
      | _ => none) = some kvs := h
    split at h
    · rename_i e
      cases h
      obtain ⟨vs, h1, h2⟩ := s a _ e
      exact ⟨a, vs, rfl, .inl h1, h2⟩
    · cases h
  | _ => cases h
/-- d[k] -/
def dDix (ta tb : DTE) : DTE := fun env S R => ta env S fun x S1 => tb env S1 fun y S2 => ∃ kvs k d, dictOf S2 x = some kvs ∧ y = kD k ∧ getD' kvs k = some d ∧ R d S2
theorem de_dix (hu : X.A.units + 1 < cLine) (ha : DE X a ta) (hb : DE X b tb) (hs : NoSl b := by intro _ _; rfl) : DE X (.Subscript a b pos) (dDix ta tb) := by
  refine ⟨(pe_dget hu ha.run hb.run hs).of fun σ H Q ⟨env, S, R, rs, h, k⟩ => ⟨env, S, _, rs, h, fun x S1 v H1 q1 s1 r1 e1 => ⟨env, S1, _, rs.ext e1 s1, q1, fun y S2 u H2 ⟨kvs, kk, d, hx, hy, hd, q⟩ s2 r2 e2 => ?_⟩⟩⟩
  subst hy
  obtain ⟨aa, vs, rfl, h1, h2⟩ := dict_rel s2 (r1.ext e2) hx
  obtain ⟨w, h3, h4⟩ := h2.get.1 d hd
  cases kD_inv r2
  exact ⟨aa, w, rfl, .inl ⟨vs, kk, h1, rfl, h3.symm⟩, k _ _ _ _ q s2 h4 (e1.trans e2)⟩
/-- k in d -/
def dDin (n : Bool) (ta tb : DTE) : DTE := fun env S R => ta env S fun y S1 => tb env S1 fun x S2 => ∃ kvs k, dictOf S2 x = some kvs ∧ y = kD k ∧ R (.bl ((getD' kvs k).isSome ^^ n)) S2
theorem getD_some {K : KK} {H : Hp} {kvs : List (Key × D)} {vs : List (Key × V)} {k : Key} (r : RDk K H kvs vs) : (getD' kvs k).isSome = (valV vs k).isSome := by
  cases h : getD' kvs k with
  | none => rw [r.get.2 h]; rfl
  | some d => obtain ⟨v, h1, _⟩ := r.get.1 d h; rw [h1]; rfl
theorem lE_din {K : KK} {σ : L2.St} {H : Hp} {Q : VK} (h : lE K (dDin false ta tb) σ H Q) : tDIn (lE K ta) (lE K tb) σ H Q := by
  obtain ⟨env, S, R, rs, h, k⟩ := h
  refine ⟨env, S, _, rs, h, fun y S1 v H1 q1 s1 r1 e1 => ⟨env, S1, _, rs.ext e1 s1, q1, fun x S2 u H2 ⟨kvs, kk, hx, hy, q⟩ s2 r2 e2 => ?_⟩⟩
  subst hy
  obtain ⟨aa, vs, rfl, h1, h2⟩ := dict_rel s2 r2 hx
  cases kD_inv r1
  rw [xor_ff, getD_some h2] at q
  exact ⟨aa, _, rfl, .inl ⟨vs, kk, h1, rfl, rfl⟩, k _ _ _ _ q s2 (.bl _) (e1.trans e2)⟩
theorem de_din (hu : X.A.units + 1 < cLine) (ha : DE X a ta) (hb : DE X b tb) (hm : behindInMarks .In b = false := by rfl) : DE X (.Compare a [.In] [b] pos) (dDin false ta tb) := ⟨(pe_cmp (pc_din hu ha.run hb.run) hm).of fun _ _ _ => lE_din⟩
end
end Sv
namespace Sv
open PySem PySem.Spec PyProof.Rows L2
def spLawD (K : PySem.W.Frag) : Sp := fun vs H Q _ => ∃ (a : Addr) (ns : List Int), vs = [.ref a] ∧ Only H ∧ SqL K H a (ns.map V.int) ∧ ns.length ≤ 63 ∧ ∀ H', Q (.bl true) H'
theorem FnG.lawD {P : Program} {w : World} {K : PySem.W.Frag} {mg : Str → Option Value} {base : Heap} {k : Nat} {f : Addr} {fd : FuncData} {ps : List Str} {r : DRC} (F : FnG P w K mg base k f fd ps (lP ⟨P, w, K⟩ 1 r)) (hp : ps.length = 1)
    (h : ∀ ns : List Int, ns.length ≤ 63 → r [.rol (intsD ns)] (fun _ => none) (fun d _ => d = .bl true)) : FnG P w K mg base k f fd ps (spLawD K) := by
  have go : ∀ vs H Q E, spLawD K vs H Q E → lP ⟨P, w, K⟩ 1 r vs H Q E := by
    rintro vs H Q E ⟨a, ns, rfl, hO, hS, hl, q⟩
    obtain ⟨h1, ds, S, R, h2, h3, h4, h5⟩ := lP_law (K := ⟨P, w, K⟩) hO hS (h ns hl)
    exact ⟨h1, ds, S, R, h2, h3, h4, fun z S' v H' a1 a2 a3 a4 => by
      obtain rfl := h5 z S' v H' a1 a2 a3 a4
      exact q H'⟩
  refine ⟨fun vs H Q E h => ?_, fun A hg outer s H args us vs Q E hr e0 hb rv hsp => F.run A hg outer s H args us vs Q E hr e0 hb rv (go _ _ _ _ hsp)⟩
  obtain ⟨a, ns, rfl, _⟩ := h
  rw [hp]
  rfl
end Sv
namespace Sv
open PySem PySem.Spec PyProof.Rows L2
section
variable {X : Cx}
def prD (p : Int × Int) : D := .tup [.int p.1, .int p.2]
end
end Sv
namespace Sv
open PySem L2
/-- happened_at: 0 history 1 event 2 process 3 row 4 interval 5 other -/
def B_happened_at_e85f : DTS := dSeq (dFor (diEnum (dCons (dVar 0) (dNil))) (dUnp 2 (dgCons (dgName 2) (dgCons (dgName 3) (dgNil)))) (dSeq (dAsg (dC (.int 0)) (dgName 4))
  (dFor (diVal (dVar 3)) (dgName 5) (dSeq (dIfS (dB (dBin (rEqq false) (dVar 5) (dVar 1))) (dRet (dTup (dCons (dVar 2) (dCons (dVar 4) (dNil))))) (dNext))
  (dIfS (dB (dBin (rEqq false) (dVar 5) (dC (.int 0)))) (dAug 4 (dC (.int 1)) (rI2 fun i j => i + j)) (dNext))))))
  (dRet (dC .non))
/-- trips_of: 0 history 1 messages 2 message 3 row 4 event -/
def B_trips_of_ea9a : DTS := dSeq (dAsg (dCB (rSorted1) (dCons (dLc2 (diVal (dVar 0)) (dgName 3) (dYes) (diVal (dVar 3)) (dgName 4) (dB (dBin (rCmp fun i j => decide (i < j)) (dVar 4) (dC (.int 0)))) (dUn rNeg (dVar 4)) [3, 4] [4]) (dNil))) (dgName 1))
  (dRet (dDc (diVal (dVar 1)) (dgName 2) (dYes) (dVar 2) (dTup (dCons (dCall 2 (dFn 6 B_happened_at_e85f) (dCons (dVar 0) (dCons (dVar 2) (dNil)))) (dCons (dCall 2 (dFn 6 B_happened_at_e85f) (dCons (dVar 0) (dCons (dUn rNeg (dVar 2)) (dNil)))) (dNil)))) [2]))
/-- state_numbers: 0 history 1 row -/
def B_state_numbers_78d0 : DTS := dRet (dCB (rTupq) (dCons (dLc (diVal (dVar 0)) (dgName 1) (dYes) (dBin rAdd (dMtT mTcount (dVar 1) (dCons (dC (.int 0)) (dNil))) (dC (.int 1))) [1]) (dNil)))
/-- all_states: 0 history 1 process 2 present 3 number -/
def B_all_states_326e : DTS := dRet (dLc2 (diEnum (dCons (dCall 1 (dFn 2 B_state_numbers_78d0) (dCons (dVar 0) (dNil))) (dNil))) (dUnp 2 (dgCons (dgName 1) (dgCons (dgName 2) (dgNil)))) (dYes) (diRg1 (dCons (dBin rAdd (dVar 2) (dC (.int 1))) (dNil))) (dgName 3) (dYes) (dTup (dCons (dVar 1) (dCons (dVar 3) (dNil)))) [1, 2, 3] [3])
end Sv
namespace Sv
open PySem PySem.Spec PyProof.Rows L2
section
variable {X : Cx} {a b c e o : Expr} {es : List Expr} {ta tb tc te : DTE} {tl : DTA} {pos p : Pos}
theorem RDs.dropLast {K : KK} {H : Hp} {ds : List D} {vs : List V} (r : RDs K H ds vs) : RDs K H ds.dropLast vs.dropLast := by
  rw [List.dropLast_eq_take, List.dropLast_eq_take, r.length]
  exact r.take _
def mRemove : DRM := fun x ds S R => ∃ l xs y ps p j, x = .ref l ∧ ds = [y] ∧ S l = some (.lst xs) ∧ Pys S xs ps ∧ Py S y p ∧ PyData.plainAll ps = true ∧ p.plain = true ∧ p.depth ≤ 60 ∧ SeqAt.dataPlace ps p = some j ∧ R .non (S.put l (.lst (xs.eraseIdx j)))
theorem m_remove (hu : X.A.units + 64 < cLine) : MtR X "list.remove" (lM X.kk mRemove) := by
  intro pins s σ H x vs v us Q I rx rv ⟨d, ds, S, R, r1, r2, s1, ⟨l, xs, y, ps, p, j, hd, hds, hx, h1, h2, h3, h4, h5, h6, q⟩, k⟩
  subst hd hds
  cases r1
  obtain ⟨w, rfl, rw'⟩ := r2.inv1
  obtain ⟨ws, g3, q3⟩ := s1.lst hx
  have e : Ext H (upd H l (.lst (ws.eraseIdx j))) := .put g3 trivial
  exact mt_removeD hu pins s σ H _ _ v us Q I rx rv ⟨l, w, p, ws, ps, j, rfl, rfl, g3, Pys.dp s1 h1 q3, Py.dp s1 h2 rw', h3, h4, h5, h6, k _ _ _ _ q (s1.put g3 trivial ⟨_, upd_same, (q3.eraseIdx j).ext e⟩) .non e⟩
def dDNew : DTE := fun _ S R => ∀ p, S p = none → R (.ref p) (S.put p (.dK []))
theorem de_dnew : DE X (.Dict [] [] pos) dDNew := ⟨pe_dnewK.of fun σ H Q ⟨env, S, R, rs, q, k⟩ p np =>
  k _ _ _ _ (q p (rs.sto.fresh np)) (rs.sto.lay np ⟨_, upd_same, .nil⟩) (.ref p) (.new np)⟩
/-- a dict that is not written any more -/
def dFrz (te : DTE) : DTE := fun env S R => te env S fun d S1 => ∃ a kvs, d = .ref a ∧ S1 a = some (.dK kvs) ∧ R (.dct kvs) (S1.rem a)
theorem de_frz (he : DE X e te) : DE X e (dFrz te) := by
  refine ⟨(pe_frz he.run).of fun σ H Q ⟨env, S, R, rs, h, k⟩ => ⟨env, S, _, rs, h, fun d S1 v H1 ⟨a, kvs, hd, ha, q⟩ s1 r1 e1 => ?_⟩⟩
  subst hd
  cases r1
  obtain ⟨ws, h3, h4⟩ := s1 a _ ha
  refine ⟨a, _, rfl, h3, trivial, fun od => ?_⟩
  have e3 : Ext H1 (upd H1 a (.frz od (.dK ws))) := .put h3 trivial
  exact k _ _ _ _ q (s1.rem h3 trivial) (.dct upd_same (h4.ext e3)) (e1.trans e3)
def dDPut (td ty tv : DTE) : DTS := fun C env S => tv env S fun v S1 => td env S1 fun x S2 => ty env S2 fun y S3 => ∃ a kvs k, x = .ref a ∧ y = kD k ∧ S3 a = some (.dK kvs) ∧ kvs.length < 1000000 ∧ C.nx env (S3.put a (.dK (putD kvs k v)))
theorem ds_dput {i : Expr} {pos' : Pos} {td ty tv : DTE} (hu : X.A.units + 1 < cLine) (ho : DE X o td) (hi : DE X i ty) (hv : DE X e tv) (hs : swapsWith e (some (.Subscript o i pos')) pos.line X.env = pure false := by rfl) : DS X (.Assign [.Subscript o i pos'] e pos) (dDPut td ty tv) := by
  refine ⟨(ps_dput hu ho.run hi.run hv.run hs).of fun σ H B ⟨env, S, C, rs, h, k, _⟩ => ⟨env, S, _, rs, h, fun v S1 u H1 q1 s1 r1 e1 => ⟨env, S1, _, rs.ext e1 s1, q1, fun x S2 w H2 q2 s2 r2 e2 => ⟨env, S2, _, rs.ext (e1.trans e2) s2, q2, fun y S3 t H3 ⟨aa, kvs, kk, hx, hy, ha, hl, q3⟩ s3 r3 e3 => ?_⟩⟩⟩⟩
  subst hx hy
  cases r2
  cases kD_inv r3
  obtain ⟨vs, h3, h4⟩ := s3 aa _ ha
  have e4 : Ext H3 (upd H3 aa (.dK (putK vs kk u))) := .put h3 trivial
  have ea : Ext H (upd H3 aa (.dK (putK vs kk u))) := e1.trans (e2.trans (e3.trans e4))
  exact ⟨aa, _, rfl, .k h3 (Nat.lt_of_lt_of_le (h4.length ▸ hl) (by decide)), k _ _ _ _ q3 (rs.ext ea (s3.put (o := .dK (putD kvs kk v)) h3 trivial ⟨_, upd_same, (h4.put (r1.ext (e2.trans e3))).ext e4⟩)) ea⟩
end
end Sv
namespace Sv
open PySem PySem.Spec PyProof.Rows L2
section
variable {X : Cx} {a b c e o : Expr} {es : List Expr} {ta tb tc te : DTE} {tl : DTA} {pos p : Pos}
theorem Pys.atp {S : Sto} : ∀ {ds : List D} {ps : List PyData} {i : Nat} {d : D}, Pys S ds ps → ds[i]? = some d → ∃ p, ps[i]? = some p ∧ Py S d p
  | _, _, _, _, .nil, h => by simp at h
  | _, _, 0, _, .cons r _, h => by simp at h; subst h; exact ⟨_, rfl, r⟩
  | _, _, i + 1, _, .cons _ t, h => Pys.atp (i := i) t (by simpa using h)
theorem Pys.len {S : Sto} : ∀ {ds : List D} {ps : List PyData}, Pys S ds ps → ds.length = ps.length
  | _, _, .nil => rfl
  | _, _, .cons _ t => by rw [List.length_cons, List.length_cons, Pys.len t]
def rIsBd (n : Bool) : DR2 := fun x y S R => ∃ c b, x = .bl c ∧ y = .bl b ∧ R (.bl (decide (c = b) ^^ n)) S
theorem o_notB : OpR X (compareOp .IsNot) (l2 X.kk (rIsBd true)) := by
  intro pins s σ H x y v u Q I rx ry ⟨d, e, S, R, r1, r2, s1, ⟨c, b, hx, hy, q⟩, k⟩
  subst hx hy
  cases r1
  cases r2
  rw [xor_tt] at q
  exact op_notBl pins s σ H _ _ v u Q I rx ry ⟨c, b, rfl, rfl, k _ _ _ _ q s1 (.bl _) (.refl H)⟩
end
section
variable {X : Cx} {e : Expr} {te : DTE}
def dTruL (te : DTE) : DTT := fun env S R => te env S fun x S1 => ∃ xs, seqOf S1 x = some xs ∧ R (!xs.isEmpty) S1
theorem RDs.emp {K : KK} {H : Hp} {ds : List D} {vs : List V} (r : RDs K H ds vs) : ds.isEmpty = vs.isEmpty := by cases r <;> rfl
theorem dt_truL (h : DE X e te) (he : ∀ whole, isTrue e X.env whole = (do let v ← whole; standAt e.pos; holding [v] (truthy v)) := by intro _; rfl) : DT X e (dTruL te) := by
  refine ⟨(pt_truth h.run he).of fun σ H Q ⟨env, S, R, rs, h, k⟩ => ⟨env, S, _, rs, h, fun d S1 v H1 ⟨xs, hx, q⟩ s1 r1 e1 => ?_⟩⟩
  obtain ⟨p, vs, rfl, hq, r⟩ := seq_rel s1 r1 hx
  refine ⟨!vs.isEmpty, ?_, ?_⟩
  · rcases hq with hq | hq
    · exact .inl ⟨vs, hq, rfl⟩
    · exact .inr (.inl ⟨vs, hq, rfl⟩)
  · rw [← r.emp]
    exact k _ _ _ q s1 e1
end
section
variable {X : Cx} {a b : Expr} {ta tb : DTE} {pos : Pos}
theorem lE_dnin {K : KK} {σ : L2.St} {H : Hp} {Q : VK} (h : lE K (dDin true ta tb) σ H Q) : tDNotIn (lE K ta) (lE K tb) σ H Q := by
  obtain ⟨env, S, R, rs, h, k⟩ := h
  refine ⟨env, S, _, rs, h, fun y S1 v H1 q1 s1 r1 e1 => ⟨env, S1, _, rs.ext e1 s1, q1, fun x S2 u H2 ⟨kvs, kk, hx, hy, q⟩ s2 r2 e2 => ?_⟩⟩
  subst hy
  obtain ⟨aa, vs, rfl, h1, h2⟩ := dict_rel s2 r2 hx
  cases kD_inv r1
  rw [xor_tt, getD_some h2] at q
  exact ⟨aa, _, rfl, .inl ⟨vs, kk, h1, rfl, rfl⟩, k _ _ _ _ q s2 (.bl _) (e1.trans e2)⟩
theorem dt_dnin (hu : X.A.units + 1 < cLine) (ha : DE X a ta) (hb : DE X b tb) (hm : behindInMarks .NotIn b = false := by rfl) : DT X (.Compare a [.NotIn] [b] pos) (dB (dDin true ta tb)) := ⟨(pt_cmp (pc_dnotin hu ha.run hb.run) hm).of fun _ _ _ h => by
  obtain ⟨env, S, R, rs, h, k⟩ := lT_b h
  exact lE_dnin ⟨env, S, R, rs, h, k⟩⟩
end
end Sv
namespace Sv
open PySem L2
/-- is_sent_behind: 0 trip 1 state 2 sender 3 interval 4 process 5 number -/
def B_is_sent_behind_1a14 : DTS := dSeq (dAsg (dBin rIxq (dVar 0) (dC (.int 0))) (dUnp 2 (dgCons (dgName 2) (dgCons (dgName 3) (dgNil)))))
  (dSeq (dAsg (dVar 1) (dUnp 2 (dgCons (dgName 4) (dgCons (dgName 5) (dgNil)))))
  (dRet (dAndV (dBin (rEqq false) (dVar 2) (dVar 4)) (dBin (rCmp fun i j => decide (j ≤ i)) (dVar 3) (dVar 5)))))
/-- is_received_before: 0 trip 1 state 2 receiver 3 interval 4 process 5 number -/
def B_is_received_before_f543 : DTS := dSeq (dAsg (dBin rIxq (dVar 0) (dC (.int 1))) (dUnp 2 (dgCons (dgName 2) (dgCons (dgName 3) (dgNil)))))
  (dSeq (dAsg (dVar 1) (dUnp 2 (dgCons (dgName 4) (dgCons (dgName 5) (dgNil)))))
  (dRet (dAndV (dBin (rEqq false) (dVar 2) (dVar 4)) (dBin (rCmp fun i j => decide (i < j)) (dVar 3) (dVar 5)))))
/-- distances_to: 0 trips 1 steps 2 state 3 distances 4 count 5 found 6 message 7 then -/
def B_distances_to_ec2b : DTS := dSeq (dAsg (dDNew) (dgName 3))
  (dSeq (dAsg (dC (.int 1)) (dgName 4))
  (dSeq (dAsg (dLc (diKeys (dVar 0)) (dgName 6) (dB (dCall 2 (dFn 6 B_is_received_before_f543) (dCons (dDix (dVar 0) (dVar 6)) (dCons (dVar 2) (dNil))))) (dVar 6) [6]) (dgName 5))
  (dSeq (dWhile (dTruL (dVar 5)) (dSeq (dFor (diVal (dVar 5)) (dgName 6) (dDPut (dVar 3) (dVar 6) (dVar 4)))
  (dSeq (dAug 4 (dC (.int 1)) (rI2 fun i j => i + j))
  (dAsg (dLc (diKeys (dVar 0)) (dgName 6) (dAnd (dB (dDin true (dVar 6) (dVar 3))) (dB (dCB (rAnyq fun bs => bs.any id) (dCons (dLc (diVal (dDix (dVar 1) (dVar 6))) (dgName 7) (dYes) (dDin false (dVar 7) (dVar 3)) [7]) (dNil))))) (dVar 6) [6]) (dgName 5)))))
  (dRet (dVar 3)))))
/-- is_step: 0 trips 1 message 2 then -/
def B_is_step_5234 : DTS := dRet (dCall 2 (dFn 6 B_is_sent_behind_1a14) (dCons (dDix (dVar 0) (dVar 2)) (dCons (dBin rIxq (dDix (dVar 0) (dVar 1)) (dC (.int 1))) (dNil))))
/-- zigzag_steps: 0 trips 1 message 2 then -/
def B_zigzag_steps_bb25 : DTS := dRet (dDc (diKeys (dVar 0)) (dgName 1) (dYes) (dVar 1) (dLc (diKeys (dVar 0)) (dgName 2) (dB (dCall 3 (dFn 3 B_is_step_5234) (dCons (dVar 0) (dCons (dVar 1) (dCons (dVar 2) (dNil)))))) (dVar 2) [2]) [1])
end Sv
namespace Sv
open PySem PySem.Spec PyProof.Rows L2
section
variable {X : Cx}
theorem RDs.tups {K : KK} {H : Hp} : ∀ {L0 : List (List Int)} {vs : List V}, RDs K H (L0.map fun q => .tup (intsD q)) vs → ∃ ks : List (Addr × List Int), vs = ks.map (fun p => V.ref p.1) ∧ L0 = ks.map (·.2) ∧ ∀ p ∈ ks, TupN H p.1 (p.2.map V.int)
  | [], _, .nil => ⟨[], rfl, rfl, fun p hp => (nomatch hp)⟩
  | q :: L0, _, .cons r rs => by
    obtain ⟨ks, h1, h2, h3⟩ := RDs.tups (L0 := L0) rs
    cases r with
    | @tup a _ vs ht qq =>
      cases (RDs.ints_inv qq)
      refine ⟨(a, q) :: ks, by rw [h1]; rfl, by rw [h2]; rfl, fun p hp => ?_⟩
      rcases List.mem_cons.mp hp with rfl | hp
      · exact ht
      · exact h3 p hp
end
end Sv
set_option maxHeartbeats 2000000
namespace Sv
open PySem PySem.Spec PyProof.Rows L2
section
variable {P : Program} {w : World} {K : PySem.W.Frag} {mg : Str → Option Value} {base : Heap}
/-- called with the keyword -/
def FnRW (P : Program) (w : World) (K : PySem.W.Frag) (mg : Str → Option Value) (base : Heap) (CX : CXT) (k : Nat) (f : Addr) (kn : Str) (sp : List V → V → Hp → VK → XK → Prop) : Prop :=
  ∀ (A : Around) (outer : List PySem.Env) (s : Shared) (H : Hp) (us : List Value) (u : Value) (vs : List V) (z : V) (Q : VK) (E : XK), Room k A → Env0 P w K mg base A outer s H → Vals vs us → RelV z u → sp vs z H Q E →
    codeAny (model P w) A (.call (.ref f) ⟨us, [(kn, u)]⟩) (CR CX outer P w H s Q E) s
abbrev DRK := List D → D → Sto → DK → Prop
def lK (K : KK) (r : DRK) : List V → V → Hp → VK → Prop := fun vs z H Q => ∃ ds e S R, RDs K H ds vs ∧ RD K H e z ∧ RelS K S H ∧ r ds e S R ∧ ∀ y S' v H', R y S' → RelS K S' H' → RD K H' y v → Ext H H' → Q v H'
/-- a def of the module with the keyword, by promise -/
structure DFw (P : Program) (w : World) (K : PySem.W.Frag) (mg : Str → Option Value) (base : Heap) (k : Nat) (x kn : Str) (r : DRK) : Prop where
  ex : ∃ f : Addr, FnRW P w K mg base CX0 k f kn (fun vs z H Q _ => lK ⟨P, w, K⟩ r vs z H Q) ∧ mg x = some (.ref f) ∧ PySem.W.keepIn K (.ref f) = true
theorem DFw.mk' {k : Nat} {x kn : Str} {r : DRK} {f : Addr} (F : FnRW P w K mg base CX0 k f kn (fun vs z H Q _ => lK ⟨P, w, K⟩ r vs z H Q)) (hm : mg x = some (.ref f)) (hk : PySem.W.keepIn K (.ref f) = true) : DFw P w K mg base k x kn r := ⟨f, F, hm, hk⟩
end
section
variable {X : Cx} {e kv : Expr} {es : List Expr} {te : DTE} {tl : DTA} {pos p kpos : Pos}
def dCBK (r : DRK) (t : DTA) (te : DTE) : DTE := fun env S R => t env S fun ds S1 => te env S1 fun d S2 => r ds d S2 R
end
end Sv
set_option maxHeartbeats 1000000
set_option maxHeartbeats 800000
set_option autoImplicit false
set_option maxHeartbeats 1000000
set_option autoImplicit false
namespace PySem
open Sem (wp)
end PySem
set_option maxHeartbeats 1000000
set_option autoImplicit false
namespace Sv
open PySem PySem.Spec PyProof.Rows L2
/-- the first of the least, None if there is none -/
def rMinN : DRK := fun ds e S R => e = .non ∧ ∃ a xs ps, ds = [.ref a] ∧ S a = some (.lst xs) ∧ Pys S xs ps ∧ PySem.W.AlikeAll ps ∧ PyData.depthAll ps ≤ 60 ∧ (ps = [] → R .non S) ∧ ∀ (p : PyData) (qs : List PyData), ps = p :: qs → ∀ (j : Nat) (d : D), xs[j]? = some d → (p :: qs)[j]? = some (PySem.W.minD p qs) → R d S
theorem cr_minN {X : Cx} (hc : X.calm = true) (hu : X.A.units + 65 < cLine) : CallRK X (.builtin "min") [Str.ofString "default"] (fun vs zs H Q => ∃ z, zs = [z] ∧ lK X.kk rMinN vs z H Q) := by
  intro pins s σ H vs zs us ws0 Q I r rz ⟨z, hz, ds, e, S, R, r1, re, s1, ⟨he, a, xs, ps, hd, hx, hp, ha, hdp, q0, q⟩, k⟩
  subst hd he hz
  obtain ⟨v, rfl, rv⟩ := r1.inv1
  cases rv
  cases re
  obtain ⟨u0, rfl, ru0⟩ := vals1 rz
  have ru0 : u0 = Value.none := ru0
  subst ru0
  obtain ⟨ws, h1, q1⟩ := s1.lst hx
  rw [Vals.ref1 r]
  obtain ⟨zz, its, n, rr, hl, ee⟩ := I.lstM h1
  obtain ⟨as, R1⟩ := Dp.readsAll I ps ws its (Pys.dp s1 hp q1) rr
  refine PySem.W.min_list_default (vs := its.toArray) (I.ok.hd hc) ⟨_, ee, rfl, n, rfl⟩ (by simpa using R1) ha (by omega) (fun h0 h' tk hk => ?_) fun p qs i v h' tk bs hpq hv hr hk => ?_
  · exact ⟨.non, H, I.kept (t' := tk) hk, rfl, k _ _ _ _ (q0 h0) s1 .non (.refl H)⟩
  · have hv' : its[i]? = some v := by simpa using hv
    obtain ⟨w, hw⟩ : ∃ w, ws[i]? = some w := ⟨_, List.getElem?_eq_getElem (by rw [rr.length]; exact (List.getElem?_eq_some_iff.mp hv').1)⟩
    obtain ⟨v2, hv2, rw'⟩ := rr.get hw
    have ev : v2 = v := Option.some.inj (hv2.symm.trans hv')
    rw [ev] at rw'
    obtain ⟨d, hdi, rd⟩ := q1.atv hw
    obtain ⟨pp, hpp, hpy⟩ := hp.atp hdi
    obtain ⟨bs2, R2⟩ := Dp.reads I pp w v (Py.dp s1 hpy rd) rw'
    have R2' : Reads h' v pp bs2 := Reads.keeps hk R2
    have hm : PySem.W.minD p qs ∈ p :: qs := by
      have e2 := (PySem.W.argBest_fold PySem.W.dataLt PyData.none p qs qs.length (Nat.le_refl _))
      rw [List.take_length] at e2
      show qs.foldl _ p ∈ _
      rw [← e2.2, List.getD_eq_getElem?_getD, List.getElem?_eq_getElem (Nat.lt_succ_of_le e2.1)]
      exact List.getElem_mem _
    rw [hpq] at ha hpp
    have eq := PySem.W.alike_unique _ _ v _ _ (ha.1 _ (List.mem_of_getElem? hpp) _ hm) R2' hr
    subst eq
    exact ⟨w, H, I.kept (t' := tk) hk, rw', k _ _ _ _ (q p qs hpq i d hdi hpp) s1 rd (.refl H)⟩
theorem de_minN {X : Cx} {e kv : Expr} {te : DTE} {tl : DTA} {pos p kpos : Pos} (hc : X.calm = true) (hu : X.A.units + 65 < cLine) (hg : Gl X "min") (hm : X.mg "min" = none) (ha : DA X [e] tl) (hv : DE X kv te)
    (he : backTo pos (starEach [e] X.env) = (false, eval e X.env) :: backTo pos (starEach [] X.env) := by rfl) (hpl : (backTo pos (starEach [e] X.env)).any (·.1) = false := by rfl)
    (hall : (backToKw pos (keywordEach [⟨some "default", kv, kpos⟩] X.env)).all (·.1.isSome) = true := by rfl) (hnone : (backToKw pos (keywordEach [⟨some "default", kv, kpos⟩] X.env)).any (·.1.isNone) = false := by rfl)
    (hks : (backToKw pos (keywordEach [⟨some "default", kv, kpos⟩] X.env)).filterMap (·.1) = [Str.ofString "default"] := by rfl) :
    DE X (.Call (.Name "min" p) [e] [⟨some "default", kv, kpos⟩] pos) (dCBK rMinN tl te) := by
  have pk := L2.pk_cons (X := X) (nm := some "default") (kpos := kpos) hv.run L2.pk_nil
  refine ⟨(pe_callBK (cr_minN hc hu) hg hm (by rfl) ha.run pk (he := he) (hpl := hpl) (hall := hall) (hnone := hnone) (hks := hks)).of fun σ H Q ⟨env, S, R, rs, h, kq⟩ => ?_⟩
  refine ⟨env, S, _, rs, h, fun ds S1 vs H1 q1 s1 r1 e1 => ⟨env, S1, _, rs.ext e1 s1, q1, fun d S2 z H2 q2 s2 r2 e2 => ?_⟩⟩
  exact ⟨z, rfl, ds, d, S2, R, r1.ext e2, r2, s2, q2, fun y S3 v H3 q3 s3 r3 e3 => kq _ _ _ _ q3 s3 r3 (e1.trans (e2.trans e3))⟩
end Sv
set_option maxHeartbeats 1000000
set_option autoImplicit false
namespace Sv
open PySem L2
/-- first_apart: 0 history 1 trips 2 steps 3 state 4 numbers 5 message 6 sender 7 interval 8 row -/
def B_first_apart_5683 : DTS := dSeq (dAsg (dLc (diVal (dVar 0)) (dgName 8) (dYes) (dC (.int 0)) [8]) (dgName 4))
  (dSeq (dFor (diKeys (dFrz (dCall 3 (dFn 8 B_distances_to_ec2b) (dCons (dVar 1) (dCons (dVar 2) (dCons (dVar 3) (dNil))))))) (dgName 5) (dSeq (dAsg (dBin rIxq (dDix (dVar 1) (dVar 5)) (dC (.int 0))) (dUnp 2 (dgCons (dgName 6) (dgCons (dgName 7) (dgNil)))))
  (dAsg (dCB (rMax2) (dCons (dBin rIxq (dVar 4) (dVar 6)) (dCons (dBin rAdd (dVar 7) (dC (.int 1))) (dNil)))) (dSub (dVar 4) (dVar 6)))))
  (dRet (dVar 4)))
/-- vector_by: 0 history 1 trips 2 steps 3 state 4 process 5 number 6 numbers -/
def B_vector_by_c0de : DTS := dSeq (dAsg (dVar 3) (dUnp 2 (dgCons (dgName 4) (dgCons (dgName 5) (dgNil)))))
  (dSeq (dAsg (dCall 4 (dFn 9 B_first_apart_5683) (dCons (dVar 0) (dCons (dVar 1) (dCons (dVar 2) (dCons (dVar 3) (dNil)))))) (dgName 6))
  (dRet (dCB (rTupq) (dCons (dBin rAdd (dBin rAdd (dSl (dVar 6) (dNoP) (dPart (dVar 4))) (dLst (dCons (dVar 5) (dNil)))) (dSl (dVar 6) (dPart (dBin rAdd (dVar 4) (dC (.int 1)))) (dNoP))) (dNil)))))
/-- is_received_first: 0 history 1 message 2 then 3 row -/
def B_is_received_first_4360 : DTS := dRet (dCB (rAnyq fun bs => bs.any id) (dCons (dLc (diVal (dVar 0)) (dgName 3) (dYes) (dAndV (dBin (rInq false) (dUn rNeg (dVar 1)) (dVar 3)) (dBin (rInq false) (dVar 2) (dSl (dVar 3) (dPart (dMtT mTindex (dVar 3) (dCons (dUn rNeg (dVar 1)) (dNil)))) (dNoP)))) [3]) (dNil)))
/-- causal_steps: 0 history 1 trips 2 message 3 then -/
def B_causal_steps_ab7d : DTS := dRet (dDc (diKeys (dVar 1)) (dgName 2) (dYes) (dVar 2) (dLc (diKeys (dVar 1)) (dgName 3) (dB (dCall 3 (dFn 4 B_is_received_first_4360) (dCons (dVar 0) (dCons (dVar 2) (dCons (dVar 3) (dNil)))))) (dVar 3) [3]) [2])
/-- find_untracked: 0 history 1 trips 2 zigzag 3 causal 4 pairs 5 other 6 vector 7 numbers 8 process 9 number -/
def B_find_untracked_6494 : DTS := dSeq (dAsg (dCall 1 (dFn 5 B_trips_of_ea9a) (dCons (dVar 0) (dNil))) (dgName 1))
  (dSeq (dAsg (dTup (dCons (dCall 1 (dFn 3 B_zigzag_steps_bb25) (dCons (dVar 1) (dNil))) (dCons (dCall 2 (dFn 4 B_causal_steps_ab7d) (dCons (dVar 0) (dCons (dVar 1) (dNil)))) (dNil)))) (dUnp 2 (dgCons (dgName 2) (dgCons (dgName 3) (dgNil)))))
  (dSeq (dAsg (dLst (dNil)) (dgName 4))
  (dSeq (dFor (diVal (dCall 1 (dFn 4 B_all_states_326e) (dCons (dVar 0) (dNil)))) (dgName 5) (dSeq (dAsg (dCall 4 (dFn 7 B_vector_by_c0de) (dCons (dVar 0) (dCons (dVar 1) (dCons (dVar 3) (dCons (dVar 5) (dNil)))))) (dgName 6))
  (dSeq (dAsg (dCall 4 (dFn 9 B_first_apart_5683) (dCons (dVar 0) (dCons (dVar 1) (dCons (dVar 2) (dCons (dVar 5) (dNil)))))) (dgName 7))
  (dDrop (dMtq "list" mExtend (dVar 4) (dCons (dLc (diEnum (dCons (dVar 6) (dNil))) (dUnp 2 (dgCons (dgName 8) (dgCons (dgName 9) (dgNil)))) (dB (dBin (rCmp fun i j => decide (i < j)) (dVar 9) (dBin rIxq (dVar 7) (dVar 8)))) (dTup (dCons (dTup (dCons (dVar 8) (dCons (dVar 9) (dNil)))) (dCons (dVar 5) (dNil)))) [8, 9]) (dNil)))))))
  (dRet (dCBK rMinN (dCons (dVar 4) (dNil)) (dC .non))))))
/-- is_tracked: 0 history -/
def B_is_tracked_a4d2 : DTS := dRet (dIsN (dCall 1 (dFn 10 B_find_untracked_6494) (dCons (dVar 0) (dNil))))
end Sv
set_option maxHeartbeats 1000000
set_option autoImplicit false
set_option maxHeartbeats 1000000
namespace Sv
open PySem
/-- an iterator of a list or of a tuple, as ka says -/
def ItM (ka : Addr → Bool) (h : Heap) (a l : Addr) (i : Nat) : Prop := (ka l = true ∧ h.IsListIter a l i) ∨ (ka l = false ∧ h.IsTupleIter a l i)
def SqM (ka : Addr → Bool) (h : Heap) (l : Addr) (xs : Array Value) : Prop := (ka l = true ∧ h.IsList l xs) ∨ (ka l = false ∧ h.IsTuple l xs)
theorem ItM.at {ka : Addr → Bool} {h h' : Heap} {a l : Addr} {i : Nat} (H : ItM ka h a l i) (e : ∀ o, h.get? a = some o → h'.get? a = some o) : ItM ka h' a l i := H.elim (fun x => .inl ⟨x.1, x.2.at e⟩) fun x => .inr ⟨x.1, x.2.at e⟩
theorem SqM.keep {ka : Addr → Bool} {h h' : Heap} {l : Addr} {xs : Array Value} (H : SqM ka h l xs) (e : ∀ o, h.get? l = some o → h'.get? l = some o) : SqM ka h' l xs := by
  rcases H with ⟨k, o, ho, r⟩ | ⟨k, o, ho, r⟩
  · exact .inl ⟨k, o, e o ho, r⟩
  · exact .inr ⟨k, o, e o ho, r⟩
end Sv
set_option maxHeartbeats 1000000
set_option autoImplicit false
set_option maxHeartbeats 1000000
set_option autoImplicit false
set_option maxHeartbeats 1000000
set_option autoImplicit false
set_option maxHeartbeats 800000
set_option autoImplicit false
set_option maxHeartbeats 800000
set_option autoImplicit false
namespace Sv
open PySem PySem.Spec PyProof.Rows L2
/-- what a generator def hands out -/
abbrev DRG := List D → Sto → (List D → Sto → Prop) → Prop
def lGf (K : KK) (n : Nat) (r : DRG) : SpG := fun vs H Q _ => vs.length = n ∧ ∃ ds S R, RDs K H ds vs ∧ RelS K S H ∧ r ds S R ∧ ∀ out S' ys H', R out S' → RDs K H' out ys → RelS K S' H' → Ext H H' → Q ys H'
section
variable {P : Program} {w : World} {K : PySem.W.Frag} {mg : Str → Option Value} {base : Heap}
structure DGo (P : Program) (w : World) (K : PySem.W.Frag) (mg : Str → Option Value) (base : Heap) (k : Nat) (x : Str) (n : Nat) (r : DRG) : Prop where
  ex : ∃ (f : Addr) (fd : FuncData) (ps : List Str), GFn P w K mg base k f fd ps (lGf ⟨P, w, K⟩ n r) ∧ mg x = some (.ref f) ∧ PySem.W.keepIn K (.ref f) = true ∧ Binds K fd ps []
theorem DGo.mk' {k n : Nat} {x : Str} {r : DRG} {f : Addr} {fd : FuncData} {ps : List Str} (F : GFn P w K mg base k f fd ps (lGf ⟨P, w, K⟩ n r)) (hm : mg x = some (.ref f)) (hk : PySem.W.keepIn K (.ref f) = true) (hb : Binds K fd ps []) : DGo P w K mg base k x n r :=
  ⟨f, fd, ps, F, hm, hk, hb⟩
end
end Sv
set_option autoImplicit false
namespace Sv
open PySem PySem.Spec PyProof.Rows L2 Sz
/-- it rests on its own object alone -/
def immO : HO → Bool
  | .tup _ => true
  | .tbl _ => true
  | .frz _ (.lst _) => true
  | .frz _ (.tup _) => true
  | .frz _ (.dK _) => true
  | _ => false
def keepO (u : HO) : Bool := immO u && (match u with | .tbl _ => false | _ => true)
def immH (H : Hp) : Hp := fun b => (H b).filter immO
theorem immH_some {H : Hp} {b : Addr} {u : HO} : immH H b = some u ↔ H b = some u ∧ immO u = true := by
  unfold immH
  rw [Option.filter_eq_some_iff]
/-- what is known and stays stays -/
def Ext3 (H H' : Hp) : Prop := ∀ b u, keepO u = true → H b = some u → H' b = some u
theorem Ext3.refl (H : Hp) : Ext3 H H := fun _ _ _ h => h
theorem Ext3.trans {H H1 H2 : Hp} (x : Ext3 H H1) (y : Ext3 H1 H2) : Ext3 H H2 := fun b u k h => y b u k (x b u k h)
theorem Ext3.of {H H' : Hp} (e : Ext H H') : Ext3 H H' := fun b u k h => by
  cases u with
  | tup xs => exact e.2 _ _ h
  | frz o u => exact e.1 _ _ _ h
  | _ => exact (nomatch (show false = true from k))
theorem keep_imm {u : HO} (h : keepO u = true) : immO u = true := by unfold keepO at h; exact (Bool.and_eq_true_iff.mp h).1
/-- one thing as it stands -/
abbrev asIs (b : Addr) (o : Obj) : HO := .frz o (.ext fun h => h.get? b = some o)
/-- a generator's call: what it runs, where its frame's dict stands -/
structure GP where
  P : Program
  w : World
  K : PySem.W.Frag
  mg : Str → Option Value
  base : Heap
  N : List Str
  qual : Str
  scope : Scope
  f : Addr
  cdv : Value
  L : Addr
  k : Nat
abbrev GP.kk (g : GP) : KK := ⟨g.P, g.w, g.K⟩
abbrev GP.env (g : GP) : PySem.Env := envOfC g.qual g.scope g.L g.f g.cdv
/-- a waking: around what, the frames that run, the state, the heap as it is known there, the generator's own things -/
structure Wk where
  A : Around
  outer : List PySem.Env
  s : Shared
  H : Hp
  fp : List Addr
def cutS (L : Nat) (s : Shared) : Shared := { s with heap := ⟨s.heap.objs.extract 0 L, s.heap.life⟩ }
theorem cutS_get {L : Nat} {s : Shared} {b : Nat} (h : b < L) : (cutS L s).heap.get? b = s.heap.get? b := by
  have : (s.heap.objs.extract 0 L)[b]? = s.heap.objs[b]? := by
    rw [Array.getElem?_extract]
    by_cases hb : b < s.heap.objs.size
    · rw [if_pos (by omega), Nat.zero_add]
    · rw [if_neg (by omega), Array.getElem?_eq_none (by omega)]
  unfold Heap.get? cutS
  dsimp only
  rw [this]
/-- what the generator is given: what is known and stays; of all else above L only that it stands as it stands -/
def guardH (L : Addr) (w : Wk) : Hp := fun b => match immH w.H b with
  | some u => some u
  | none => if L ≤ b ∧ b ∉ w.fp then (w.s.heap.get? b).map (asIs b) else none
def GP.cx (g : GP) (w : Wk) : Cx := (cxOf CX0 g.P g.w g.K g.mg g.base g.N g.qual g.scope g.f g.cdv w.A w.outer (cutS g.L w.s) (guardH g.L w) (fun _ _ _ => False)).nox
structure En (g : GP) (w : Wk) : Prop where
  e0 : Env0 g.P g.w g.K g.mg g.base w.A w.outer w.s w.H
  room : Room g.k (w.A.deeper g.env)
  fr : ∀ b ∈ frs w.outer, b < g.L
  lt : g.L < w.s.heap.objs.size
  fpL : g.L ∈ w.fp
  fpH : ∀ b ∈ w.fp, w.H b = none ∧ g.L ≤ b
section
variable {g : GP} {w w' : Wk} {b : Addr} {u : HO} {o : Obj}
theorem guard_imm (h : immH w.H b = some u) : guardH g.L w b = some u := by unfold guardH; rw [h]
theorem guard_low (h : immH w.H b = none) (hb : b < g.L) : guardH g.L w b = none := by
  unfold guardH
  rw [h]
  exact if_neg fun z => absurd z.1 (Nat.not_le_of_lt hb)
end
end Sv
set_option autoImplicit false
namespace Sv
open PySem PySem.Spec PyProof.Rows L2 Sz
variable {g : GP} {w w' : Wk} {ip : List (Addr × Obj)} {σ : L2.St} {H : Hp} {s : Shared}
theorem in_keep (I : Inv (g.cx w) ip σ H s) {b : Addr} {u : HO} (k : keepO u = true) (h : w.H b = some u) : H b = some u := by
  have hg : guardH g.L w b = some u := guard_imm (immH_some.mpr ⟨h, keep_imm k⟩)
  cases u with
  | tup xs => exact I.base.tups _ _ hg
  | frz o v => exact I.base.frzs _ _ _ hg
  | _ => exact (nomatch (show false = true from k))
theorem in_imm (I : Inv (g.cx w) ip σ H s) {b : Addr} {u : HO} (k : immO u = true) (h : w.H b = some u) : ∃ v, H b = some v ∧ immO v = true := by
  by_cases z : keepO u = true
  · exact ⟨u, in_keep I z h, k⟩
  · cases u with
    | tbl ps =>
      obtain ⟨more, q⟩ := I.base.tbls _ _ (guard_imm (immH_some.mpr ⟨h, k⟩))
      exact ⟨_, q, rfl⟩
    | tup xs => exact absurd rfl z
    | frz o v =>
      unfold keepO at z
      rw [k] at z
      exact absurd rfl z
    | _ => exact (nomatch (show false = true from k))
theorem in_low (E : En g w) (I : Inv (g.cx w) ip σ H s) {b : Addr} {o : Obj} (n : immH w.H b = none) (hb : b < g.L) (e : w.s.heap.get? b = some o) : H b = none ∧ (b ∉ frs w.outer → s.heap.get? b = some o) ∧ (b ∈ frs w.outer → ∃ sl, s.heap.get? b = some { o with slots := sl }) := by
  have e' : (cutS g.L w.s).heap.get? b = some o := (cutS_get hb).trans e
  have gn : guardH g.L w b = none := guard_low n hb
  exact ⟨I.base.free b o e' gn (by show b ∉ []; simp), fun hf => I.base.keep b o e' gn hf (by show b ∉ []; simp), fun hf => I.base.slot b o e' gn hf (by show b ∉ []; simp)⟩
end Sv
set_option autoImplicit false
namespace Sv
open PySem PySem.Spec PyProof.Rows L2 Sz
variable {g : GP} {w w' : Wk} {ip : List (Addr × Obj)} {σ : L2.St} {H : Hp} {s : Shared} {env : Env} {S : Sto}
/-- what is kept of a generator's store over its sleep -/
def keepLD (S : Sto) : Sto := fun b => match S b with
  | some (.lst ds) => some (.lst ds)
  | some (.dK kvs) => some (.dK kvs)
  | _ => none
theorem keepLD_some {b : Addr} {o : Ob} (h : keepLD S b = some o) : S b = some o ∧ ((∃ ds, o = .lst ds) ∨ ∃ kvs, o = .dK kvs) := by
  unfold keepLD at h
  cases e : S b with
  | none => rw [e] at h; cases h
  | some u =>
    rw [e] at h
    cases u with
    | lst ds => cases h; exact ⟨rfl, .inl ⟨_, rfl⟩⟩
    | dK ds => cases h; exact ⟨rfl, .inr ⟨_, rfl⟩⟩
    | _ => cases h
structure AtG (g : GP) (w : Wk) (ip : List (Addr × Obj)) (σ : L2.St) (H : Hp) (s : Shared) (env : Env) (S : Sto) : Prop where
  en : En g w
  inv : Inv (g.cx w) ip σ H s
  dead : Dead w.s s
  rs : RS g.kk σ H env S
  ipok : ∀ p ∈ ip, g.L ≤ p.1
theorem ob_at {K : KK} {b : Addr} {o : Ob} (r : RelS K S H) (h : keepLD S b = some o) : (∃ vs, H b = some (.lst vs)) ∨ ∃ vs, H b = some (.dK vs) := by
  obtain ⟨h1, ⟨ds, rfl⟩ | ⟨kvs, rfl⟩⟩ := keepLD_some h
  · obtain ⟨vs, q, _⟩ := r b _ h1
    exact .inl ⟨vs, q⟩
  · obtain ⟨vs, q, _⟩ := r b _ h1
    exact .inr ⟨vs, q⟩
theorem ob_mut {K : KK} {b : Addr} {o : Ob} (r : RelS K S H) (h : keepLD S b = some o) : ∀ u, H b = some u → immO u = false ∧ ∀ o v, u ≠ .frz o v := fun u hu => by
  rcases ob_at r h with ⟨vs, q⟩ | ⟨vs, q⟩ <;>
  · rw [q] at hu
    cases hu
    exact ⟨rfl, fun _ _ z => nomatch z⟩
theorem ob_heap {P : Program} {w : World} {K : KK} {h : Heap} {b : Addr} {o : Ob} (r : RelS K S H) (hk : HOk P w H h) (e : keepLD S b = some o) : ∃ ob, h.get? b = some ob ∧ ∀ v, ob.data ≠ .cell v := by
  rcases ob_at r e with ⟨vs, q⟩ | ⟨vs, q⟩
  · obtain ⟨_, its, n, _, e⟩ := hk b _ q
    exact ⟨_, e, fun v z => nomatch z⟩
  · obtain ⟨_, _, ys, _, ob, es, ep, e, _, d, _⟩ := hk b _ q
    refine ⟨_, e, fun v z => ?_⟩
    first
      | (rw [d] at z; cases z)
      | (rw [d.1] at z; cases z)
theorem AtG.own (A : AtG g w ip σ H s env S) {b : Addr} {o : Ob} (h : keepLD S b = some o) : g.L ≤ b := by
  refine Nat.le_of_not_lt fun hb => ?_
  obtain ⟨ob, e, _⟩ := ob_heap A.rs.sto A.inv.hok h
  cases e1 : w.s.heap.get? b with
  | none =>
    rw [A.dead.no b (Nat.lt_trans hb A.en.lt) e1] at e
    cases e
  | some o1 =>
    cases hi : immH w.H b with
    | none =>
      have q := (in_low A.en A.inv hi hb e1).1
      rcases ob_at A.rs.sto h with ⟨vs, z⟩ | ⟨vs, z⟩ <;>
      · rw [q] at z
        cases z
    | some u =>
      obtain ⟨h1, h2⟩ := immH_some.mp hi
      obtain ⟨v, q, k⟩ := in_imm A.inv h2 h1
      have := (ob_mut A.rs.sto h v q).1
      rw [k] at this
      cases this
/-- what the others get of the generator's turn -/
structure ExitR (g : GP) (w : Wk) (s : Shared) (Hm : Hp) (fp : List Addr) : Prop where
  os : s.os = w.s.os
  bare : AllBare s.gens
  dead : Dead w.s s
  un : Un (frs w.outer) w.fp w.H Hm w.s.heap s.heap
  ok : HOk g.P g.w Hm s.heap
  ext : Ext w.H Hm
  rel : ∀ (K : KK) (S : Sto), RelS K S w.H → RelS K S Hm
  fp : ∀ b ∈ fp, g.L ≤ b ∧ Hm b = none ∧ (b ∈ w.fp ∨ w.s.heap.get? b = none) ∧ ∃ o, s.heap.get? b = some o ∧ ∀ v, o.data ≠ .cell v
end Sv
set_option maxHeartbeats 1000000
set_option autoImplicit false
namespace Sv
open PySem PySem.Spec PyProof.Rows L2 Sz GenW
/-- what one waking comes to: with n items to come -/
def PostN (g : GP) (out : List D) : Nat → Wk → PostG
  | 0, w => fun e s => e = .ret (.ok (.ret .none)) ∧ ∃ Hm, ExitR g w s Hm []
  | n + 1, w => fun e s => ∃ v gd l k c p fs, e = .susp v gd l k c p fs ∧ e.quiet = true ∧ ∃ d x Hm fp, out[out.length - (n + 1)]? = some d ∧ RelV x v ∧ RD g.kk Hm d x ∧ g.L ∈ fp ∧ ExitR g w s Hm fp ∧
      ∀ w' : Wk, w'.fp = fp → En g w' → (∀ b ∈ fp, ∀ o, s.heap.get? b = some o → w'.s.heap.get? b = some o) → Ext3 Hm w'.H → Sg (model g.P g.w) w'.A (PostN g out n w') c (k (.send .none)) fs w'.s
variable {g : GP} {out : List D} {st : Stmt} {rest : List Stmt} {pos : Pos}
theorem AtG.go {w : Wk} {ip : List (Addr × Obj)} {σ σ' : L2.St} {H H' : Hp} {s s' : Shared} {env env' : Env} {S S' : Sto} (A : AtG g w ip σ H s env S) (I : Inv (g.cx w) ip σ' H' s') (d : Dead s s') (r : RS g.kk σ' H' env' S') : AtG g w ip σ' H' s' env' S' :=
  ⟨A.en, I, A.dead.trans d, r, A.ipok⟩
end Sv
set_option maxHeartbeats 1000000
set_option autoImplicit false
set_option maxHeartbeats 1000000
set_option autoImplicit false
namespace Sv
open PySem PySem.Spec PyProof.Rows L2 Sz GenW
/-- it sleeps: n items are to come -/
structure Slp (g : GP) (out : List D) (n : Nat) (a : Addr) (gn : Nat) (fp : List Addr) (Hm : Hp) (s : Shared) : Prop where
  isg : s.heap.IsGen a gn
  anot : a ∉ fp
  fpL : g.L ∈ fp
  ex : ∀ b ∈ fp, g.L ≤ b ∧ ∃ o, s.heap.get? b = some o ∧ ∀ v, o.data ≠ .cell v
  rdy : ∃ gs, s.gens[gn]? = some gs ∧ (n < out.length → IsSusp gs) ∧ ∀ w' : Wk, w'.fp = fp → En g w' → (∀ b ∈ fp, ∀ o, s.heap.get? b = some o → w'.s.heap.get? b = some o) → Ext3 Hm w'.H → WkG (model g.P g.w) w'.A (PostN g out n w') gs (.send .none) w'.s
variable {g : GP} {out : List D} {n gn : Nat} {a : Addr} {fp : List Addr} {Hm : Hp} {X : Cx} {pins : List (Addr × Obj)} {σ : L2.St} {H : Hp} {s s' : Shared}
theorem Slp.keep (h : Slp g out n a gn fp Hm s) (hn : n < out.length) (k : ∀ b ∈ a :: fp, ∀ o, s.heap.get? b = some o → s'.heap.get? b = some o) (st : Stays s s') : Slp g out n a gn fp Hm s' := by
  obtain ⟨gs, h1, h2, h3⟩ := h.rdy
  refine ⟨?_, h.anot, h.fpL, fun b hb => ?_, gs, st gn gs h1 (h2 hn), h2, fun w' e E kk x => h3 w' e E (fun b hb o eo => kk b hb o (k b (List.mem_cons_of_mem _ hb) o eo)) x⟩
  · obtain ⟨o, nm, qn, ho, r⟩ := h.isg
    exact ⟨o, nm, qn, k a List.mem_cons_self o ho, r⟩
  · obtain ⟨h1, o, e, d⟩ := h.ex b hb
    exact ⟨h1, o, k b (List.mem_cons_of_mem _ hb) o e, d⟩
/-- the one who wakes it -/
structure Host (g : GP) (X : Cx) : Prop where
  P : g.P = X.prog
  w : g.w = X.w
  K : g.K = X.K
  mg : g.mg = X.mg
  base : g.base = X.base
  s0 : X.s_0.heap.objs.size ≤ g.L
  fr : ∀ b ∈ frs X.stack, b < g.L
  calm : X.calm = true
  room : Room (g.k + 2) X.A
/-- an around near by -/
structure Near (X : Cx) (A : Around) : Prop where
  hd : A.handled = none
  fr : A.frames = some X.stack
  dp : A.depth ≤ X.A.depth + 2
  un : A.units ≤ X.A.units + 16
theorem Slp.lt (h : Slp g out n a gn fp Hm s) : g.L < s.heap.objs.size := let ⟨_, o, e, _⟩ := h.ex g.L h.fpL; Heap.lt_size e
theorem Host.en {A : Around} (hx : Host g X) (nr : Near X A) (I : Inv X pins σ H s) (h : Slp g out n a gn fp Hm s) (hf : ∀ b ∈ a :: fp, FpOk X pins H b) : En g ⟨A.in1, X.stack, s.setGen gn .running, H, fp⟩ := by
  have e := I.env0
  have r := hx.room
  refine ⟨?_, ⟨nr.hd, ?_, ?_⟩, hx.fr, h.lt, h.fpL, fun b hb => ⟨(hf b (List.mem_cons_of_mem _ hb)).1, (h.ex b hb).1⟩⟩
  · rw [hx.P, hx.w, hx.K, hx.mg, hx.base]
    exact ⟨nr.fr, e.mod, e.bs, e.bsz, e.funs, e.frf, e.hok, allBare_setGen e.bare rfl⟩
  · have := r.dp
    have := nr.dp
    show A.depth + 1 + 3 * g.k + 5 < _
    omega
  · have := r.un
    have := nr.un
    show A.units + 1 + 3 + 16 * g.k + 200 < _
    omega
end Sv
set_option maxHeartbeats 1000000
set_option autoImplicit false
set_option maxHeartbeats 1000000
set_option autoImplicit false
namespace Sv
open PySem PySem.Spec PyProof.Rows L2 Sz GenW
/-- what a generator's code was made of -/
structure GP.Is (g : GP) (P : Program) (w : World) (K : PySem.W.Frag) (mg : Str → Option Value) (base : Heap) (N : List Str) (x : Str) (sc : Scope) (f : Addr) (k : Nat) : Prop where
  P : g.P = P
  w : g.w = w
  K : g.K = K
  mg : g.mg = mg
  base : g.base = base
  N : g.N = N
  qual : g.qual = x
  scope : g.scope = sc
  f : g.f = f
  k : g.k = k
end Sv
set_option maxHeartbeats 1000000
set_option autoImplicit false
set_option maxHeartbeats 1000000
set_option autoImplicit false
namespace Sv
open PySem PySem.Spec PyProof.Rows L2
def rGetL (K : PySem.W.Frag) : V → V → Hp → VK → Prop := fun o i H Q => ∃ (p : Addr) (xs : List V) (k : Nat) (v : V), o = .ref p ∧ i = .int k ∧ SqL K H p xs ∧ xs[k]? = some v ∧ Q v H
section
variable {X : Cx}
theorem pget_list : PGet X (rGetL X.K) := by
  intro pins s σ H o i ov iv Q I ro ri h
  obtain ⟨p, xs, k, v, rfl, rfl, hq, hx, q⟩ := h
  cases ro
  obtain ⟨t, rfl⟩ := ri
  obtain ⟨its, r, pl, hz⟩ := I.list hq
  obtain ⟨w, ew, rw'⟩ := r.get hx
  have hk : k < xs.length := (List.getElem?_eq_some_iff.mp hx).1
  have hn := line63
  exact wpAny_getItem_list pl.isList (Int.natCast_nonneg k) (by omega) (by rw [Int.toNat_natCast]; simpa using ew) ⟨v, H, I, rw', q⟩
/-- o[i] op= e, a list of ints -/
def dAugL (to ti te : DTE) (f : Int → Int → Int) : DTS := fun C env S => to env S fun o S1 => ti env S1 fun i S2 => ∃ (a : Addr) (ds : List D) (k : Nat) (x : Int), o = .ref a ∧ i = .int k ∧ S2 a = some (.lst ds) ∧ ds[k]? = some (.int x) ∧
  te env S2 fun y S3 => ∃ (j : Int) (ds3 : List D), y = .int j ∧ S3 a = some (.lst ds3) ∧ k < ds3.length ∧ C.nx env (S3.put a (.lst (ds3.set k (.int (f x j)))))
theorem ds_augL {o i e : Expr} {to ti te : DTE} {op : Operator} {tpos pos : Pos} {f : Int → Int → Int} (hop : PIp X op (ipI f)) (ho : DE X o to) (hi : DE X i ti) (he : DE X e te)
    (ha : ∀ ov iv new, augStore i ov iv new = (do holding [new, ov, iv] (setItem ov iv new); release [new, ov, iv] []; pure .next) := by intros; rfl) : DS X (.AugAssign (.Subscript o i tpos) op e pos) (dAugL to ti te f) := by
  refine ⟨(ps_augS ho.run hi.run pget_list he.run hop set_list ha).of fun σ H B ⟨env, S, C, rs, h, kk, _⟩ => ⟨env, S, _, rs, h, fun o S1 ov H1 q1 s1 r1 e1 => ⟨env, S1, _, rs.ext e1 s1, q1, fun i S2 iv H2 q2 s2 r2 e2 => ?_⟩⟩⟩
  obtain ⟨a, ds, k, x, rfl, rfl, hs, hx, q⟩ := q2
  cases r1
  cases r2
  obtain ⟨vs, h1, q1⟩ := s2.lst hs
  obtain ⟨v, hv, rv⟩ := q1.at hx
  cases rv
  refine ⟨a, vs, k, .int x, rfl, rfl, .of h1, hv, env, S2, _, rs.ext (e1.trans e2) s2, q, fun y S3 u H3 ⟨j, ds3, hy, hs3, hk, q3⟩ s3 r3 e3 => ?_⟩
  subst hy
  cases r3
  obtain ⟨vs3, h3, q3'⟩ := s3.lst hs3
  have hk' : k < vs3.length := by rw [← q3'.length]; exact hk
  refine ⟨x, j, rfl, rfl, a, vs3, k, k, rfl, rfl, h3, ?_, ?_⟩
  · unfold ixN
    first
      | (rw [if_neg (by omega)]; simp; omega)
      | simp [hk']
      | omega
  · have e4 : Ext H3 (upd H3 a (.lst (vs3.set k (.int (f x j))))) := .put h3 trivial
    exact kk _ _ _ _ q3 (rs.ext (e1.trans (e2.trans (e3.trans e4))) (s3.put h3 trivial ⟨_, upd_same, (q3'.set (.int _) k).ext e4⟩)) (e1.trans (e2.trans (e3.trans e4)))
end
end Sv
set_option maxHeartbeats 800000
set_option autoImplicit false
set_option autoImplicit false
set_option autoImplicit false
set_option maxHeartbeats 4000000
set_option maxHeartbeats 1000000
set_option autoImplicit false
set_option maxHeartbeats 800000
set_option autoImplicit false
set_option maxHeartbeats 1000000
set_option autoImplicit false
set_option maxHeartbeats 1000000
set_option autoImplicit false
set_option maxHeartbeats 1000000
set_option autoImplicit false
set_option maxHeartbeats 1000000
set_option autoImplicit false
set_option autoImplicit false
namespace Sv
open PySem PySem.Spec PyProof.Rows L2
def PEA (X : Cx) (b0 : List Stmt) (e : Expr) (t : TE) : Prop := ∀ (pins : List (Addr × Obj)) (s : Shared) (σ : L2.St) (H : Hp) (Q : VK), Inv X pins σ H s → t σ H Q → _root_.PySem.wpAt (model X.prog X.w) X.A (.func b0 X.env) (eval e X.env) (EP X pins σ Q) X.xe s
def PSA (X : Cx) (b0 : List Stmt) (st : Stmt) (t : TS) : Prop := ∀ (pins : List (Addr × Obj)) (s : Shared) (σ : L2.St) (H : Hp) (D : Ends), Inv X pins σ H s → t D σ H → _root_.PySem.wpAt (model X.prog X.w) X.A (.func b0 X.env) (exec st X.env) (SP X pins D) X.xe s
def PSsA (X : Cx) (b0 : List Stmt) (st : List Stmt) (t : TS) : Prop := ∀ (pins : List (Addr × Obj)) (s : Shared) (σ : L2.St) (H : Hp) (D : Ends), Inv X pins σ H s → t D σ H → _root_.PySem.wpAt (model X.prog X.w) X.A (.func b0 X.env) (execs st X.env) (SP X pins D) X.xe s
section
variable {X : Cx} {b0 : List Stmt} {st : Stmt} {rest : List Stmt} {t u : TS} {e : Expr} {te : TE} {pos : Pos}
theorem psa_of (h : PS X st t) : PSA X b0 st t := fun pins s σ H D I q => wpAt_of_wpAny (h.run pins s σ H D I q)
theorem pssa_of (h : PSs X rest t) : PSsA X b0 rest t := fun pins s σ H D I q => wpAt_of_wpAny (h.run pins s σ H D I q)
theorem pssa_cons (h1 : PSA X b0 st t) (h2 : PSsA X b0 rest u) : PSsA X b0 (st :: rest) (tSeq t u) := by
  intro pins s σ H D I h
  refine ks_wpAt_execs_cons (ks_wpAt_mono (h1 pins s σ H { D with nx := u D } I h) (fun f s1 q => ?_) fun _ _ x => x)
  cases f with
  | next =>
    obtain ⟨σ', H', I', q⟩ := q
    exact h2 pins s1 σ' H' D I' q
  | ret v => exact q
  | brk => exact q
  | cont => exact q
theorem psa_expr (he : PEA X b0 e te) (hs : swapsWith e none pos.line X.env = pure false := by rfl) : PSA X b0 (.Expr e pos) (tDrop te) := by
  intro pins s σ H D I h
  exact ks_wpAt_Expr_any (ks_wpAt_mono (he pins s σ H _ I h) (fun v s1 ⟨x, H1, I1, r1, q1⟩ => ⟨σ, H1, I1, q1⟩) fun _ _ x => x) I.quiet hs
theorem psa_ret (he : PEA X b0 e te) : PSA X b0 (.Return (some e) pos) (tRet te) := by
  intro pins s σ H D I h
  exact ks_wpAt_Return_some (ks_wpAt_mono (he pins s σ H _ I h) (fun v s1 ⟨x, H1, I1, r1, q1⟩ => ⟨x, σ, H1, I1, r1, q1⟩) fun _ _ x => x)
theorem psa_set {i : Nat} {x : Str} {pos' : Pos} (hN : X.N.Nodup) (hi : X.N[i]? = some x) (hx : Loc X.env.scope x) (he : PEA X b0 e te) (hs : swapsWith e (some (.Name x pos')) pos.line X.env = pure false := by rfl) (hf : X.fn x = true ∨ X.env.scope.names.lookup x = some .local := by first | exact .inl rfl | exact .inr rfl | assumption) :
    PSA X b0 (.Assign [.Name x pos'] e pos) (tAsg te (gName i)) := by
  intro pins s σ H D I h
  refine ks_wpAt_Assign_Name (ks_wpAt_mono (he pins s σ H _ I h) (fun v s1 ⟨y, H1, I1, r1, q1⟩ => ?_) fun _ _ x => x) hs
  exact store_ok I1 hN hi hx r1 (fun s2 I2 => ⟨_, H1, I2, q1⟩) hf
end
/-- what the text says of the def that runs: its class D, its cell, its code -/
structure SupT (X : Cx) (D : Addr) (sf : Str) : Prop where
  gl : Gl X "super"
  no : X.mg "super" = none
  kc : X.env.kindOf "__class__" = some .free
  cell : ∃ (cc : Addr) (cl : Value) (cld : Option Addr) (csl : Array (Option Value)), X.env.cells.lookup ("__class__" : Str) = some cc ∧ X.K.lookup cc = some ⟨cl, cld, .cell (some (.ref D)), csl⟩
  fn : ∃ (f : Addr) (oc : Value) (od : Option Addr) (fd : FuncData) (osl : Array (Option Value)) (ar : Arg), X.env.func = some f ∧ X.K.lookup f = some ⟨oc, od, .func fd, osl⟩ ∧ (fd.params.posonlyargs ++ fd.params.args).head? = some ar ∧ ar.arg = sf
  code : ∃ (cda : Addr) (ccl : Value) (cdd : Option Addr) (vs : Array Value) (ccs : Array (Option Value)) (file : Str) (tf : Tok), X.env.code = .ref cda ∧ X.K.lookup cda = some ⟨ccl, cdd, .fields vs, ccs⟩ ∧ vs[2]? = some (.str file tf) ∧ ((X.prog.main.file : Str) == file) = true
  top : (X.prog.main.scope.names.lookup ("super" : Str)).isSome = false
  cls : (PySem.W.clsIn X.K D).isSome = true
  at0 : X.N[0]? = some sf
  vis : X.env.scope.names.lookup sf = some .local
/-- what it says of an object's class C, for the name m: the def at f2 -/
structure SupM (K : PySem.W.Frag) (D C : Addr) (m : Str) (f2 : Addr) : Prop where
  sub : PySem.W.mroIn K C (.ref D) = some true
  sup : PySem.W.ks_superIn K C D m = some (some (.ref f2))
  ty : PySem.W.typeIn K (.ref f2) = some (.type "function")
  op : PySem.W.nsIn K cStatics "thirdparty.any" = some none
  fi : PySem.W.fnIn K f2 = true
  nm : (m == ("__class__" : Str)) = false
def tSup (C : Addr) (sp : Sp) (E : XK) (t : TA) : TE := fun σ H Q => ∃ a dx fs, σ[0]? = some (some (.ref a)) ∧ H a = some (.ins C dx fs) ∧ t σ H fun vs H2 => sp (.ref a :: vs) H2 Q E
section
variable {X : Cx} {b0 : List Stmt} {D C f2 : Addr} {sf m : Str} {k : Nat} {sp : Sp} {E : XK} {e : Expr} {es : List Expr} {p0 p1 apos pos : Pos} {t : TA}
theorem ne_cls {h : Heap} {K : PySem.W.Frag} {x C : Addr} {ox : Obj} {odx : Option Obj} (X : K.In h) (I : PySem.W.InstAt h x ox C odx) (hc : (PySem.W.clsIn K C).isSome = true) : x ≠ C := by
  obtain ⟨cd, hcd⟩ := Option.isSome_iff_exists.mp hc
  exact PySem.W.ks_ne X I hcd
theorem pea_super (T : SupT X D sf) (M : SupM X.K D C m f2) (F : FnR X.prog X.w X.K X.mg X.base CX0 k f2 sp) (hr : Room k X.A) (ha : PA X (e :: es) t)
    (hst : starEach (e :: es) X.env = (false, eval e X.env) :: starEach es X.env := by rfl) (hpl : (backTo pos (starEach es X.env)).any (·.1) = false := by rfl)
    (hkw : (backToKw pos (keywordEach [] X.env)) = [] := by rfl)
    {pl : Sem Bool} (he : eval (.Call (.Attribute (.Call (.Name "super" p0) [] [] p1) m apos) (e :: es) [] pos) X.env = (do
      let ov ← attributeBase (.Call (.Name "super" p0) [] [] p1) m X.env (eval (.Call (.Name "super" p0) [] [] p1) X.env)
      standAt apos.atName
      let (f, first) ← holding [ov] (getMethod ov m pl)
      callWith pos f first (backTo pos (starEach (e :: es) X.env)) []) := by rfl) :
    PEA X b0 (.Call (.Attribute (.Call (.Name "super" p0) [] [] p1) m apos) (e :: es) [] pos) (tSup C sp (fun _ _ _ => False) t) := by
  intro pins s σ H Q I ⟨a, dx, fs, h0, ea, h⟩
  obtain ⟨mA, O, _⟩ := ins_get I.hok ea
  obtain ⟨od, J, _⟩ := O.look
  obtain ⟨cc, cl, cld, csl, hcl, hcell⟩ := T.cell
  obtain ⟨f, oc, od', fd, osl, ar, hfu, hf, hp, har⟩ := T.fn
  obtain ⟨cda, ccl, cdd, vs, ccs, file, tf, hco, hcode, hvs, hfile⟩ := T.code
  obtain ⟨cdD, hcD⟩ := Option.isSome_iff_exists.mp T.cls
  have hC : (PySem.W.clsIn X.K C).isSome = true := by
    have z := M.sub
    unfold PySem.W.mroIn at z
    cases e : PySem.W.clsIn X.K C with
    | none => rw [e] at z; cases z
    | some c => rfl
  have ne : a ≠ C := ne_cls I.kIn J hC
  obtain ⟨oD, hD1, hD2⟩ : ∃ oD, s.heap.get? D = some oD ∧ oD.data = .cls cdD := by
    unfold PySem.W.clsIn at hcD
    split at hcD
    · rename_i c d cd' sl ho
      cases hcD
      exact ⟨_, I.kIn _ _ ho, rfl⟩
    · cases hcD
  refine ks_wpAt_MethodCall (pl := pl) (ks_wpAt_super_base T.gl T.kc M.nm hfu (I.kIn _ _ hf) rfl hp hco (I.kIn _ _ hcode) rfl hvs hfile T.top ?_) he
  obtain ⟨mb, h1, h2⟩ := I.mod.blt
  refine PySem.W.ks_loadName_global I.ok.kind T.gl (Calls.loadGlobal_builtin (by rw [I.ok.glob]; exact I.mod.glob.keeps I.bk) T.no (by rw [I.ok.blt]; exact h1.keeps I.bk) ((h2 "super" (by decide)).trans (by first | boot_by_name | rfl | kernel_rfl)) ⟨rfl, ?_⟩)
  refine wpAny_loadName_free I.ok.kind T.kc hcl ⟨_, I.kIn _ _ hcell, rfl⟩ ?_
  rw [har]
  obtain ⟨ml, hn, hl⟩ := I.loc
  obtain ⟨u, ru, lu⟩ := hl 0 sf (.ref a) T.at0 h0 (.inl T.vis)
  obtain rfl : u = Value.ref a := ru
  have hm : ml sf = some (.ref a) := by
    rcases lu with ⟨_, z⟩ | ⟨z, _⟩
    · exact z
    · have v : X.env.kindOf sf = some .local := T.vis
      rw [v] at z
      rcases z with z | z <;> cases z
  refine wpAny_loadName_local I.ok.kind T.vis hn hm ?_
  refine ks_wpAny_isType_cls hD1 hD2 ⟨rfl, ?_⟩
  refine ks_wpAny_call_super hD1 hD2 J.at_ J.cls (fun c e => ?_) (PySem.W.looks_mroIn I.kIn M.sub) (fun h' e k => ?_)
  · have := J.no
    unfold PySem.W.notCls at this
    rw [e] at this
    exact Bool.noConfusion this
  have I1 : Inv X pins σ H { s with heap := h', toks := s.toks } := I.kept k
  obtain ⟨cd, hcC⟩ := Option.isSome_iff_exists.mp hC
  have hsup := M.sup
  unfold PySem.W.ks_superIn at hsup
  rw [hcC] at hsup
  obtain ⟨of, hof, hofc⟩ : ∃ of, h'.get? f2 = some of ∧ of.cls = .type "function" := by
    have ht' : (X.K.lookup f2).map (·.cls) = some (.type "function") := M.ty
    cases z : X.K.lookup f2 with
    | none => rw [z] at ht'; cases ht'
    | some of => rw [z] at ht'; exact ⟨of, I1.kIn _ _ z, Option.some.inj ht'⟩
  obtain ⟨hh, g, d, tk, os⟩ := s
  refine ks_wpAny_getMethod_super e (PySem.W.looks_opaque I1.kIn M.op) (l₀ := cd.mro) ?_ rfl I1.kIn hsup hof hofc ne M.nm ?_
  · exact fun A Q E s k q => wpAny_bind ((PySem.W.looks_clsIn I1.kIn hcC) A _ E s k (wpAny_pure q))
  have I2 : Inv X ((h'.objs.size, PySem.W.methodObj (.ref f2) (.ref a)) :: pins) σ H ⟨h'.push (PySem.W.methodObj (.ref f2) (.ref a)), g, d, tk + 1, os⟩ :=
    ClX.pin_new I1 (fun _ _ z => Heap.get?_push_of_some _ z) (Nat.le_refl _) (Heap.get?_push_size h' rfl) (fun v z => nomatch z)
  refine ClX.callwith_cm I2 (ClX.base_none I1 (Nat.le_refl _)) M.fi (thn (ha.run pos _ _ σ H _ I2 h) fun us s3 ⟨vs, H2, I3, rv, q2⟩ => ⟨⟨ClX.pin_at I3, I3.kIn⟩, ?_⟩) hst hpl
  exact ClX.run_cm F hr (fun _ _ _ _ _ _ _ z => nomatch z) I3 rv q2
end
structure FunS (P : Program) (K : PySem.W.Frag) (mg : Str → Option Value) (x qual : Str) (st : Stmt) (f : Addr) (fd : FuncData) (D cda cc : Addr) : Prop where
  ex : ∃ (oc : Value) (od : Option Addr) (kV doc pm : Value) (an : Option Addr) (ct : Value) (osl : Array (Option Value)),
    fd = PySem.W.ksFn x qual (defArgs st) (defBody st) (defScope st) .none kV doc pm an (.ref cda) ct cc ∧ K.lookup f = some ⟨oc, od, .func fd, osl⟩ ∧ PySem.W.codeIn K (.ref cda) qual = true
  cell : ∃ (cl : Value) (cld : Option Addr) (csl : Array (Option Value)), K.lookup cc = some ⟨cl, cld, .cell (some (.ref D)), csl⟩
  code : ∃ (ccl : Value) (cdd : Option Addr) (vs : Array Value) (ccs : Array (Option Value)) (file : Str) (tf : Tok), K.lookup cda = some ⟨ccl, cdd, .fields vs, ccs⟩ ∧ vs[2]? = some (.str file tf) ∧ ((P.main.file : Str) == file) = true
  top : (P.main.scope.names.lookup ("super" : Str)).isSome = false
  no : mg "super" = none
  cls : (PySem.W.clsIn K D).isSome = true
abbrev nfS (x qual : Str) (st : Stmt) (cda cc : Addr) : NdefX.NF := ⟨x, qual, defArgs st, defBody st, defScope st, [("__class__", cc)], cda⟩
theorem cells_cls {K : PySem.W.Frag} {P : Program} {w : World} {mg : Str → Option Value} {base : Heap} {A : Around} {outer : List PySem.Env} {s : Shared} {H : Hp} {cc : Addr} {cl : Value} {cld : Option Addr} {csl : Array (Option Value)} {v : Value}
    (e0 : Env0 P w K mg base A outer s H) (h : K.lookup cc = some ⟨cl, cld, .cell (some v), csl⟩) : NdefX.CellsAt [(("__class__" : Str), cc)] ["__class__"] [none] s.heap H := by
  obtain ⟨b1, b2⟩ := e0.bs cc _ (e0.mod.kin _ _ h)
  have one : ∀ (y : Str) (c : Addr), List.lookup y [(("__class__" : Str), cc)] = some c → y = "__class__" ∧ c = cc := fun y c e => by
    rw [List.lookup_cons] at e
    cases z : y == ("__class__" : Str) with
    | true => rw [z] at e; cases e; exact ⟨beq_iff_eq.mp z, rfl⟩
    | false => rw [z] at e; cases e
  refine ⟨rfl, fun y c e => ?_, fun x y c e1 e2 => (one x c e1).1.trans (one y c e2).1.symm, fun i y e => ?_⟩
  · obtain ⟨_, rfl⟩ := one y c e
    exact ⟨b2, _, _, b1, rfl⟩
  · cases i with
    | zero =>
      cases e
      exact ⟨cc, rfl, fun v e => by cases e⟩
    | succ i => simp at e
theorem start_eq {N ps : List Str} {sc : Scope} {vs : List V} (S : NdefX.NScope N ps ["__class__"] sc) (hl : vs.length = ps.length) : NdefX.startF N vs [none] = L2.start N vs := by
  have hpl : ps.length + 1 ≤ N.length := by
    have q := congrArg List.length S.pre
    rw [List.length_take, List.length_append] at q
    simp at q
    omega
  unfold NdefX.startF L2.start
  congr 1
  obtain ⟨n, e⟩ : ∃ n, N.length - vs.length = n + 1 := ⟨N.length - vs.length - 1, by omega⟩
  rw [e]
  rfl
def DSsA (X : Cx) (b0 : List Stmt) (sts : List Stmt) (t : DTS) : Prop := PSsA X b0 sts (lS X.kk t)
def DSA (X : Cx) (b0 : List Stmt) (st : Stmt) (t : DTS) : Prop := PSA X b0 st (lS X.kk t)
def DEA (X : Cx) (b0 : List Stmt) (e : Expr) (t : DTE) : Prop := PEA X b0 e (lE X.kk t)
theorem _root_.Sv.PSsA.nox {X : Cx} {b0 sts : List Stmt} {t : TS} (h : PSsA X.nox b0 sts t) : PSsA X b0 sts t := fun pins s σ H D I hw =>
  ks_wpAt_mono (h pins s σ H D (I.wish _) hw) (fun f s' hq => by
    cases f with
    | next => obtain ⟨σ', H', I', q⟩ := hq; exact ⟨σ', H', I'.wish _, q⟩
    | brk => obtain ⟨σ', H', I', q⟩ := hq; exact ⟨σ', H', I'.wish _, q⟩
    | cont => obtain ⟨σ', H', I', q⟩ := hq; exact ⟨σ', H', I'.wish _, q⟩
    | ret u => obtain ⟨v, σ', H', I', r, q⟩ := hq; exact ⟨v, σ', H', I'.wish _, r, q⟩) fun _ _ z => z.elim
section
variable {P : Program} {w : World} {K : PySem.W.Frag} {mg : Str → Option Value} {base : Heap}
theorem fn_oS {x qual : Str} {st : Stmt} {f : Addr} {fd : FuncData} {N ps : List Str} {k n : Nat} {B : DTS} {D cda cc : Addr} (F : FunS P K mg x qual st f fd D cda cc) (S : NdefX.NScope N ps ["__class__"] (defScope st)) (hn : ps.length = n)
    (hbody : ∀ (A : Around) (outer : List PySem.Env) (s : Shared) (H : Hp) (E : XK), Room k (A.deeper (NdefX.envF (nfS x qual st cda cc) f s.heap.objs.size)) →
      DSsA (NdefX.ncx CX0 P w K mg base N (nfS x qual st cda cc) f A outer s H E).nox (defBody st) (defBody st) B) : FnOk P w K mg base CX0 (k + 1) f fd ps (lP ⟨P, w, K⟩ n (dFn N.length B)) := by
  obtain ⟨oc, od, kV, doc, pm, an, ct, osl, rfl, lk, hcd⟩ := F.ex
  obtain ⟨cl, cld, csl, hcell⟩ := F.cell
  refine ⟨fun vs H Q E h => by rw [hn]; exact h.1, fun A outer s H args us vs Q E hr e0 hb r hsp => ?_⟩
  have hl : vs.length = ps.length := by rw [hn]; exact hsp.1
  have KX : K.In s.heap := e0.mod.kin.keeps fun b o e => (e0.bs b o e).1
  have lim : s.heap.NoLimit := e0.mod.nolimit.keeps fun b o e => (e0.bs b o e).1
  refine ks_codeAny_call_defAt hr.depth (KX _ _ lk) rfl lim (PySem.W.codeRec_of KX hcd) rfl hb S.nocell (fun ⟨m, _⟩ hy => S.par m (List.of_mem_zip hy).1) (fun h₀ hns kp => ?_) S.co S.gen S.kind
  have I : Inv (NdefX.ncx CX0 P w K mg base N (nfS x qual st cda cc) f A outer s H E) [] (NdefX.startF N vs [none]) H { s with heap := h₀, toks := s.toks + (ps.zip us).length } := NdefX.inv_startN S hr.hd e0 hl r (cells_cls e0 hcell) hns kp
  rw [start_eq S hl] at I
  obtain ⟨_, ds, S0, R, rd, s1, q, kk⟩ := hsp
  have hq := (hbody A outer s H E (hr.deeper _)).nox [] _ (L2.start N vs) H { nx := fun _ H' => Q .non H', rt := Q } I
    ⟨_, S0, _, rs_start rd s1, q, fun env' S' σ' H' q' r' e' => kk _ _ _ _ q' r'.sto .non e', fun d S' v H' q' s' r' e' => kk _ _ _ _ q' s' r' e', fun _ _ _ _ q' => q'.elim, fun _ _ _ _ q' => q'.elim⟩
  refine ks_wpAt_mono hq (fun fl s' hs => ?_) fun e s' hs => hs
  have fin : ∀ {σ' : L2.St} {H' : Hp} {v : V} {u : Value}, Inv (NdefX.ncx CX0 P w K mg base N (nfS x qual st cda cc) f A outer s H E) [] σ' H' s' → L2.RelV v u → Q v H' → CE outer P w H s Q u s' :=
    fun {σ' H' v u} J rv q => ⟨v, H', J.os, J.bare, J.base, J.hok, rv, q⟩
  cases fl with
  | ret u =>
    obtain ⟨v, σ', H', J, rv, q⟩ := hs
    exact fin J rv q
  | next =>
    obtain ⟨σ', H', J, q⟩ := hs
    exact fin (v := V.non) (u := Value.none) J rfl q
  | brk =>
    obtain ⟨_, _, _, q⟩ := hs
    exact False.elim q
  | cont =>
    obtain ⟨_, _, _, q⟩ := hs
    exact False.elim q
end
section
variable {X : Cx} {b0 : List Stmt} {st : Stmt} {rest : List Stmt} {t u : DTS} {e : Expr} {te : DTE} {pos : Pos}
theorem _root_.Sv.PEA.of {e : Expr} {t t' : TE} (h : PEA X b0 e t) (q : ∀ σ H Q, t' σ H Q → t σ H Q) : PEA X b0 e t' := fun pins s σ H Q I w => h pins s σ H Q I (q σ H Q w)
theorem _root_.Sv.PSA.of {e : Stmt} {t t' : TS} (h : PSA X b0 e t) (q : ∀ σ H Q, t' Q σ H → t Q σ H) : PSA X b0 e t' := fun pins s σ H Q I w => h pins s σ H Q I (q σ H Q w)
theorem _root_.Sv.PSsA.of {e : List Stmt} {t t' : TS} (h : PSsA X b0 e t) (q : ∀ σ H Q, t' Q σ H → t Q σ H) : PSsA X b0 e t' := fun pins s σ H Q I w => h pins s σ H Q I (q σ H Q w)
theorem dssA_of (h : DSs X rest t) : DSsA X b0 rest t := pssa_of h.run
theorem dsA_of (h : DS X st t) : DSA X b0 st t := psa_of h.run
theorem dssA_cons (h1 : DSA X b0 st t) (h2 : DSsA X b0 rest u) : DSsA X b0 (st :: rest) (dSeq t u) := PSsA.of (pssa_cons h1 h2) fun _ _ _ => lS_seq
theorem dssA_nil : DSsA X b0 [] dNext := dssA_of dss_nil
theorem dsA_expr (he : DEA X b0 e te) (hs : swapsWith e none pos.line X.env = pure false := by rfl) : DSA X b0 (.Expr e pos) (dDrop te) :=
  PSA.of (psa_expr he hs) fun σ H B ⟨env, S, C, rs, h, k, _⟩ => ⟨env, S, _, rs, h, fun d S1 v H1 q s1 r1 e1 => k _ _ _ _ q (rs.ext e1 s1) e1⟩
theorem dsA_ret (he : DEA X b0 e te) : DSA X b0 (.Return (some e) pos) (dRet te) :=
  PSA.of (psa_ret he) fun σ H B ⟨env, S, C, rs, h, _, k, _⟩ => ⟨env, S, _, rs, h, fun d S1 v H1 q s1 r1 e1 => k _ _ _ _ q s1 r1 e1⟩
theorem dsA_set {i : Nat} {x : Str} {pos' : Pos} (hN : X.N.Nodup) (hi : X.N[i]? = some x) (hx : Loc X.env.scope x) (he : DEA X b0 e te) (hs : swapsWith e (some (.Name x pos')) pos.line X.env = pure false := by rfl) (hf : X.fn x = true ∨ X.env.scope.names.lookup x = some .local := by first | exact .inl rfl | exact .inr rfl | assumption) :
    DSA X b0 (.Assign [.Name x pos'] e pos) (dAsg te (dgName i)) :=
  PSA.of (psa_set hN hi hx he hs hf) fun σ H B ⟨env, S, C, rs, h, k, _⟩ => ⟨env, S, _, rs, h, fun d S1 v H1 q s1 r1 e1 => k _ _ _ _ q ((rs.ext e1 s1).set i r1) e1⟩
/-- super().m(e, ..): the object's class is one of ns -/
def dSup (n : Nat) (ns : List Str) (r : DRC) (t : DTA) : DTE := fun env S R => ∃ a cn fs, env[0]? = some (some (.ref a)) ∧ S a = some (.ins cn fs) ∧ cn ∈ ns ∧ t env S fun ds S1 => decide (ds.length + 1 = n) = true ∧ r (.ref a :: ds) S1 R
structure DSup (P : Program) (w : World) (K : PySem.W.Frag) (mg : Str → Option Value) (base : Heap) (k : Nat) (D : Addr) (cn m : Str) (n : Nat) (r : DRC) : Prop where
  ex : ∃ C f2, ClsAt K cn C ∧ SupM K D C m f2 ∧ FnR P w K mg base CX0 k f2 (lP ⟨P, w, K⟩ n r)
/-- tables by classes -/
inductive AllP {α : Type} (p : α → Prop) : List α → Prop
  | nil : AllP p []
  | cons {x : α} {l : List α} : p x → AllP p l → AllP p (x :: l)
theorem AllP.mem {α : Type} {p : α → Prop} : ∀ {l : List α} {x : α}, AllP p l → x ∈ l → p x
  | _, _, .nil, h => by cases h
  | _, _, .cons h t, m => by
    cases m with
    | head => exact h
    | tail _ m => exact AllP.mem t m
theorem DSup.mono {P : Program} {w : World} {K : PySem.W.Frag} {mg : Str → Option Value} {base : Heap} {j k n : Nat} {D : Addr} {cn m : Str} {r : DRC} (d : DSup P w K mg base j D cn m n r) (h : j ≤ k) : DSup P w K mg base k D cn m n r := by
  obtain ⟨C, f, h1, h2, h4⟩ := d.ex
  exact ⟨C, f, h1, h2, h4.mono h⟩
theorem supT_of {P : Program} {w : World} {K : PySem.W.Frag} {mg : Str → Option Value} {base : Heap} {N : List Str} {x qual : Str} {st : Stmt} {f : Addr} {fd : FuncData} {D cda cc : Addr} {A : Around} {outer : List PySem.Env} {s : Shared} {H : Hp} {E : XK} (F : FunS P K mg x qual st f fd D cda cc)
    (gl : (defScope st).names.lookup ("super" : Str) = some .globalImplicit) (kc : (defScope st).names.lookup ("__class__" : Str) = some .free) (hp : ((defArgs st).posonlyargs ++ (defArgs st).args).head?.map (·.arg) = some ("self" : Str)) (at0 : N[0]? = some ("self" : Str)) (vis : (defScope st).names.lookup ("self" : Str) = some .local) :
    SupT (NdefX.ncx CX0 P w K mg base N (nfS x qual st cda cc) f A outer s H E).nox D "self" := by
  obtain ⟨oc, od, kV, doc, pm, an, ct, osl, rfl, lk, hcd⟩ := F.ex
  obtain ⟨cl, cld, csl, hcell⟩ := F.cell
  obtain ⟨ccl, cdd, vs, ccs, file, tf, h1, h2, h3⟩ := F.code
  obtain ⟨ar, ha, hb⟩ := Option.map_eq_some_iff.mp hp
  exact ⟨gl, F.no, kc, ⟨cc, cl, cld, csl, rfl, hcell⟩, ⟨f, oc, od, _, osl, ar, rfl, lk, ha, hb⟩, ⟨cda, ccl, cdd, vs, ccs, file, tf, rfl, h1, h2, h3⟩, F.top, F.cls, at0, vis⟩
theorem deA_super {D : Addr} {sf m : Str} {k n : Nat} {ns : List Str} {r : DRC} {es : List Expr} {p0 p1 apos : Pos} {tl : DTA} (T : SupT X D sf) (M : AllP (fun cn => DSup X.prog X.w X.K X.mg X.base k D cn m n r) ns) (hr : Room k X.A) (ha : DA X (e :: es) tl)
    (hst : starEach (e :: es) X.env = (false, eval e X.env) :: starEach es X.env := by rfl) (hpl : (backTo pos (starEach es X.env)).any (·.1) = false := by rfl)
    (hkw : (backToKw pos (keywordEach [] X.env)) = [] := by rfl)
    {pl : Sem Bool} (he : eval (.Call (.Attribute (.Call (.Name "super" p0) [] [] p1) m apos) (e :: es) [] pos) X.env = (do
      let ov ← attributeBase (.Call (.Name "super" p0) [] [] p1) m X.env (eval (.Call (.Name "super" p0) [] [] p1) X.env)
      standAt apos.atName
      let (f, first) ← holding [ov] (getMethod ov m pl)
      callWith pos f first (backTo pos (starEach (e :: es) X.env)) []) := by rfl) :
    DEA X b0 (.Call (.Attribute (.Call (.Name "super" p0) [] [] p1) m apos) (e :: es) [] pos) (dSup n ns r tl) := by
  intro pins s σ H Q I h
  obtain ⟨env, S, R, rs, ⟨a, cn, fs, h0, hs, hm, h⟩, k'⟩ := h
  obtain ⟨C, f2, hC, hM, F⟩ := (M.mem hm).ex
  obtain ⟨v, hv, rv⟩ := rs.slot 0 _ h0
  cases rv
  obtain ⟨C', dx, gs, hC', ea, rf⟩ := rs.sto a _ hs
  obtain rfl := hC.eq hC'
  refine pea_super T hM F hr ha.run hst hpl hkw he pins s σ H Q I ⟨a, dx, gs, hv, ea, env, S, _, rs, h, fun ds S1 vs H1 ⟨hl, q⟩ s1 r1 e1 => ?_⟩
  refine ⟨by rw [List.length_cons, ← r1.length]; exact of_decide_eq_true hl, .ref a :: ds, S1, R, .cons (.ref a) r1, s1, q, fun z S2 w H2 q2 s2 r2 e2 => k' _ _ _ _ q2 s2 r2 (e1.trans e2)⟩
end
end Sv
set_option autoImplicit false
namespace Sv
open PySem PySem.Spec PyProof.Rows L2
section facts
variable (P : Program) (w : World) (K : PySem.W.Frag) (mg : Str → Option Value) (base : Heap)
/-- the field f of the class cn -/
structure ClsF (cn f : Str) : Prop where
  ex : ∃ C, ClsAt K cn C ∧ Cls K C ∧ NoAttr K C f
/-- the method m of the class cn, n values with the object -/
structure DMet (k : Nat) (cn m : Str) (n : Nat) (r : DRC) : Prop where
  ex : ∃ C f, ClsAt K cn C ∧ Cls K C ∧ Meth K C m f ∧ FnR P w K mg base CX0 k f (lP ⟨P, w, K⟩ n r)
/-- the class cn can be made -/
structure DMk (k : Nat) (cn : Str) (n : Nat) (r : DRC) : Prop where
  ex : ∃ C f, ClsAt K cn C ∧ Mk K C f ∧ mg cn = some (.ref C) ∧ FnR P w K mg base CX0 k f (lP ⟨P, w, K⟩ n r)
/-- a property -/
structure DPr (k : Nat) (cn f : Str) (r : DRC) : Prop where
  ex : ∃ C p g fd ps, ClsAt K cn C ∧ Cls K C ∧ PropOf K C f p g ∧ FnOk P w K mg base CX0 k g fd ps (lP ⟨P, w, K⟩ 1 r) ∧ Binds K fd ps []
/-- a class's constant, a text -/
structure DCv (cn f x : Str) : Prop where
  ex : ∃ C mc u, mg cn = some (.ref C) ∧ ClX.CRead K C mc ∧ ClX.CVal K C mc f (.str x) u
/-- .. read through an instance -/
structure DCi (cn f x : Str) : Prop where
  ex : ∃ C u, ClsAt K cn C ∧ Cls K C ∧ Con K C f (.str x) u
structure IsOk (C : Addr) : Prop where
  ha : PySem.W.findIn K (.ref C) "__class__" = some (some (.builtin "object.__class__"))
  hn : PySem.W.specialIn K (.builtin "object.__class__") "__get__" = some (some (.builtin "getset_descriptor.__get__"))
  htk : PySem.W.takesIn K (.builtin "object.__class__") = some true
  hm : PySem.W.mroIn K C (.type "object") = some true
/-- whether an instance of cn is one of dn -/
structure DIs (cn dn : Str) (b : Bool) : Prop where
  ex : ∃ C Dd, ClsAt K cn C ∧ Cls K C ∧ IsOk K C ∧ mg dn = some (.ref Dd) ∧ PySem.W.kitOne K (.ref C) (.ref Dd) = some b
end facts
theorem DMet.mono {P : Program} {w : World} {K : PySem.W.Frag} {mg : Str → Option Value} {base : Heap} {j k n : Nat} {cn m : Str} {r : DRC} (d : DMet P w K mg base j cn m n r) (h : j ≤ k) : DMet P w K mg base k cn m n r := by
  obtain ⟨C, f, h1, h2, h3, h4⟩ := d.ex
  exact ⟨C, f, h1, h2, h3, h4.mono h⟩
theorem DPr.mono {P : Program} {w : World} {K : PySem.W.Frag} {mg : Str → Option Value} {base : Heap} {j k : Nat} {cn m : Str} {r : DRC} (d : DPr P w K mg base j cn m r) (h : j ≤ k) : DPr P w K mg base k cn m r := by
  obtain ⟨C, p, g, fd, ps, h1, h2, h3, h4, h5⟩ := d.ex
  exact ⟨C, p, g, fd, ps, h1, h2, h3, h4.mono h, h5⟩
theorem fnr_of {P : Program} {w : World} {K : PySem.W.Frag} {mg : Str → Option Value} {base : Heap} {k n : Nat} {f : Addr} {fd : FuncData} {ps : List Str} {r : DRC} (F : FnOk P w K mg base CX0 k f fd ps (lP ⟨P, w, K⟩ n r)) (hb : Binds K fd ps []) : FnR P w K mg base CX0 k f (lP ⟨P, w, K⟩ n r) :=
  (F.raw hb .nil).imp fun vs H Q E h => by rw [List.append_nil]; exact h
section
variable {X : Cx} {o e value : Expr} {es : List Expr} {to te tv : DTE} {tl : DTA} {f m : Str} {pos pos' apos tpos : Pos} {k n : Nat}
theorem st_ins {K : KK} {H : Hp} {S : Sto} (s : RelS K S H) {a : Addr} {cn : Str} {fs : List (Str × D)} (h : S a = some (.ins cn fs)) {C : Addr} (hC : ClsAt K.k cn C) :
    ∃ dx gs, H a = some (.ins C dx gs) ∧ RDf K H fs gs := by
  obtain ⟨C', dx, gs, hC', ea, rf⟩ := s a _ h
  obtain rfl := hC.eq hC'
  exact ⟨dx, gs, ea, rf⟩
/-- e.f, a field -/
def dFld (ns : List Str) (f : Str) (to : DTE) : DTE := fun env S R => to env S fun d S1 => ∃ a cn fs v, d = .ref a ∧ S1 a = some (.ins cn fs) ∧ cn ∈ ns ∧ fs.lookup f = some v ∧ R v S1
theorem de_fld {ns : List Str} (hF : AllP (fun cn => ClsF X.K cn f) ns) (ho : DE X o to) (hb : attributeBase o f X.env (eval o X.env) = eval o X.env := by rfl) : DE X (.Attribute o f pos) (dFld ns f to) := by
  refine ⟨(pe_fld ho.run hb).of fun σ H Q ⟨env, S, R, rs, h, k⟩ => ⟨env, S, _, rs, h, fun d S1 v H1 ⟨a, cn, fs, u, ed, hs, hm, hl, q⟩ s1 r1 e1 => ?_⟩⟩
  subst ed
  cases r1
  obtain ⟨C, hC, c, na⟩ := (hF.mem hm).ex
  obtain ⟨dx, gs, ea, rf⟩ := st_ins s1 hs hC
  obtain ⟨v, hv, rv⟩ := rf.look hl
  exact ⟨a, C, dx, gs, v, rfl, ea, c, na, hv, k _ _ _ _ q s1 rv e1⟩
/-- o.f = value -/
def dFSet (ns : List Str) (f : Str) (to tv : DTE) : DTS := fun C env S => tv env S fun v S1 => to env S1 fun d S2 => ∃ a cn fs, d = .ref a ∧ S2 a = some (.ins cn fs) ∧ cn ∈ ns ∧ decide (fs.length < 900) = true ∧ C.nx env (S2.put a (.ins cn (putFD f v fs)))
theorem ro_ins {K : KK} {H : Hp} {a C dx : Addr} {cn : Str} {fs : List (Str × D)} {gs : List (Str × V)} (hC : ClsAt K.k cn C) (ea : H a = some (.ins C dx gs)) (rf : RDf K H fs gs) : RO K H a (.ins cn fs) := ⟨C, dx, gs, hC, ea, rf⟩
theorem ds_fset {ns : List Str} (hF : AllP (fun cn => ClsF X.K cn f) ns) (ho : DE X o to) (hv : DE X value tv) (hs : swapsWith value (some (.Attribute o f pos')) pos.line X.env = pure false := by rfl) : DS X (.Assign [.Attribute o f pos'] value pos) (dFSet ns f to tv) := by
  refine ⟨(ps_fld ho.run hv.run hs).of fun σ H B ⟨env, S, C, rs, h, k, _⟩ => ⟨env, S, _, rs, h, fun v S1 y H1 q1 s1 r1 e1 => ⟨env, S1, _, rs.ext e1 s1, q1, fun d S2 x H2 ⟨a, cn, fs, ed, hs, hm, hl, q⟩ s2 r2 e2 => ?_⟩⟩⟩
  subst ed
  cases r2
  obtain ⟨C0, hC, c, na⟩ := (hF.mem hm).ex
  obtain ⟨dx, gs, ea, rf⟩ := st_ins s2 hs hC
  refine ⟨a, C0, dx, gs, rfl, ea, c, na, by rw [← rf.length]; have := of_decide_eq_true hl; omega, ?_⟩
  have ex : Ext H2 (upd H2 a (.ins C0 dx (putF f y gs))) := .put ea trivial
  have s3 : RelS X.kk (S2.put a (.ins cn (putFD f v fs))) (upd H2 a (.ins C0 dx (putF f y gs))) := s2.put ea trivial (ro_ins hC upd_same (((RDf.put (r1.ext e2) rf)).ext ex))
  exact k _ _ _ _ q ((rs.ext (e1.trans e2) s2).ext ex s3) (e1.trans (e2.trans ex))
/-- o.f += value, o.f -= value -/
def dFAug (ns : List Str) (f : Str) (to tv : DTE) (g : Int → Int → Int) : DTS := fun C env S => to env S fun d S1 => ∃ a cn fs i, d = .ref a ∧ S1 a = some (.ins cn fs) ∧ cn ∈ ns ∧ fs.lookup f = some (.int i) ∧
  tv env S1 fun y S2 => ∃ j fs', y = .int j ∧ S2 a = some (.ins cn fs') ∧ decide (fs'.length < 900) = true ∧ C.nx env (S2.put a (.ins cn (putFD f (.int (g i j)) fs')))
theorem ds_faug {ns : List Str} {op : Operator} {g : Int → Int → Int} {rd : V → V → Hp → VK → Prop} (hop : InOp X op rd) (hg : ∀ i j H Q, Q (.int (g i j)) H → rd (.int i) (.int j) H Q) (hF : AllP (fun cn => ClsF X.K cn f) ns) (ho : DE X o to) (hv : DE X value tv) :
    DS X (.AugAssign (.Attribute o f tpos) op value pos) (dFAug ns f to tv g) := by
  refine ⟨(ps_fldaug ho.run hv.run hop).of fun σ H B ⟨env, S, C, rs, h, k, _⟩ => ⟨env, S, _, rs, h, fun d S1 x H1 ⟨a, cn, fs, i, ed, hs, hm, hl, q⟩ s1 r1 e1 => ?_⟩⟩
  subst ed
  cases r1
  obtain ⟨C0, hC, c, na⟩ := (hF.mem hm).ex
  obtain ⟨dx, gs, ea, rf⟩ := st_ins s1 hs hC
  obtain ⟨v, hv, rv⟩ := rf.look hl
  cases rv
  refine ⟨a, C0, dx, gs, _, rfl, ea, c, na, hv, env, S1, _, rs.ext e1 s1, q, fun y S2 z H2 ⟨j, fs', ey, hs2, hl2, q2⟩ s2 r2 e2 => ?_⟩
  subst ey
  cases r2
  obtain ⟨dx', gs', ea', rf'⟩ := st_ins s2 hs2 hC
  refine hg i j _ _ ⟨dx', gs', ea', by rw [← rf'.length]; have := of_decide_eq_true hl2; omega, ?_⟩
  have ex : Ext H2 (upd H2 a (.ins C0 dx' (putF f (.int (g i j)) gs'))) := .put ea' trivial
  have s3 : RelS X.kk (S2.put a (.ins cn (putFD f (.int (g i j)) fs'))) (upd H2 a (.ins C0 dx' (putF f (.int (g i j)) gs'))) := s2.put ea' trivial (ro_ins hC upd_same (((RDf.put (.int _) rf')).ext ex))
  exact k _ _ _ _ q2 ((rs.ext (e1.trans e2) s2).ext ex s3) (e1.trans (e2.trans ex))
theorem ds_fadd {ns : List Str} (hF : AllP (fun cn => ClsF X.K cn f) ns) (ho : DE X o to) (hv : DE X value tv) : DS X (.AugAssign (.Attribute o f tpos) .Add value pos) (dFAug ns f to tv fun i j => i + j) :=
  ds_faug in_add (fun i j H Q q => ⟨i, j, rfl, rfl, q⟩) hF ho hv
/-- o.m(e, ..): by the object's class -/
def dMeth (ms : List (Str × DRC)) (m : Str) (n : Nat) (to : DTE) (t : DTA) : DTE := fun env S R => ∃ cn r, (cn, r) ∈ ms ∧ to env S fun d S1 => ∃ a fs, d = .ref a ∧ S1 a = some (.ins cn fs) ∧ fs.lookup m = none ∧ t env S1 fun ds S2 => decide (ds.length + 1 = n) = true ∧ r (.ref a :: ds) S2 R
theorem de_meth {ms : List (Str × DRC)} (hF : AllP (fun p => DMet X.prog X.w X.K X.mg X.base k p.1 m n p.2) ms) (hr : Room k X.A) (ho : DE X o to) (ha : DA X (e :: es) tl)
    (hst : starEach (e :: es) X.env = (false, eval e X.env) :: starEach es X.env := by rfl) (hpl : (backTo pos (starEach es X.env)).any (·.1) = false := by rfl)
    {pl : Sem Bool} (ht : eval (.Call (.Attribute o m apos) (e :: es) [] pos) X.env = (do
      let ov ← eval o X.env
      standAt apos.atName
      let (f, first) ← holding [ov] (getMethod ov m pl)
      callWith pos f first (backTo pos (starEach (e :: es) X.env)) (backToKw pos (keywordEach [] X.env))) := by rfl) :
    DE X (.Call (.Attribute o m apos) (e :: es) [] pos) (dMeth ms m n to tl) := by
  refine ⟨⟨fun pins s σ H Q I ⟨env, S, R, rs, ⟨cn, r, hm, h⟩, kk⟩ => ?_⟩⟩
  obtain ⟨C, f, hC, c, hme, F⟩ := (hF.mem hm).ex
  refine (pe_methR (pl := pl) (E := fun _ _ _ => False) ho.run c hme F hr (fun _ _ _ _ _ _ _ z => nomatch z) ha.run hst hpl ht).run pins s σ H Q I ⟨env, S, _, rs, h, fun d S1 v H1 ⟨a, fs, ed, hs, hl, q⟩ s1 r1 e1 => ?_⟩
  subst ed
  cases r1
  obtain ⟨dx, gs, ea, rf⟩ := st_ins s1 hs hC
  refine ⟨a, dx, gs, rfl, ea, rf.none hl, env, S1, _, rs.ext e1 s1, q, fun ds S2 vs H2 ⟨hz, q2⟩ s2 r2 e2 => ?_⟩
  exact ⟨by rw [List.length_cons, ← r2.length]; exact of_decide_eq_true hz, .ref a :: ds, S2, R, .cons (.ref a) r2, s2, q2, fun z S3 u H3 q3 s3 r3 e3 => kk _ _ _ _ q3 s3 r3 (e1.trans (e2.trans e3))⟩
/-- C(e, ..) -/
def dMake (cn : Str) (n : Nat) (r : DRC) (t : DTA) : DTE := fun env S R => t env S fun ds S1 => decide (ds.length + 1 = n) = true ∧ ∀ p, S1 p = none → r (.ref p :: ds) (S1.put p (.ins cn [])) fun d S2 => d = .non ∧ R (.ref p) S2
theorem de_make {r : DRC} {cn : Str} {p : Pos} (F : DMk X.prog X.w X.K X.mg X.base k cn n r) (hr : Room (k + 1) X.A) (hg : Gl X cn) (ha : DA X (e :: es) tl) (hdb : (cn == ("__debug__" : Str)) = false := by decide)
    (he : starEach (e :: es) X.env = (false, eval e X.env) :: starEach es X.env := by rfl) (hpl : (backTo pos (starEach es X.env)).any (·.1) = false := by rfl) : DE X (.Call (.Name cn p) (e :: es) [] pos) (dMake cn n r tl) := by
  obtain ⟨C, f, hC, M, hm, Fn⟩ := F.ex
  refine ⟨(StX.pe_makeR (E := fun _ _ _ => False) M Fn hr hg hm (fun _ _ _ _ _ _ _ z => nomatch z) ha.run hdb he hpl).of fun σ H Q ⟨env, S, R, rs, h, kk⟩ => ⟨env, S, _, rs, h, fun ds S1 vs H1 ⟨hz, q⟩ s1 r1 e1 => ?_⟩⟩
  intro x dx nx ndx hne
  have ex1 : Ext H1 (upd H1 dx (.own x)) := .new ndx
  have nx' : upd H1 dx (.own x) x = none := by rw [upd_ne (Ne.symm hne)]; exact nx
  have ex2 : Ext (upd H1 dx (.own x)) (upd (upd H1 dx (.own x)) x (.ins C dx [])) := .new nx'
  have s2 : RelS X.kk (S1.put x (.ins cn [])) (upd (upd H1 dx (.own x)) x (.ins C dx [])) := (s1.new ndx).lay nx' (ro_ins hC upd_same trivial)
  refine ⟨by rw [List.length_cons, ← r1.length]; exact of_decide_eq_true hz, .ref x :: ds, _, _, .cons (.ref x) (r1.ext (ex1.trans ex2)), s2, q x (s1.fresh nx), fun z S3 u H3 ⟨ez, q3⟩ s3 r3 e3 => ?_⟩
  subst ez
  cases r3
  exact ⟨rfl, kk _ _ _ _ q3 s3 (.ref x) (e1.trans (ex1.trans (ex2.trans e3)))⟩
end
def clsB (s : Stmt) : List Stmt := match s with
  | .ClassDef _ _ _ b _ _ _ _ _ _ _ => b
  | _ => []
section
variable {P : Program} {w : World} {K : PySem.W.Frag} {mg : Str → Option Value} {base : Heap} {k n : Nat} {cn dn m f x : Str} {C Dd fa p : Addr} {fd : FuncData} {ps : List Str} {r : DRC}
theorem DMet.of (hC : PySem.W.nsIn K mainGlobals cn = some (some (.ref C))) (c : Cls K C) (ha : PySem.W.findIn K (.ref C) m = some (some (.ref fa))) (hf : PySem.W.isFn K (.ref fa) = true) (hk : PySem.W.keepIn K (.ref fa) = true)
    (F : FnOk P w K mg base CX0 k fa fd ps (lP ⟨P, w, K⟩ n r)) (hb : Binds K fd ps []) : DMet P w K mg base k cn m n r := ⟨C, fa, hC, c, ⟨ha, hf, hk⟩, fnr_of F hb⟩
theorem DMk.of (hC : PySem.W.nsIn K mainGlobals cn = some (some (.ref C))) (hm : mg cn = some (.ref C)) (ha : PySem.W.makesIn K C = true) (hi : PySem.W.findIn K (.ref C) "__init__" = some (some (.ref fa))) (hf : PySem.W.isFn K (.ref fa) = true) (hk : PySem.W.keepIn K (.ref C) = true)
    (F : FnOk P w K mg base CX0 k fa fd ps (lP ⟨P, w, K⟩ n r)) (hb : Binds K fd ps []) : DMk P w K mg base k cn n r := ⟨C, fa, hC, ⟨ha, hi, hf, hk⟩, hm, fnr_of F hb⟩
theorem DPr.of {rest : List Value} (hC : PySem.W.nsIn K mainGlobals cn = some (some (.ref C))) (c : Cls K C) (ha : PySem.W.findIn K (.ref C) f = some (some (.ref p))) (hg : PySem.W.specialIn K (.ref p) "__get__" = some (some (.builtin "property.__get__"))) (ht : PySem.W.takesIn K (.ref p) = some true)
    (hr : PySem.W.recIn K p "property" = some (.ref fa :: rest)) (F : FnOk P w K mg base CX0 k fa fd ps (lP ⟨P, w, K⟩ 1 r)) (hb : Binds K fd ps []) : DPr P w K mg base k cn f r := ⟨C, p, fa, fd, ps, hC, c, ⟨ha, hg, ht, rest, hr⟩, F, hb⟩
theorem ClsF.of (hC : PySem.W.nsIn K mainGlobals cn = some (some (.ref C))) (c : Cls K C) (h : PySem.W.findIn K (.ref C) f = some none) : ClsF K cn f := ⟨C, hC, c, h⟩
theorem DCv.of {mc : Value} {t : Tok} (hm : mg cn = some (.ref C)) (h1 : PySem.W.readsIn K C mc = true) (h2 : PySem.W.specialIn K (.ref C) "__getattribute__" = some (some (.builtin "type.__getattribute__"))) (h3 : PySem.W.findCls K (.ref C) mc f = some (.val (.str x t))) : DCv K mg cn f x :=
  ⟨C, mc, _, hm, ⟨h1, h2⟩, ⟨h3, t, rfl⟩⟩
theorem DCi.of {t : Tok} (hC : PySem.W.nsIn K mainGlobals cn = some (some (.ref C))) (c : Cls K C) (h1 : PySem.W.findIn K (.ref C) f = some (some (.str x t))) (h2 : PySem.W.specialIn K (.str x t) "__get__" = some none) (h3 : PySem.W.copiedNames.contains f = false) : DCi K cn f x :=
  ⟨C, _, hC, c, ⟨h1, ⟨t, rfl⟩, h2, h3⟩⟩
theorem DIs.of {b : Bool} (hC : PySem.W.nsIn K mainGlobals cn = some (some (.ref C))) (c : Cls K C) (h : IsOk K C) (hm : mg dn = some (.ref Dd)) (hk : PySem.W.kitOne K (.ref C) (.ref Dd) = some b) : DIs K mg cn dn b := ⟨C, Dd, hC, c, h, hm, hk⟩
theorem DSup.of {D : Addr} (hC : PySem.W.nsIn K mainGlobals cn = some (some (.ref C))) (h1 : PySem.W.mroIn K C (.ref D) = some true) (h2 : PySem.W.ks_superIn K C D m = some (some (.ref fa))) (h3 : PySem.W.typeIn K (.ref fa) = some (.type "function")) (h4 : PySem.W.nsIn K cStatics "thirdparty.any" = some none) (h5 : PySem.W.fnIn K fa = true) (h6 : (m == ("__class__" : Str)) = false)
    (F : FnOk P w K mg base CX0 k fa fd ps (lP ⟨P, w, K⟩ n r)) (hb : Binds K fd ps []) : DSup P w K mg base k D cn m n r := ⟨C, fa, hC, ⟨h1, h2, h3, h4, h5, h6⟩, fnr_of F hb⟩
theorem clsSome {D : Addr} (c : Cls K D) : (PySem.W.clsIn K D).isSome = true := by
  obtain ⟨cd, hc, _⟩ := PySem.W.any_some c.hd
  rw [hc]
  rfl
theorem funS_mk {x qual : Str} {st : Stmt} {f D cda cc : Addr} {oc kV doc pm ct cl ccl : Value} {od an cld cdd : Option Addr} {osl csl ccs : Array (Option Value)} {vs : Array Value} {file : Str} {tf : Tok}
    (l : K.lookup f = some ⟨oc, od, .func (PySem.W.ksFn x qual (defArgs st) (defBody st) (defScope st) .none kV doc pm an (.ref cda) ct cc), osl⟩) (c : PySem.W.codeIn K (.ref cda) qual = true) (h1 : K.lookup cc = some ⟨cl, cld, .cell (some (.ref D)), csl⟩)
    (h2 : K.lookup cda = some ⟨ccl, cdd, .fields vs, ccs⟩) (h3 : vs[2]? = some (.str file tf)) (h4 : ((P.main.file : Str) == file) = true) (h5 : (P.main.scope.names.lookup ("super" : Str)).isSome = false) (h6 : mg "super" = none) (h7 : Cls K D) :
    FunS P K mg x qual st f (PySem.W.ksFn x qual (defArgs st) (defBody st) (defScope st) .none kV doc pm an (.ref cda) ct cc) D cda cc :=
  ⟨⟨oc, od, kV, doc, pm, an, ct, osl, rfl, l, c⟩, ⟨cl, cld, csl, h1⟩, ⟨ccl, cdd, vs, ccs, file, tf, h2, h3, h4⟩, h5, h6, clsSome h7⟩
/-- a method without super -/
theorem fn_oq {x q : Str} {st : Stmt} {f : Addr} {fd : FuncData} {N ps : List Str} {k n : Nat} {B : DTS} (F : Fun K x q st f fd) (Sc : FnScope N ps (defScope st)) (hn : ps.length = n)
    (hbody : ∀ (cdv : Value) (A : Around) (outer : List PySem.Env) (s : Shared) (H : Hp) (E : XK), Room k (A.deeper (envOfC q (defScope st) s.heap.objs.size f cdv)) →
      DSs (cxOf CX0 P w K mg base N q (defScope st) f cdv A outer s H E).nox (defBody st) B) : FnOk P w K mg base CX0 (k + 1) f fd ps (lP ⟨P, w, K⟩ n (dFn N.length B)) := by
  refine F.ok Sc (fun vs H Q E h => by rw [hn]; exact h.1) fun cdv A outer s H vs Q E hr h => ⟨_, (hbody cdv A outer s H E hr).run, ?_⟩
  obtain ⟨_, ds, S, R, r, s1, q, k⟩ := h
  exact ⟨_, S, _, rs_start r s1, q, fun env' S' σ' H' q' r' e' => k _ _ _ _ q' r'.sto .non e', fun d S' v H' q' s' r' e' => k _ _ _ _ q' s' r' e', fun _ _ _ _ q' => q'.elim, fun _ _ _ _ q' => q'.elim⟩
end
end Sv
namespace Sv
open PySem L2
/-- _law_draw: 0 _law_deck_here 1 _law_many 2 _law_cell 3 _law_place 4 _law_mixed -/
def B_law_draw_ebff : DTS := dSeq (dAsg (dBin rAdd (dBin rIxq (dVar 0) (dC (.int 1))) (dC (.int 1))) (dSub (dVar 0) (dC (.int 1))))
  (dSeq (dAsg (dC (.int 0)) (dgName 2))
  (dSeq (dIfS (dB (dBin (rCmp fun i j => decide (j < i)) (dCB (rLen) (dCons (dBin rIxq (dVar 0) (dC (.int 0))) (dNil))) (dC (.int 0)))) (dSeq (dAsg (dBin rMod (dBin rIxq (dVar 0) (dC (.int 1))) (dCB (rLen) (dCons (dBin rIxq (dVar 0) (dC (.int 0))) (dNil)))) (dgName 3))
  (dSeq (dAsg (dBin rIxq (dBin rIxq (dVar 0) (dC (.int 0))) (dVar 3)) (dgName 2))
  (dIfS (dB (dBin (rCmp fun i j => decide (j ≤ i)) (dVar 2) (dBin rPow (dC (.int 10)) (dC (.int 18))))) (dSeq (dAsg (dBin rDiv (dVar 2) (dVar 1)) (dSub (dBin rIxq (dVar 0) (dC (.int 0))) (dVar 3)))
  (dRet (dBin rMod (dVar 2) (dVar 1)))) (dNext)))) (dNext))
  (dSeq (dAsg (dBin rMod (dBin rPow (dBin rAdd (dBin rAdd (dBin rMod (dVar 2) (dC (.int 2147483563))) (dBin rMul (dC (.int 15485863)) (dBin rIxq (dVar 0) (dC (.int 1))))) (dC (.int 5))) (dC (.int 5))) (dC (.int 2147483647))) (dgName 4))
  (dRet (dBin rMod (dBin rDiv (dVar 4) (dC (.int 32))) (dVar 1))))))
/-- Rule__save: 0 self 1 process -/
def B_Rule__save_1a8c : DTS := dNext
/-- SaveAfterSend__save: 0 self 1 process -/
def B_SaveAfterSend__save_1876 : DTS := dAsg (dC (.bl false)) (dSub (dFld ["SaveAfterSend", "SaveAlways"] "busy" (dVar 0)) (dVar 1))
/-- SaveAlways__save: 0 self 1 process 2 __class__ -/
def B_SaveAlways__save_ec49 : DTS := dSeq (dDrop (dSup 2 ["SaveAlways"] (dFn 2 B_SaveAfterSend__save_1876) (dCons (dVar 1) (dNil))))
  (dNext)
/-- Rounds__save: 0 self 1 process -/
def B_Rounds__save_512a : DTS := dAugL (dFld ["Rounds"] "numbers" (dVar 0)) (dVar 1) (dC (.int 1)) (fun i j => i + j)
/-- Rule__send: 0 self 1 process -/
def B_Rule__send_4f02 : DTS := dRet (dC .non)
/-- SaveAfterSend__send: 0 self 1 process -/
def B_SaveAfterSend__send_b8d5 : DTS := dSeq (dAsg (dC (.bl true)) (dSub (dFld ["SaveAfterSend", "SaveAlways"] "busy" (dVar 0)) (dVar 1)))
  (dRet (dC .non))
/-- SaveAlways__send: 0 self 1 process 2 __class__ -/
def B_SaveAlways__send_496d : DTS := dSeq (dRet (dSup 2 ["SaveAlways"] (dFn 2 B_SaveAfterSend__send_b8d5) (dCons (dVar 1) (dNil))))
  (dNext)
/-- Rounds__send: 0 self 1 process -/
def B_Rounds__send_2628 : DTS := dRet (dBin rIxq (dFld ["Rounds"] "numbers" (dVar 0)) (dVar 1))
/-- Rule__receive: 0 self 1 process 2 note -/
def B_Rule__receive_a200 : DTS := dRet (dC (.bl false))
/-- SaveAfterSend__receive: 0 self 1 process 2 note 3 must_save -/
def B_SaveAfterSend__receive_3625 : DTS := dSeq (dAsg (dBin rIxq (dFld ["SaveAfterSend", "SaveAlways"] "busy" (dVar 0)) (dVar 1)) (dgName 3))
  (dSeq (dIfS (dB (dVar 3)) (dSeq (dFAug ["SaveAfterSend", "SaveAlways"] "wanted" (dVar 0) (dC (.int 1)) fun i j => i + j)
  (dAsg (dC (.bl false)) (dSub (dFld ["SaveAfterSend", "SaveAlways"] "busy" (dVar 0)) (dVar 1)))) (dNext))
  (dRet (dVar 3)))
/-- SaveAlways__receive: 0 self 1 process 2 note 3 __class__ 4 must_save -/
def B_SaveAlways__receive_2317 : DTS := dSeq (dAsg (dSup 3 ["SaveAlways"] (dFn 4 B_SaveAfterSend__receive_3625) (dCons (dVar 1) (dCons (dVar 2) (dNil)))) (dgName 4))
  (dSeq (dAsg (dC (.bl true)) (dSub (dFld ["SaveAlways"] "busy" (dVar 0)) (dVar 1)))
  (dSeq (dRet (dVar 4))
  (dNext)))
/-- Rounds__receive: 0 self 1 process 2 note 3 must_save -/
def B_Rounds__receive_9908 : DTS := dSeq (dAsg (dBin (rCmp fun i j => decide (j < i)) (dVar 2) (dBin rIxq (dFld ["Rounds"] "numbers" (dVar 0)) (dVar 1))) (dgName 3))
  (dSeq (dIfS (dB (dVar 3)) (dSeq (dFAug ["Rounds"] "wanted" (dVar 0) (dC (.int 1)) fun i j => i + j)
  (dAsg (dVar 2) (dSub (dFld ["Rounds"] "numbers" (dVar 0)) (dVar 1)))) (dNext))
  (dRet (dVar 3)))
/-- run_plan: 0 rule 1 plan 2 rows 3 notes 4 step 5 word 6 process 7 message 8 row -/
def B_run_plan_ed6f : DTS := dSeq (dAsg (dLc (diRg1 (dCons (dFld ["Rule", "SaveAfterSend", "SaveAlways", "Rounds"] "processes" (dVar 0)) (dNil))) (dgName 8) (dYes) (dLst (dNil)) [8]) (dgName 2))
  (dSeq (dAsg (dLst (dNil)) (dgName 3))
  (dSeq (dFor (diVal (dVar 1)) (dgName 4) (dSeq (dAsg (dSl (dVar 4) (dNoP) (dPart (dC (.int 2)))) (dUnp 2 (dgCons (dgName 5) (dgCons (dgName 6) (dgNil)))))
  (dIfS (dB (dBin (rEqq false) (dVar 5) (dC (.str "save")))) (dSeq (dDrop (dMeth [("Rule", dFn 2 B_Rule__save_1a8c), ("SaveAfterSend", dFn 2 B_SaveAfterSend__save_1876), ("SaveAlways", dFn 3 B_SaveAlways__save_ec49), ("Rounds", dFn 2 B_Rounds__save_512a)] "save" 2 (dVar 0) (dCons (dVar 6) (dNil))))
  (dDrop (dMtq "list" mAppend (dBin rIxq (dVar 2) (dVar 6)) (dCons (dC (.int 0)) (dNil))))) (dIfS (dB (dBin (rEqq false) (dVar 5) (dC (.str "send")))) (dSeq (dDrop (dMtq "list" mAppend (dVar 3) (dCons (dMeth [("Rule", dFn 2 B_Rule__send_4f02), ("SaveAfterSend", dFn 2 B_SaveAfterSend__send_b8d5), ("SaveAlways", dFn 3 B_SaveAlways__send_496d), ("Rounds", dFn 2 B_Rounds__send_2628)] "send" 2 (dVar 0) (dCons (dVar 6) (dNil))) (dNil))))
  (dDrop (dMtq "list" mAppend (dBin rIxq (dVar 2) (dVar 6)) (dCons (dCB (rLen) (dCons (dVar 3) (dNil))) (dNil))))) (dSeq (dAsg (dBin rIxq (dVar 4) (dC (.int 2))) (dgName 7))
  (dSeq (dIfS (dB (dMeth [("Rule", dFn 3 B_Rule__receive_a200), ("SaveAfterSend", dFn 4 B_SaveAfterSend__receive_3625), ("SaveAlways", dFn 5 B_SaveAlways__receive_2317), ("Rounds", dFn 4 B_Rounds__receive_9908)] "receive" 3 (dVar 0) (dCons (dVar 6) (dCons (dBin rIxq (dVar 3) (dBin rSub (dVar 7) (dC (.int 1)))) (dNil))))) (dDrop (dMtq "list" mAppend (dBin rIxq (dVar 2) (dVar 6)) (dCons (dC (.int 0)) (dNil)))) (dNext))
  (dDrop (dMtq "list" mAppend (dBin rIxq (dVar 2) (dVar 6)) (dCons (dUn rNeg (dVar 7)) (dNil))))))))))
  (dRet (dCB (rTupq) (dCons (dLc (diVal (dVar 2)) (dgName 8) (dYes) (dCB (rTupq) (dCons (dVar 8) (dNil))) [8]) (dNil))))))
/-- Rule____init__: 0 self 1 processes -/
def B_Rule____init___2563 : DTS := dSeq (dFSet ["Rule", "SaveAfterSend", "SaveAlways", "Rounds"] "processes" (dVar 0) (dVar 1))
  (dFSet ["Rule", "SaveAfterSend", "SaveAlways", "Rounds"] "wanted" (dVar 0) (dC (.int 0)))
/-- SaveAfterSend____init__: 0 self 1 processes 2 __class__ -/
def B_SaveAfterSend____init___fcad : DTS := dSeq (dDrop (dSup 2 ["SaveAfterSend", "SaveAlways"] (dFn 2 B_Rule____init___2563) (dCons (dVar 1) (dNil))))
  (dSeq (dFSet ["SaveAfterSend", "SaveAlways"] "busy" (dVar 0) (dBin rMul (dLst (dCons (dC (.bl false)) (dNil))) (dVar 1)))
  (dNext))
/-- Rounds____init__: 0 self 1 processes 2 __class__ -/
def B_Rounds____init___8e81 : DTS := dSeq (dDrop (dSup 2 ["Rounds"] (dFn 2 B_Rule____init___2563) (dCons (dVar 1) (dNil))))
  (dSeq (dFSet ["Rounds"] "numbers" (dVar 0) (dBin rMul (dLst (dCons (dC (.int 0)) (dNil))) (dVar 1)))
  (dNext))
/-- _law_rule: 0 _law_name 1 _law_count -/
def B_law_rule_b694 : DTS := dSeq (dIfS (dB (dBin (rEqq false) (dVar 0) (dC (.str "none")))) (dRet (dMake "Rule" 2 (dFn 2 B_Rule____init___2563) (dCons (dVar 1) (dNil)))) (dNext))
  (dSeq (dIfS (dB (dBin (rEqq false) (dVar 0) (dC (.str "sent")))) (dRet (dMake "SaveAfterSend" 2 (dFn 3 B_SaveAfterSend____init___fcad) (dCons (dVar 1) (dNil)))) (dNext))
  (dRet (dIf (dB (dBin (rEqq false) (dVar 0) (dC (.str "always")))) (dMake "SaveAlways" 2 (dFn 3 B_SaveAfterSend____init___fcad) (dCons (dVar 1) (dNil))) (dMake "Rounds" 2 (dFn 3 B_Rounds____init___8e81) (dCons (dVar 1) (dNil))))))
/-- _law_one: 0 _law_deck_here 1 _law_items -/
def B_law_one_b6e1 : DTS := dRet (dBin rIxq (dVar 1) (dCall 2 (dFn 5 B_law_draw_ebff) (dCons (dVar 0) (dCons (dCB (rLen) (dCons (dVar 1) (dNil))) (dNil)))))
/-- _law_plan: 0 _law_deck_here 1 _law_count 2 _law_many 3 _law_acts 4 _law_waiting 5 _law_number 6 _law_turn 7 _law_way 8 _law_process 9 _law_can 10 _law_pair -/
def B_law_plan_4754 : DTS := dSeq (dAsg (dTup (dCons (dLst (dNil)) (dCons (dLst (dNil)) (dCons (dC (.int 0)) (dNil))))) (dUnp 3 (dgCons (dgName 3) (dgCons (dgName 4) (dgCons (dgName 5) (dgNil))))))
  (dSeq (dFor (diRg1 (dCons (dVar 2) (dNil))) (dgName 6) (dSeq (dAsg (dTup (dCons (dCall 2 (dFn 5 B_law_draw_ebff) (dCons (dVar 0) (dCons (dC (.int 5)) (dNil)))) (dCons (dCall 2 (dFn 5 B_law_draw_ebff) (dCons (dVar 0) (dCons (dVar 1) (dNil)))) (dNil)))) (dUnp 2 (dgCons (dgName 7) (dgCons (dgName 8) (dgNil)))))
  (dSeq (dAsg (dLc (diVal (dVar 4)) (dgName 10) (dB (dBin (rEqq true) (dBin rIxq (dVar 10) (dC (.int 1))) (dVar 8))) (dVar 10) [10]) (dgName 9))
  (dIfS (dAnd (dB (dBin (rCmp fun i j => decide (i < j)) (dVar 7) (dC (.int 2)))) (dB (dBin (rEqq true) (dVar 9) (dLst (dNil))))) (dSeq (dAsg (dCall 2 (dFn 2 B_law_one_b6e1) (dCons (dVar 0) (dCons (dVar 9) (dNil)))) (dgName 10))
  (dSeq (dDrop (dMtq "list" mRemove (dVar 4) (dCons (dVar 10) (dNil))))
  (dDrop (dMtq "list" mAppend (dVar 3) (dCons (dTup (dCons (dC (.str "receive")) (dCons (dVar 8) (dCons (dBin rIxq (dVar 10) (dC (.int 0))) (dNil))))) (dNil)))))) (dIfS (dAnd (dB (dBin (rCmp fun i j => decide (i < j)) (dVar 7) (dC (.int 4)))) (dB (dBin (rCmp fun i j => decide (i < j)) (dVar 5) (dC (.int 24))))) (dSeq (dAsg (dBin rAdd (dVar 5) (dC (.int 1))) (dgName 5))
  (dSeq (dDrop (dMtq "list" mAppend (dVar 4) (dCons (dLst (dCons (dVar 5) (dCons (dVar 8) (dNil)))) (dNil))))
  (dDrop (dMtq "list" mAppend (dVar 3) (dCons (dTup (dCons (dC (.str "send")) (dCons (dVar 8) (dNil)))) (dNil)))))) (dDrop (dMtq "list" mAppend (dVar 3) (dCons (dTup (dCons (dC (.str "save")) (dCons (dVar 8) (dNil)))) (dNil)))))))))
  (dRet (dCB (rTupq) (dCons (dVar 3) (dNil)))))
/-- _law_deck: 0 _law_script 1 _law_cell -/
def B_law_deck_e528 : DTS := dRet (dLst (dCons (dLc (diVal (dSl (dVar 0) (dNoP) (dPart (dC (.int 62))))) (dgName 1) (dYes) (dCB (rAbs) (dCons (dVar 1) (dNil))) [1]) (dCons (dC (.int 0)) (dNil))))
/-- _law_parts: 0 _law_row 1 _law_found 2 _law_event -/
def B_law_parts_4773 : DTS := dSeq (dAsg (dLst (dCons (dLst (dNil)) (dNil))) (dgName 1))
  (dSeq (dFor (diVal (dVar 0)) (dgName 2) (dIfS (dB (dBin (rEqq false) (dVar 2) (dC (.int 0)))) (dAsg (dBin rAdd (dVar 1) (dLst (dCons (dLst (dNil)) (dNil)))) (dgName 1)) (dAsg (dBin rAdd (dSl (dVar 1) (dNoP) (dPart (dUn rNeg (dC (.int 1))))) (dLst (dCons (dBin rAdd (dBin rIxq (dVar 1) (dUn rNeg (dC (.int 1)))) (dLst (dCons (dVar 2) (dNil)))) (dNil)))) (dgName 1))))
  (dRet (dVar 1)))
end Sv
set_option autoImplicit false
namespace Sv
open PySem PySem.Spec PyProof.Rows L2
section
variable {X : Cx} {e : Expr} {te : DTE} {pos p : Pos}
theorem TyX.new {K : PySem.W.Frag} {H : Hp} {x : V} {t : String} {T : Addr} {o : HO} (n : H T = none) (h : TyX K H x (.type t)) : TyX K (upd H T o) x (.type t) := by
  have k : ∀ {a : Addr} {u : HO}, H a = some u → upd H T o a = some u := fun {a u} e => by
    rw [upd_ne fun z => by rw [z, n] at e; cases e]
    exact e
  cases h with
  | base h =>
    cases h with
    | non => exact .base .non
    | bl x => exact .base (.bl x)
    | int x => exact .base (.int x)
    | str x => exact .base (.str x)
    | flt x => exact .base (.flt x)
    | lst e => exact .base (.lst (k e))
    | frz e => exact .base (.frz (k e))
    | tup e => exact .base (.tup (k e))
    | dK e => exact .base (.dK (k e))
    | dT e => exact .base (.dT (k e))
  | byt b => exact .byt b
  | set e => exact .set (k e)
  | kList e c => exact .kList e c
  | kTuple e c => exact .kTuple e c
  | kDict e c => exact .kDict e c
  | fTuple e => exact .fTuple (k e)
  | fDict e => exact .fDict (k e)
end
end Sv
set_option autoImplicit false
set_option autoImplicit false
namespace Sv
open PySem PySem.Spec PyProof.Rows L2
section
variable {X : Cx}
abbrev bD (bs : List Bool) : List PyData := bs.map PyData.bool
theorem RDs.blsK {K : KK} {H : Hp} : ∀ bs : List Bool, RDs K H (bs.map D.bl) (bs.map V.bl)
  | [] => .nil
  | b :: r => .cons (.bl b) (RDs.blsK r)
theorem vals_bls : ∀ {bs : List Bool} {us : List Value}, Vals (bs.map V.bl) us → PySem.W.EachIs (fun v (b : Bool) => v = Value.bool b) us bs
  | [], us, h => by
    rw [List.map_nil] at h
    cases h
    exact .nil
  | b :: bs, us, h => by
    rw [List.map_cons] at h
    cases h with
    | cons h1 h2 => exact .cons h1 (vals_bls h2)
theorem vals_of_bls : ∀ {us : List Value} {bs : List Bool}, PySem.W.EachIs (fun v (b : Bool) => v = Value.bool b) us bs → Vals (bs.map V.bl) us
  | _, _, .nil => by rw [List.map_nil]; exact Paired.nil
  | _, _, .cons h1 h2 => by rw [List.map_cons]; exact Paired.cons (show RelV (V.bl _) _ from h1) (vals_of_bls h2)
def rSortedB : DRC := fun ds S R => ∃ (a : Addr) (bs : List Bool), ds = [.ref a] ∧ S a = some (.lst (bs.map D.bl)) ∧ bs.length ≤ 1000 ∧ ∀ p, S p = none → R (.ref p) (S.put p (.lst ((bs.mergeSort (PySem.W.dataLe false PyData.bool)).map D.bl)))
theorem b_sortedB (hu : X.A.units + 64 < cLine) : CallR X (.builtin "sorted") (lC X.kk rSortedB) := by
  intro pins s σ H vs us Q I r ⟨ds, S, R, r1, s1, ⟨a, bs, hd, hx, hl, q⟩, k⟩
  subst hd
  obtain ⟨v, rfl, rv⟩ := r1.inv1
  cases rv
  obtain ⟨ws, h2, q1⟩ := s1.lst hx
  cases RDs.bls_inv q1
  obtain ⟨its, ri, il, iz⟩ := I.list (SqL.of h2 : SqL X.K H a _)
  rw [Vals.ref1 r]
  have E1 : PySem.W.EachIs (fun v b => ∃ as, Reads s.heap v (PyData.bool b) as) its bs := (vals_bls ri).mono fun v b e => by rw [e]; exact ⟨_, Reads.bool b⟩
  refine PySem.W.sorted_data (enc := PyData.bool) (bs := bs) il.isList (vals_bls ri) E1 (PySem.W.AllAlike.of fun _ _ => by simp [PySem.W.alike]) (PySem.W.Sortable.others fun b => ⟨by simp, by simp⟩) (by rw [sizeLine_eq]; omega) (fun b _ => by show _ + 2 + 0 < _; omega) fun out ho he => ?_
  obtain ⟨ep, he'⟩ := PyProof.Rows.sortedAll_at s.heap its out.toArray
  have hlen : ((bs.mergeSort (PySem.W.dataLe false PyData.bool)).map V.bl).length ≤ sizeLine := by rw [List.length_map, List.length_mergeSort, sizeLine_eq]; omega
  have np := I.hok.fresh (Nat.le_succ s.heap.objs.size)
  exact ⟨.ref _, upd H (s.heap.objs.size + 1) (.lst ((bs.mergeSort (PySem.W.dataLe false PyData.bool)).map V.bl)), I.laid (t' := s.toks) (fun _ _ => PyProof.Rows.sortedAll_old) (Nat.le_succ _) ⟨hlen, out, ep, vals_of_bls he, he'⟩, rfl, k _ _ _ _ (q _ (s1.fresh np)) (s1.lay np ⟨_, upd_same, RDs.blsK _⟩) (.ref _) (.new np)⟩
def mLcountB : DRM := fun x ds S R => ∃ (l : Addr) (bs : List Bool) (k : Bool), x = .ref l ∧ ds = [.bl k] ∧ S l = some (.lst (bs.map D.bl)) ∧ R (.int (bs.count k : Nat)) S
theorem m_lcountB (hu : X.A.units + 64 < cLine) : MtR X "list.count" (lM X.kk mLcountB) := by
  intro pins s σ H x vs v us Q I rx rv ⟨d, ds, S, R, r1, r2, s1, ⟨l, bs, kk, hd, hds, hl, q⟩, k⟩
  subst hd hds
  cases r1
  obtain ⟨w, rfl, rw'⟩ := r2.inv1
  cases rw'
  obtain ⟨ws, h3, q3⟩ := s1.lst hl
  cases (RDs.bls_inv q3)
  cases rx
  obtain ⟨u, rfl, ru⟩ := vals1 rv
  cases ru
  obtain ⟨its, rv', p1, hz⟩ := I.list (.of h3)
  have E1 : PySem.W.EachIs (fun v b => ∃ as, Reads s.heap v (PyData.bool b) as) its bs := (vals_bls rv').mono fun v b e => by rw [e]; exact ⟨_, Reads.bool b⟩
  obtain ⟨as, R1⟩ := PySem.W.each_readsAll PyData.bool E1
  have hpl : ∀ bs : List Bool, PyData.plainAll (bD bs) = true := by
    intro bs
    induction bs with
    | nil => rfl
    | cons n r ih => exact ih
  have hcnt : ((bD bs).countP fun y => PyData.eqv y (.bool kk)) = bs.count kk := by
    clear R1 E1 rv' hz q hl h3 q3 k
    induction bs with
    | nil => rfl
    | cons n r ih =>
      have e : PyData.eqv (.bool n) (.bool kk) = (n == kk) := by simp only [PyData.eqv]
      simp only [bD, List.map_cons, List.countP_cons, List.count_cons] at ih ⊢
      rw [ih, e]
  obtain ⟨o, n, e1, e2, e3, e4⟩ := p1
  refine SeqAt.count_list_data (vs := its.toArray) ⟨o, e1, e2, n, e4⟩ R1 (Reads.bool kk) (hpl bs) rfl ?_ ?_
  · have h0 : (PyData.bool kk).depth = 0 := by simp [PyData.depth]
    rw [h0]
    omega
  · rw [hcnt]
    exact ⟨.int (bs.count kk : Nat), H, I.tok _, ⟨_, rfl⟩, k _ _ _ _ q s1 (.int _) (.refl H)⟩
end
end Sv
namespace Sv
open PySem L2
/-- _law_ordered: 0 _law_name 1 _law_rows 2 _law_row 3 _law_part 4 _law_signs 5 _law_event -/
def B_law_ordered_231a : DTS := dSeq (dFor (diVal (dVar 1)) (dgName 2) (dFor (diVal (dCall 1 (dFn 3 B_law_parts_4773) (dCons (dVar 2) (dNil)))) (dgName 3) (dSeq (dAsg (dLc (diVal (dVar 3)) (dgName 5) (dYes) (dBin (rCmp fun i j => decide (j < i)) (dVar 5) (dC (.int 0))) [5]) (dgName 4))
  (dIfS (dOr (dB (dBin (rEqq true) (dVar 4) (dCB rSortedB (dCons (dVar 4) (dNil))))) (dAnd (dB (dBin (rEqq false) (dVar 0) (dC (.str "always")))) (dB (dBin (rCmp fun i j => decide (j < i)) (dMtq "list" mLcountB (dVar 4) (dCons (dC (.bl false)) (dNil))) (dC (.int 1)))))) (dRet (dC (.bl false))) (dNext)))))
  (dRet (dC (.bl true)))
/-- law: 0 _law_script 1 _law_deck_here 2 _law_turn 3 _law_count 4 _law_acts 5 _law_name 6 _law_rows -/
def B_law_0963 : DTS := dSeq (dAsg (dCall 1 (dFn 2 B_law_deck_e528) (dCons (dVar 0) (dNil))) (dgName 1))
  (dSeq (dFor (diRg1 (dCons (dC (.int 3)) (dNil))) (dgName 2) (dSeq (dAsg (dBin rAdd (dC (.int 2)) (dCall 2 (dFn 5 B_law_draw_ebff) (dCons (dVar 1) (dCons (dC (.int 4)) (dNil))))) (dgName 3))
  (dSeq (dAsg (dCall 3 (dFn 11 B_law_plan_4754) (dCons (dVar 1) (dCons (dVar 3) (dCons (dCall 2 (dFn 5 B_law_draw_ebff) (dCons (dVar 1) (dCons (dC (.int 15)) (dNil)))) (dNil))))) (dgName 4))
  (dFor (diVal (dLst (dCons (dC (.str "sent")) (dCons (dC (.str "always")) (dNil))))) (dgName 5) (dSeq (dAsg (dCall 2 (dFn 9 B_run_plan_ed6f) (dCons (dCall 2 (dFn 2 B_law_rule_b694) (dCons (dVar 5) (dCons (dVar 3) (dNil)))) (dCons (dVar 4) (dNil)))) (dgName 6))
  (dIfS (dOr (dB (dBin (rIsBd true) (dCall 1 (dFn 1 B_is_tracked_a4d2) (dCons (dVar 6) (dNil))) (dC (.bl true)))) (dOr (dB (dNotN (dCall 1 (dFn 10 B_find_untracked_6494) (dCons (dVar 6) (dNil))))) (dNot (dB (dCall 2 (dFn 6 B_law_ordered_231a) (dCons (dVar 5) (dCons (dVar 6) (dNil)))))))) (dRet (dC (.bl false))) (dNext)))))))
  (dRet (dC (.bl true))))
end Sv
namespace Sv
open PySem PySem.Spec PyProof.Rows L2
def topS (i : Nat) : Stmt := PySem.Challenge.pw_savelines_k67_whole_tracked_under_rules.main.body.getD i (.Pass ⟨0, 0, 0, 0⟩)
abbrev s_state_numbers : Stmt := topS 8
theorem sc_state_numbers : FnScope ["history", "row"] ["history"] (defScope s_state_numbers) := ⟨rfl, rfl, rfl, by decide +kernel, rfl, by decide +kernel, by decide +kernel⟩
set_option maxHeartbeats 4000000 in
theorem der_state_numbers {P : Program} {w : World} {K : PySem.W.Frag} {mg : Str → Option Value} {base : Heap} {f : Addr} {fd : FuncData} (F : Fun K "state_numbers" "state_numbers" s_state_numbers f fd)  (m_tuple : mg "tuple" = none): FnOk P w K mg base CX0 1 f fd ["history"] (lP ⟨P, w, K⟩ 1 (dFn 2 B_state_numbers_78d0)) := by
  refine fn_o F sc_state_numbers rfl fun cdv A outer s H E hr => ?_
  have nd := sc_state_numbers.nd
  have u64 := hr.units
  have u65 : (A.deeper (envOfC "state_numbers" (defScope s_state_numbers) s.heap.objs.size f cdv)).units + 65 < cLine := by have := hr.un; omega
  have u1 : (A.deeper (envOfC "state_numbers" (defScope s_state_numbers) s.heap.objs.size f cdv)).units + 1 < cLine := by have := hr.un; omega
  unfold B_state_numbers_78d0
  exact dss_one (ds_ret (de_callTy b_tuple (by rfl) m_tuple (by decide +kernel) (da_cons (de_lc (own := [("row", 1)]) rfl nd (di_val (dv 0)) (blkOk_by (by first | decide +kernel | rfl)) (by decide) (fun _ _ _ _ _ => dg_name (i := 1) nd rfl (by first | exact .inl rfl | exact .inr rfl)) (fun _ _ _ _ _ => dts_nil) (fun _ _ _ _ _ => de_bin o_add (de_mT PySem.F.slot_tuple_count PySem.F.type_tuple_count (m_tcount u64) (dv 1) (da_cons (de_int) (da_nil))) (de_int))) (da_nil))))
abbrev s_all_states : Stmt := topS 9
theorem sc_all_states : FnScope ["history", "process", "present", "number"] ["history"] (defScope s_all_states) := ⟨rfl, rfl, rfl, by decide +kernel, rfl, by decide +kernel, by decide +kernel⟩
set_option maxHeartbeats 4000000 in
theorem der_all_states {P : Program} {w : World} {K : PySem.W.Frag} {mg : Str → Option Value} {base : Heap} {f : Addr} {fd : FuncData} (F : Fun K "all_states" "all_states" s_all_states f fd) (D_state_numbers : DFo P w K mg base 1 "state_numbers" 1 (dFn 2 B_state_numbers_78d0)) (m_enumerate : mg "enumerate" = none) (m_range : mg "range" = none): FnOk P w K mg base CX0 2 f fd ["history"] (lP ⟨P, w, K⟩ 1 (dFn 4 B_all_states_326e)) := by
  refine fn_o F sc_all_states rfl fun cdv A outer s H E hr => ?_
  have nd := sc_all_states.nd
  have u64 := hr.units
  have u65 : (A.deeper (envOfC "all_states" (defScope s_all_states) s.heap.objs.size f cdv)).units + 65 < cLine := by have := hr.un; omega
  have u1 : (A.deeper (envOfC "all_states" (defScope s_all_states) s.heap.objs.size f cdv)).units + 1 < cLine := by have := hr.un; omega
  unfold B_all_states_326e
  exact dss_one (ds_ret (de_lc2 (own := [("process", 1), ("present", 2), ("number", 3)]) (us1 := [3]) rfl nd (di_enum (by rfl) m_enumerate (da_cons (de_callo D_state_numbers (hr.mono (by decide)) (by rfl) (da_cons (dv 0) (da_nil))) (da_nil))) (blkOk_by (by first | decide +kernel | rfl)) (by decide) (by decide) (by decide) (fun _ _ _ _ _ => dg_tup rfl (dgs_cons (dg_name (i := 1) nd rfl (by first | exact .inl rfl | exact .inr rfl)) (dgs_cons (dg_name (i := 2) nd rfl (by first | exact .inl rfl | exact .inr rfl)) (dgs_nil)))) (fun _ _ _ _ _ => dts_nil) (fun _ _ _ _ _ => di_rg1 (by rfl) m_range (da_cons (de_bin o_add (dv 2) (de_int)) (da_nil))) (fun _ _ _ _ _ => dg_name (i := 3) nd rfl (by first | exact .inl rfl | exact .inr rfl)) (fun _ _ _ _ _ => dts_nil) (fun _ _ _ _ _ => de_tup (da_cons (dv 1) (da_cons (dv 3) (da_nil))))))
abbrev s_is_received_before : Stmt := topS 14
theorem sc_is_received_before : FnScope ["trip", "state", "receiver", "interval", "process", "number"] ["trip", "state"] (defScope s_is_received_before) := ⟨rfl, rfl, rfl, by decide +kernel, rfl, by decide +kernel, by decide +kernel⟩
set_option maxHeartbeats 4000000 in
theorem der_is_received_before {P : Program} {w : World} {K : PySem.W.Frag} {mg : Str → Option Value} {base : Heap} {f : Addr} {fd : FuncData} (F : Fun K "is_received_before" "is_received_before" s_is_received_before f fd) : FnOk P w K mg base CX0 1 f fd ["trip", "state"] (lP ⟨P, w, K⟩ 2 (dFn 6 B_is_received_before_f543)) := by
  refine fn_o F sc_is_received_before rfl fun cdv A outer s H E hr => ?_
  have nd := sc_is_received_before.nd
  have u64 := hr.units
  have u65 : (A.deeper (envOfC "is_received_before" (defScope s_is_received_before) s.heap.objs.size f cdv)).units + 65 < cLine := by have := hr.un; omega
  have u1 : (A.deeper (envOfC "is_received_before" (defScope s_is_received_before) s.heap.objs.size f cdv)).units + 1 < cLine := by have := hr.un; omega
  unfold B_is_received_before_f543
  exact dss_cons (ds_asg (b := true) (de_ix o_ix (dv 0) (de_int)) (dg_tup rfl (dgs_cons (dg_name (i := 2) nd rfl (by first | exact .inl rfl | exact .inr rfl)) (dgs_cons (dg_name (i := 3) nd rfl (by first | exact .inl rfl | exact .inr rfl)) (dgs_nil)))))
    (dss_cons (ds_asg (b := true) (dv 1) (dg_tup rfl (dgs_cons (dg_name (i := 4) nd rfl (by first | exact .inl rfl | exact .inr rfl)) (dgs_cons (dg_name (i := 5) nd rfl (by first | exact .inl rfl | exact .inr rfl)) (dgs_nil)))))
    (dss_one (ds_ret (de_and (de_cmp (o_eq u64) (dv 2) (dv 4)) (de_one (de_cmp o_lt (dv 3) (dv 5)))))))
abbrev s_distances_to : Stmt := topS 18
theorem sc_distances_to : FnScope ["trips", "steps", "state", "distances", "count", "found", "message", "then"] ["trips", "steps", "state"] (defScope s_distances_to) := ⟨rfl, rfl, rfl, by decide +kernel, rfl, by decide +kernel, by decide +kernel⟩
set_option maxHeartbeats 4000000 in
theorem der_distances_to {P : Program} {w : World} {K : PySem.W.Frag} {mg : Str → Option Value} {base : Heap} {f : Addr} {fd : FuncData} (F : Fun K "distances_to" "distances_to" s_distances_to f fd) (D_is_received_before : DFo P w K mg base 1 "is_received_before" 2 (dFn 6 B_is_received_before_f543)) (m_any : mg "any" = none): FnOk P w K mg base CX0 2 f fd ["trips", "steps", "state"] (lP ⟨P, w, K⟩ 3 (dFn 8 B_distances_to_ec2b)) := by
  refine fn_o F sc_distances_to rfl fun cdv A outer s H E hr => ?_
  have nd := sc_distances_to.nd
  have u64 := hr.units
  have u65 : (A.deeper (envOfC "distances_to" (defScope s_distances_to) s.heap.objs.size f cdv)).units + 65 < cLine := by have := hr.un; omega
  have u1 : (A.deeper (envOfC "distances_to" (defScope s_distances_to) s.heap.objs.size f cdv)).units + 1 < cLine := by have := hr.un; omega
  unfold B_distances_to_ec2b
  exact dss_cons (ds_set (i := 3) nd rfl (by first | exact .inl rfl | exact .inr rfl) (de_dnew))
    (dss_cons (ds_set (i := 4) nd rfl (by first | exact .inl rfl | exact .inr rfl) (de_int))
    (dss_cons (ds_setLc (i := 5) (own := [("message", 6)]) rfl nd rfl rfl (sw_true rfl rfl rfl (by decide +kernel)) (di_keys (dv 0)) (blkOk_by (by first | decide +kernel | rfl)) (by decide) (fun _ _ _ _ _ => dg_name (i := 6) nd rfl (by first | exact .inl rfl | exact .inr rfl)) (fun _ _ _ _ _ => dts_one (dt_val (de_callo D_is_received_before (hr.mono (by decide)) (by rfl) (da_cons (de_dix u1 (dv 0) (dv 6)) (da_cons (dv 2) (da_nil)))))) (fun _ _ _ _ _ => dv 6))
    (dss_cons (ds_while PassesOwn.never (dt_truL (dv 5)) (dss_cons (ds_for PassesOwn.never rfl (di_val (dv 5)) (dg_name (i := 6) nd rfl (by first | exact .inl rfl | exact .inr rfl)) (dss_one (ds_dput u1 (dv 3) (dv 6) (dv 4))))
    (dss_cons (ds_aug (i := 4) nd rfl (by first | exact .inl rfl | exact .inr rfl) o_iadd (de_int))
    (dss_one (ds_setLc (i := 5) (own := [("message", 6)]) rfl nd rfl rfl (sw_true rfl rfl rfl (by decide +kernel)) (di_keys (dv 0)) (blkOk_by (by first | decide +kernel | rfl)) (by decide) (fun _ _ _ _ _ => dg_name (i := 6) nd rfl (by first | exact .inl rfl | exact .inr rfl)) (fun _ _ _ _ _ => dts_one (DW.dt (dw_and (dt_dnin u1 (dv 6) (dv 3)) (dw_and1 (dt_val (de_callB (b_any rfl) (by rfl) m_any (by decide +kernel) (da_cons (de_lc (own := [("then", 7)]) rfl nd (di_val (de_dix u1 (dv 1) (dv 6))) (blkOk_by (by first | decide +kernel | rfl)) (by decide) (fun _ _ _ _ _ => dg_name (i := 7) nd rfl (by first | exact .inl rfl | exact .inr rfl)) (fun _ _ _ _ _ => dts_nil) (fun _ _ _ _ _ => de_din u1 (dv 7) (dv 3))) (da_nil)))))))) (fun _ _ _ _ _ => dv 6))))))
    (dss_one (ds_ret (dv 3))))))
abbrev s_first_apart : Stmt := topS 22
theorem sc_first_apart : FnScope ["history", "trips", "steps", "state", "numbers", "message", "sender", "interval", "row"] ["history", "trips", "steps", "state"] (defScope s_first_apart) := ⟨rfl, rfl, rfl, by decide +kernel, rfl, by decide +kernel, by decide +kernel⟩
set_option maxHeartbeats 4000000 in
theorem der_first_apart {P : Program} {w : World} {K : PySem.W.Frag} {mg : Str → Option Value} {base : Heap} {f : Addr} {fd : FuncData} (F : Fun K "first_apart" "first_apart" s_first_apart f fd) (D_distances_to : DFo P w K mg base 2 "distances_to" 3 (dFn 8 B_distances_to_ec2b)) (m_max : mg "max" = none): FnOk P w K mg base CX0 3 f fd ["history", "trips", "steps", "state"] (lP ⟨P, w, K⟩ 4 (dFn 9 B_first_apart_5683)) := by
  refine fn_o F sc_first_apart rfl fun cdv A outer s H E hr => ?_
  have nd := sc_first_apart.nd
  have u64 := hr.units
  have u65 : (A.deeper (envOfC "first_apart" (defScope s_first_apart) s.heap.objs.size f cdv)).units + 65 < cLine := by have := hr.un; omega
  have u1 : (A.deeper (envOfC "first_apart" (defScope s_first_apart) s.heap.objs.size f cdv)).units + 1 < cLine := by have := hr.un; omega
  unfold B_first_apart_5683
  exact dss_cons (ds_setLc (i := 4) (own := [("row", 8)]) rfl nd rfl rfl (sw_true rfl rfl rfl (by decide +kernel)) (di_val (dv 0)) (blkOk_by (by first | decide +kernel | rfl)) (by decide) (fun _ _ _ _ _ => dg_name (i := 8) nd rfl (by first | exact .inl rfl | exact .inr rfl)) (fun _ _ _ _ _ => dts_nil) (fun _ _ _ _ _ => de_int))
    (dss_cons (ds_for PassesOwn.never rfl (di_keys (de_frz (de_callo D_distances_to (hr.mono (by decide)) (by rfl) (da_cons (dv 1) (da_cons (dv 2) (da_cons (dv 3) (da_nil))))))) (dg_name (i := 5) nd rfl (by first | exact .inl rfl | exact .inr rfl)) (dss_cons (ds_asg (b := true) (de_ix o_ix (de_dix u1 (dv 1) (dv 5)) (de_int)) (dg_tup rfl (dgs_cons (dg_name (i := 6) nd rfl (by first | exact .inl rfl | exact .inr rfl)) (dgs_cons (dg_name (i := 7) nd rfl (by first | exact .inl rfl | exact .inr rfl)) (dgs_nil)))))
    (dss_one (ds_asg (b := true) (de_callB (b_max2 rfl) (by rfl) m_max (by decide +kernel) (da_cons (de_ix o_ix (dv 4) (dv 6)) (da_cons (de_bin o_add (dv 7) (de_int)) (da_nil)))) (dg_sub (dv 4) (dv 6))))))
    (dss_one (ds_ret (dv 4))))
abbrev s_vector_by : Stmt := topS 23
theorem sc_vector_by : FnScope ["history", "trips", "steps", "state", "process", "number", "numbers"] ["history", "trips", "steps", "state"] (defScope s_vector_by) := ⟨rfl, rfl, rfl, by decide +kernel, rfl, by decide +kernel, by decide +kernel⟩
set_option maxHeartbeats 4000000 in
theorem der_vector_by {P : Program} {w : World} {K : PySem.W.Frag} {mg : Str → Option Value} {base : Heap} {f : Addr} {fd : FuncData} (F : Fun K "vector_by" "vector_by" s_vector_by f fd) (D_first_apart : DFo P w K mg base 3 "first_apart" 4 (dFn 9 B_first_apart_5683)) (m_tuple : mg "tuple" = none): FnOk P w K mg base CX0 4 f fd ["history", "trips", "steps", "state"] (lP ⟨P, w, K⟩ 4 (dFn 7 B_vector_by_c0de)) := by
  refine fn_o F sc_vector_by rfl fun cdv A outer s H E hr => ?_
  have nd := sc_vector_by.nd
  have u64 := hr.units
  have u65 : (A.deeper (envOfC "vector_by" (defScope s_vector_by) s.heap.objs.size f cdv)).units + 65 < cLine := by have := hr.un; omega
  have u1 : (A.deeper (envOfC "vector_by" (defScope s_vector_by) s.heap.objs.size f cdv)).units + 1 < cLine := by have := hr.un; omega
  unfold B_vector_by_c0de
  exact dss_cons (ds_asg (b := true) (dv 3) (dg_tup rfl (dgs_cons (dg_name (i := 4) nd rfl (by first | exact .inl rfl | exact .inr rfl)) (dgs_cons (dg_name (i := 5) nd rfl (by first | exact .inl rfl | exact .inr rfl)) (dgs_nil)))))
    (dss_cons (ds_set (i := 6) nd rfl (by first | exact .inl rfl | exact .inr rfl) (de_callo D_first_apart (hr.mono (by decide)) (by rfl) (da_cons (dv 0) (da_cons (dv 1) (da_cons (dv 2) (da_cons (dv 3) (da_nil)))))))
    (dss_one (ds_ret (de_callTy b_tuple (by rfl) m_tuple (by decide +kernel) (da_cons (de_bin o_add (de_bin o_add (de_sl (dv 6) (do_none) (do_some (dv 4))) (de_lst (da_cons (dv 5) (da_nil)))) (de_sl (dv 6) (do_some (de_bin o_add (dv 4) (de_int))) (do_none))) (da_nil))))))
abbrev s_is_received_first : Stmt := topS 20
theorem sc_is_received_first : FnScope ["history", "message", "then", "row"] ["history", "message", "then"] (defScope s_is_received_first) := ⟨rfl, rfl, rfl, by decide +kernel, rfl, by decide +kernel, by decide +kernel⟩
set_option maxHeartbeats 4000000 in
theorem der_is_received_first {P : Program} {w : World} {K : PySem.W.Frag} {mg : Str → Option Value} {base : Heap} {f : Addr} {fd : FuncData} (F : Fun K "is_received_first" "is_received_first" s_is_received_first f fd)  (m_any : mg "any" = none): FnOk P w K mg base CX0 1 f fd ["history", "message", "then"] (lP ⟨P, w, K⟩ 3 (dFn 4 B_is_received_first_4360)) := by
  refine fn_o F sc_is_received_first rfl fun cdv A outer s H E hr => ?_
  have nd := sc_is_received_first.nd
  have u64 := hr.units
  have u65 : (A.deeper (envOfC "is_received_first" (defScope s_is_received_first) s.heap.objs.size f cdv)).units + 65 < cLine := by have := hr.un; omega
  have u1 : (A.deeper (envOfC "is_received_first" (defScope s_is_received_first) s.heap.objs.size f cdv)).units + 1 < cLine := by have := hr.un; omega
  unfold B_is_received_first_4360
  exact dss_one (ds_ret (de_callB (b_any rfl) (by rfl) m_any (by decide +kernel) (da_cons (de_lc (own := [("row", 3)]) rfl nd (di_val (dv 0)) (blkOk_by (by first | decide +kernel | rfl)) (by decide) (fun _ _ _ _ _ => dg_name (i := 3) nd rfl (by first | exact .inl rfl | exact .inr rfl)) (fun _ _ _ _ _ => dts_nil) (fun _ _ _ _ _ => de_and (de_cmp (o_in u65) (de_un o_neg (dv 1)) (dv 3)) (de_one (de_cmp (o_in u65) (dv 2) (de_sl (dv 3) (do_some (de_mT PySem.F.slot_tuple_index PySem.F.type_tuple_index m_tindex (dv 3) (da_cons (de_un o_neg (dv 1)) (da_nil)))) (do_none)))))) (da_nil))))
abbrev s_causal_steps : Stmt := topS 21
theorem sc_causal_steps : FnScope ["history", "trips", "message", "then"] ["history", "trips"] (defScope s_causal_steps) := ⟨rfl, rfl, rfl, by decide +kernel, rfl, by decide +kernel, by decide +kernel⟩
set_option maxHeartbeats 4000000 in
theorem der_causal_steps {P : Program} {w : World} {K : PySem.W.Frag} {mg : Str → Option Value} {base : Heap} {f : Addr} {fd : FuncData} (F : Fun K "causal_steps" "causal_steps" s_causal_steps f fd) (D_is_received_first : DFo P w K mg base 1 "is_received_first" 3 (dFn 4 B_is_received_first_4360)): FnOk P w K mg base CX0 2 f fd ["history", "trips"] (lP ⟨P, w, K⟩ 2 (dFn 4 B_causal_steps_ab7d)) := by
  refine fn_o F sc_causal_steps rfl fun cdv A outer s H E hr => ?_
  have nd := sc_causal_steps.nd
  have u64 := hr.units
  have u65 : (A.deeper (envOfC "causal_steps" (defScope s_causal_steps) s.heap.objs.size f cdv)).units + 65 < cLine := by have := hr.un; omega
  have u1 : (A.deeper (envOfC "causal_steps" (defScope s_causal_steps) s.heap.objs.size f cdv)).units + 1 < cLine := by have := hr.un; omega
  unfold B_causal_steps_ab7d
  exact dss_one (ds_ret (de_dc (own := [("message", 2)]) rfl nd (di_keys (dv 1)) (blkOk_by (by first | decide +kernel | rfl)) (by decide) (fun _ _ _ _ _ => dg_name (i := 2) nd rfl (by first | exact .inl rfl | exact .inr rfl)) (fun _ _ _ _ _ => dts_nil) (fun _ _ _ _ _ => dv 2) (fun _ _ _ _ _ => de_lc (own := [("then", 3)]) rfl nd (di_keys (dv 1)) (blkOk_by (by first | decide +kernel | rfl)) (by decide) (fun _ _ _ _ _ => dg_name (i := 3) nd rfl (by first | exact .inl rfl | exact .inr rfl)) (fun _ _ _ _ _ => dts_one (dt_val (de_callo D_is_received_first (hr.mono (by decide)) (by rfl) (da_cons (dv 0) (da_cons (dv 2) (da_cons (dv 3) (da_nil))))))) (fun _ _ _ _ _ => dv 3))))
abbrev s_is_sent_behind : Stmt := topS 13
theorem sc_is_sent_behind : FnScope ["trip", "state", "sender", "interval", "process", "number"] ["trip", "state"] (defScope s_is_sent_behind) := ⟨rfl, rfl, rfl, by decide +kernel, rfl, by decide +kernel, by decide +kernel⟩
set_option maxHeartbeats 4000000 in
theorem der_is_sent_behind {P : Program} {w : World} {K : PySem.W.Frag} {mg : Str → Option Value} {base : Heap} {f : Addr} {fd : FuncData} (F : Fun K "is_sent_behind" "is_sent_behind" s_is_sent_behind f fd) : FnOk P w K mg base CX0 1 f fd ["trip", "state"] (lP ⟨P, w, K⟩ 2 (dFn 6 B_is_sent_behind_1a14)) := by
  refine fn_o F sc_is_sent_behind rfl fun cdv A outer s H E hr => ?_
  have nd := sc_is_sent_behind.nd
  have u64 := hr.units
  have u65 : (A.deeper (envOfC "is_sent_behind" (defScope s_is_sent_behind) s.heap.objs.size f cdv)).units + 65 < cLine := by have := hr.un; omega
  have u1 : (A.deeper (envOfC "is_sent_behind" (defScope s_is_sent_behind) s.heap.objs.size f cdv)).units + 1 < cLine := by have := hr.un; omega
  unfold B_is_sent_behind_1a14
  exact dss_cons (ds_asg (b := true) (de_ix o_ix (dv 0) (de_int)) (dg_tup rfl (dgs_cons (dg_name (i := 2) nd rfl (by first | exact .inl rfl | exact .inr rfl)) (dgs_cons (dg_name (i := 3) nd rfl (by first | exact .inl rfl | exact .inr rfl)) (dgs_nil)))))
    (dss_cons (ds_asg (b := true) (dv 1) (dg_tup rfl (dgs_cons (dg_name (i := 4) nd rfl (by first | exact .inl rfl | exact .inr rfl)) (dgs_cons (dg_name (i := 5) nd rfl (by first | exact .inl rfl | exact .inr rfl)) (dgs_nil)))))
    (dss_one (ds_ret (de_and (de_cmp (o_eq u64) (dv 2) (dv 4)) (de_one (de_cmp o_ge (dv 3) (dv 5)))))))
abbrev s_is_step : Stmt := topS 16
theorem sc_is_step : FnScope ["trips", "message", "then"] ["trips", "message", "then"] (defScope s_is_step) := ⟨rfl, rfl, rfl, by decide +kernel, rfl, by decide +kernel, by decide +kernel⟩
set_option maxHeartbeats 4000000 in
theorem der_is_step {P : Program} {w : World} {K : PySem.W.Frag} {mg : Str → Option Value} {base : Heap} {f : Addr} {fd : FuncData} (F : Fun K "is_step" "is_step" s_is_step f fd) (D_is_sent_behind : DFo P w K mg base 1 "is_sent_behind" 2 (dFn 6 B_is_sent_behind_1a14)): FnOk P w K mg base CX0 2 f fd ["trips", "message", "then"] (lP ⟨P, w, K⟩ 3 (dFn 3 B_is_step_5234)) := by
  refine fn_o F sc_is_step rfl fun cdv A outer s H E hr => ?_
  have nd := sc_is_step.nd
  have u64 := hr.units
  have u65 : (A.deeper (envOfC "is_step" (defScope s_is_step) s.heap.objs.size f cdv)).units + 65 < cLine := by have := hr.un; omega
  have u1 : (A.deeper (envOfC "is_step" (defScope s_is_step) s.heap.objs.size f cdv)).units + 1 < cLine := by have := hr.un; omega
  unfold B_is_step_5234
  exact dss_one (ds_ret (de_callo D_is_sent_behind (hr.mono (by decide)) (by rfl) (da_cons (de_dix u1 (dv 0) (dv 2)) (da_cons (de_ix o_ix (de_dix u1 (dv 0) (dv 1)) (de_int)) (da_nil)))))
abbrev s_zigzag_steps : Stmt := topS 17
theorem sc_zigzag_steps : FnScope ["trips", "message", "then"] ["trips"] (defScope s_zigzag_steps) := ⟨rfl, rfl, rfl, by decide +kernel, rfl, by decide +kernel, by decide +kernel⟩
set_option maxHeartbeats 4000000 in
theorem der_zigzag_steps {P : Program} {w : World} {K : PySem.W.Frag} {mg : Str → Option Value} {base : Heap} {f : Addr} {fd : FuncData} (F : Fun K "zigzag_steps" "zigzag_steps" s_zigzag_steps f fd) (D_is_step : DFo P w K mg base 2 "is_step" 3 (dFn 3 B_is_step_5234)): FnOk P w K mg base CX0 3 f fd ["trips"] (lP ⟨P, w, K⟩ 1 (dFn 3 B_zigzag_steps_bb25)) := by
  refine fn_o F sc_zigzag_steps rfl fun cdv A outer s H E hr => ?_
  have nd := sc_zigzag_steps.nd
  have u64 := hr.units
  have u65 : (A.deeper (envOfC "zigzag_steps" (defScope s_zigzag_steps) s.heap.objs.size f cdv)).units + 65 < cLine := by have := hr.un; omega
  have u1 : (A.deeper (envOfC "zigzag_steps" (defScope s_zigzag_steps) s.heap.objs.size f cdv)).units + 1 < cLine := by have := hr.un; omega
  unfold B_zigzag_steps_bb25
  exact dss_one (ds_ret (de_dc (own := [("message", 1)]) rfl nd (di_keys (dv 0)) (blkOk_by (by first | decide +kernel | rfl)) (by decide) (fun _ _ _ _ _ => dg_name (i := 1) nd rfl (by first | exact .inl rfl | exact .inr rfl)) (fun _ _ _ _ _ => dts_nil) (fun _ _ _ _ _ => dv 1) (fun _ _ _ _ _ => de_lc (own := [("then", 2)]) rfl nd (di_keys (dv 0)) (blkOk_by (by first | decide +kernel | rfl)) (by decide) (fun _ _ _ _ _ => dg_name (i := 2) nd rfl (by first | exact .inl rfl | exact .inr rfl)) (fun _ _ _ _ _ => dts_one (dt_val (de_callo D_is_step (hr.mono (by decide)) (by rfl) (da_cons (dv 0) (da_cons (dv 1) (da_cons (dv 2) (da_nil))))))) (fun _ _ _ _ _ => dv 2))))
abbrev s_happened_at : Stmt := topS 10
theorem sc_happened_at : FnScope ["history", "event", "process", "row", "interval", "other"] ["history", "event"] (defScope s_happened_at) := ⟨rfl, rfl, rfl, by decide +kernel, rfl, by decide +kernel, by decide +kernel⟩
set_option maxHeartbeats 4000000 in
theorem der_happened_at {P : Program} {w : World} {K : PySem.W.Frag} {mg : Str → Option Value} {base : Heap} {f : Addr} {fd : FuncData} (F : Fun K "happened_at" "happened_at" s_happened_at f fd)  (m_enumerate : mg "enumerate" = none): FnOk P w K mg base CX0 1 f fd ["history", "event"] (lP ⟨P, w, K⟩ 2 (dFn 6 B_happened_at_e85f)) := by
  refine fn_o F sc_happened_at rfl fun cdv A outer s H E hr => ?_
  have nd := sc_happened_at.nd
  have u64 := hr.units
  have u65 : (A.deeper (envOfC "happened_at" (defScope s_happened_at) s.heap.objs.size f cdv)).units + 65 < cLine := by have := hr.un; omega
  have u1 : (A.deeper (envOfC "happened_at" (defScope s_happened_at) s.heap.objs.size f cdv)).units + 1 < cLine := by have := hr.un; omega
  unfold B_happened_at_e85f
  exact dss_cons (ds_for PassesOwn.never rfl (di_enum (by rfl) m_enumerate (da_cons (dv 0) (da_nil))) (dg_tup rfl (dgs_cons (dg_name (i := 2) nd rfl (by first | exact .inl rfl | exact .inr rfl)) (dgs_cons (dg_name (i := 3) nd rfl (by first | exact .inl rfl | exact .inr rfl)) (dgs_nil)))) (dss_cons (ds_set (i := 4) nd rfl (by first | exact .inl rfl | exact .inr rfl) (de_int))
    (dss_one (ds_for PassesOwn.never rfl (di_val (dv 3)) (dg_name (i := 5) nd rfl (by first | exact .inl rfl | exact .inr rfl)) (dss_cons (ds_if (dt_cmp (o_eq u64) (dv 5) (dv 1)) (dss_one (ds_ret (de_tup (da_cons (dv 2) (da_cons (dv 4) (da_nil)))))) (dss_nil))
    (dss_one (ds_if (dt_cmp (o_eq u64) (dv 5) (de_int)) (dss_one (ds_aug (i := 4) nd rfl (by first | exact .inl rfl | exact .inr rfl) o_iadd (de_int))) (dss_nil))))))))
    (dss_one (ds_ret (de_non)))
abbrev s_trips_of : Stmt := topS 12
theorem sc_trips_of : FnScope ["history", "messages", "message", "row", "event"] ["history"] (defScope s_trips_of) := ⟨rfl, rfl, rfl, by decide +kernel, rfl, by decide +kernel, by decide +kernel⟩
set_option maxHeartbeats 4000000 in
theorem der_trips_of {P : Program} {w : World} {K : PySem.W.Frag} {mg : Str → Option Value} {base : Heap} {f : Addr} {fd : FuncData} (F : Fun K "trips_of" "trips_of" s_trips_of f fd) (D_happened_at : DFo P w K mg base 1 "happened_at" 2 (dFn 6 B_happened_at_e85f)) (m_sorted : mg "sorted" = none): FnOk P w K mg base CX0 2 f fd ["history"] (lP ⟨P, w, K⟩ 1 (dFn 5 B_trips_of_ea9a)) := by
  refine fn_o F sc_trips_of rfl fun cdv A outer s H E hr => ?_
  have nd := sc_trips_of.nd
  have u64 := hr.units
  have u65 : (A.deeper (envOfC "trips_of" (defScope s_trips_of) s.heap.objs.size f cdv)).units + 65 < cLine := by have := hr.un; omega
  have u1 : (A.deeper (envOfC "trips_of" (defScope s_trips_of) s.heap.objs.size f cdv)).units + 1 < cLine := by have := hr.un; omega
  unfold B_trips_of_ea9a
  exact dss_cons (ds_set (i := 1) nd rfl (by first | exact .inl rfl | exact .inr rfl) (de_callB b_sorted (by rfl) m_sorted (by decide +kernel) (da_cons (de_lc2 (own := [("row", 3), ("event", 4)]) (us1 := [4]) rfl nd (di_val (dv 0)) (blkOk_by (by first | decide +kernel | rfl)) (by decide) (by decide) (by decide) (fun _ _ _ _ _ => dg_name (i := 3) nd rfl (by first | exact .inl rfl | exact .inr rfl)) (fun _ _ _ _ _ => dts_nil) (fun _ _ _ _ _ => di_val (dv 3)) (fun _ _ _ _ _ => dg_name (i := 4) nd rfl (by first | exact .inl rfl | exact .inr rfl)) (fun _ _ _ _ _ => dts_one (dt_cmp o_lt (dv 4) (de_int))) (fun _ _ _ _ _ => de_un o_neg (dv 4))) (da_nil))))
    (dss_one (ds_ret (de_dc (own := [("message", 2)]) rfl nd (di_val (dv 1)) (blkOk_by (by first | decide +kernel | rfl)) (by decide) (fun _ _ _ _ _ => dg_name (i := 2) nd rfl (by first | exact .inl rfl | exact .inr rfl)) (fun _ _ _ _ _ => dts_nil) (fun _ _ _ _ _ => dv 2) (fun _ _ _ _ _ => de_tup (da_cons (de_callo D_happened_at (hr.mono (by decide)) (by rfl) (da_cons (dv 0) (da_cons (dv 2) (da_nil)))) (da_cons (de_callo D_happened_at (hr.mono (by decide)) (by rfl) (da_cons (dv 0) (da_cons (de_un o_neg (dv 2)) (da_nil)))) (da_nil)))))))
abbrev s_find_untracked : Stmt := topS 25
theorem sc_find_untracked : FnScope ["history", "trips", "zigzag", "causal", "pairs", "other", "vector", "numbers", "process", "number"] ["history"] (defScope s_find_untracked) := ⟨rfl, rfl, rfl, by decide +kernel, rfl, by decide +kernel, by decide +kernel⟩
set_option maxHeartbeats 4000000 in
theorem der_find_untracked {P : Program} {w : World} {K : PySem.W.Frag} {mg : Str → Option Value} {base : Heap} {f : Addr} {fd : FuncData} (F : Fun K "find_untracked" "find_untracked" s_find_untracked f fd) (D_all_states : DFo P w K mg base 2 "all_states" 1 (dFn 4 B_all_states_326e)) (D_first_apart : DFo P w K mg base 3 "first_apart" 4 (dFn 9 B_first_apart_5683)) (D_vector_by : DFo P w K mg base 4 "vector_by" 4 (dFn 7 B_vector_by_c0de)) (D_causal_steps : DFo P w K mg base 2 "causal_steps" 2 (dFn 4 B_causal_steps_ab7d)) (D_zigzag_steps : DFo P w K mg base 3 "zigzag_steps" 1 (dFn 3 B_zigzag_steps_bb25)) (D_trips_of : DFo P w K mg base 2 "trips_of" 1 (dFn 5 B_trips_of_ea9a)) (m_min : mg "min" = none) (m_enumerate : mg "enumerate" = none): FnOk P w K mg base CX0 5 f fd ["history"] (lP ⟨P, w, K⟩ 1 (dFn 10 B_find_untracked_6494)) := by
  refine fn_o F sc_find_untracked rfl fun cdv A outer s H E hr => ?_
  have nd := sc_find_untracked.nd
  have u64 := hr.units
  have u65 : (A.deeper (envOfC "find_untracked" (defScope s_find_untracked) s.heap.objs.size f cdv)).units + 65 < cLine := by have := hr.un; omega
  have u1 : (A.deeper (envOfC "find_untracked" (defScope s_find_untracked) s.heap.objs.size f cdv)).units + 1 < cLine := by have := hr.un; omega
  unfold B_find_untracked_6494
  exact dss_cons (ds_set (i := 1) nd rfl (by first | exact .inl rfl | exact .inr rfl) (de_callo D_trips_of (hr.mono (by decide)) (by rfl) (da_cons (dv 0) (da_nil))))
    (dss_cons (ds_par (i := 2) (j := 3) (by rfl) nd rfl rfl (by decide) rfl rfl (da_cons (de_callo D_zigzag_steps (hr.mono (by decide)) (by rfl) (da_cons (dv 1) (da_nil))) (da_cons (de_callo D_causal_steps (hr.mono (by decide)) (by rfl) (da_cons (dv 0) (da_cons (dv 1) (da_nil)))) (da_nil))) (by rfl))
    (dss_cons (ds_set (i := 4) nd rfl (by first | exact .inl rfl | exact .inr rfl) (de_lst (da_nil)))
    (dss_cons (ds_for PassesOwn.never rfl (di_val (de_callo D_all_states (hr.mono (by decide)) (by rfl) (da_cons (dv 0) (da_nil)))) (dg_name (i := 5) nd rfl (by first | exact .inl rfl | exact .inr rfl)) (dss_cons (ds_set (i := 6) nd rfl (by first | exact .inl rfl | exact .inr rfl) (de_callo D_vector_by (hr.mono (by decide)) (by rfl) (da_cons (dv 0) (da_cons (dv 1) (da_cons (dv 3) (da_cons (dv 5) (da_nil)))))))
    (dss_cons (ds_set (i := 7) nd rfl (by first | exact .inl rfl | exact .inr rfl) (de_callo D_first_apart (hr.mono (by decide)) (by rfl) (da_cons (dv 0) (da_cons (dv 1) (da_cons (dv 2) (da_cons (dv 5) (da_nil)))))))
    (dss_one (ds_expr (de_mL PySem.F.slot_list_extend PySem.F.type_list_extend m_extend (dv 4) (da_cons (de_lc (own := [("process", 8), ("number", 9)]) rfl nd (di_enum (by rfl) m_enumerate (da_cons (dv 6) (da_nil))) (blkOk_by (by first | decide +kernel | rfl)) (by decide) (fun _ _ _ _ _ => dg_tup rfl (dgs_cons (dg_name (i := 8) nd rfl (by first | exact .inl rfl | exact .inr rfl)) (dgs_cons (dg_name (i := 9) nd rfl (by first | exact .inl rfl | exact .inr rfl)) (dgs_nil)))) (fun _ _ _ _ _ => dts_one (dt_cmp o_lt (dv 9) (de_ix o_ix (dv 7) (dv 8)))) (fun _ _ _ _ _ => de_tup (da_cons (de_tup (da_cons (dv 8) (da_cons (dv 9) (da_nil)))) (da_cons (dv 5) (da_nil))))) (da_nil))))))))
    (dss_one (ds_ret (de_minN rfl u65 (by rfl) m_min (da_cons (dv 4) (da_nil)) (de_non)))))))
abbrev s_is_tracked : Stmt := topS 24
theorem sc_is_tracked : FnScope ["history"] ["history"] (defScope s_is_tracked) := ⟨rfl, rfl, rfl, by decide +kernel, rfl, by decide +kernel, by decide +kernel⟩
set_option maxHeartbeats 4000000 in
theorem der_is_tracked {P : Program} {w : World} {K : PySem.W.Frag} {mg : Str → Option Value} {base : Heap} {f : Addr} {fd : FuncData} (F : Fun K "is_tracked" "is_tracked" s_is_tracked f fd) (D_find_untracked : DFo P w K mg base 5 "find_untracked" 1 (dFn 10 B_find_untracked_6494)): FnOk P w K mg base CX0 6 f fd ["history"] (lP ⟨P, w, K⟩ 1 (dFn 1 B_is_tracked_a4d2)) := by
  refine fn_o F sc_is_tracked rfl fun cdv A outer s H E hr => ?_
  have nd := sc_is_tracked.nd
  have u64 := hr.units
  have u65 : (A.deeper (envOfC "is_tracked" (defScope s_is_tracked) s.heap.objs.size f cdv)).units + 65 < cLine := by have := hr.un; omega
  have u1 : (A.deeper (envOfC "is_tracked" (defScope s_is_tracked) s.heap.objs.size f cdv)).units + 1 < cLine := by have := hr.un; omega
  unfold B_is_tracked_a4d2
  exact dss_one (ds_ret (de_isN (de_callo D_find_untracked (hr.mono (by decide)) (by rfl) (da_cons (dv 0) (da_nil)))))
abbrev s__law_parts : Stmt := topS 32
theorem sc__law_parts : FnScope ["_law_row", "_law_found", "_law_event"] ["_law_row"] (defScope s__law_parts) := ⟨rfl, rfl, rfl, by decide +kernel, rfl, by decide +kernel, by decide +kernel⟩
set_option maxHeartbeats 4000000 in
theorem der__law_parts {P : Program} {w : World} {K : PySem.W.Frag} {mg : Str → Option Value} {base : Heap} {f : Addr} {fd : FuncData} (F : Fun K "_law_parts" "_law_parts" s__law_parts f fd) : FnOk P w K mg base CX0 1 f fd ["_law_row"] (lP ⟨P, w, K⟩ 1 (dFn 3 B_law_parts_4773)) := by
  refine fn_o F sc__law_parts rfl fun cdv A outer s H E hr => ?_
  have nd := sc__law_parts.nd
  have u64 := hr.units
  have u65 : (A.deeper (envOfC "_law_parts" (defScope s__law_parts) s.heap.objs.size f cdv)).units + 65 < cLine := by have := hr.un; omega
  have u1 : (A.deeper (envOfC "_law_parts" (defScope s__law_parts) s.heap.objs.size f cdv)).units + 1 < cLine := by have := hr.un; omega
  unfold B_law_parts_4773
  exact dss_cons (ds_set (i := 1) nd rfl (by first | exact .inl rfl | exact .inr rfl) (de_lst (da_cons (de_lst (da_nil)) (da_nil))))
    (dss_cons (ds_for PassesOwn.never rfl (di_val (dv 0)) (dg_name (i := 2) nd rfl (by first | exact .inl rfl | exact .inr rfl)) (dss_one (ds_if (dt_cmp (o_eq u64) (dv 2) (de_int)) (dss_one (ds_set (i := 1) nd rfl (by first | exact .inl rfl | exact .inr rfl) (de_bin o_add (dv 1) (de_lst (da_cons (de_lst (da_nil)) (da_nil)))))) (dss_one (ds_set (i := 1) nd rfl (by first | exact .inl rfl | exact .inr rfl) (de_bin o_add (de_sl (dv 1) (do_none) (do_some (de_un o_neg (de_int)))) (de_lst (da_cons (de_bin o_add (de_ix o_ix (dv 1) (de_un o_neg (de_int))) (de_lst (da_cons (dv 2) (da_nil)))) (da_nil)))))))))
    (dss_one (ds_ret (dv 1))))
abbrev s__law_ordered : Stmt := topS 33
theorem sc__law_ordered : FnScope ["_law_name", "_law_rows", "_law_row", "_law_part", "_law_signs", "_law_event"] ["_law_name", "_law_rows"] (defScope s__law_ordered) := ⟨rfl, rfl, rfl, by decide +kernel, rfl, by decide +kernel, by decide +kernel⟩
set_option maxHeartbeats 4000000 in
theorem der__law_ordered {P : Program} {w : World} {K : PySem.W.Frag} {mg : Str → Option Value} {base : Heap} {f : Addr} {fd : FuncData} (F : Fun K "_law_ordered" "_law_ordered" s__law_ordered f fd) (D__law_parts : DFo P w K mg base 1 "_law_parts" 1 (dFn 3 B_law_parts_4773)) (m_sorted : mg "sorted" = none): FnOk P w K mg base CX0 2 f fd ["_law_name", "_law_rows"] (lP ⟨P, w, K⟩ 2 (dFn 6 B_law_ordered_231a)) := by
  refine fn_o F sc__law_ordered rfl fun cdv A outer s H E hr => ?_
  have nd := sc__law_ordered.nd
  have u64 := hr.units
  have u65 : (A.deeper (envOfC "_law_ordered" (defScope s__law_ordered) s.heap.objs.size f cdv)).units + 65 < cLine := by have := hr.un; omega
  have u1 : (A.deeper (envOfC "_law_ordered" (defScope s__law_ordered) s.heap.objs.size f cdv)).units + 1 < cLine := by have := hr.un; omega
  unfold B_law_ordered_231a
  exact dss_cons (ds_for PassesOwn.never rfl (di_val (dv 1)) (dg_name (i := 2) nd rfl (by first | exact .inl rfl | exact .inr rfl)) (dss_one (ds_for PassesOwn.never rfl (di_val (de_callo D__law_parts (hr.mono (by decide)) (by rfl) (da_cons (dv 2) (da_nil)))) (dg_name (i := 3) nd rfl (by first | exact .inl rfl | exact .inr rfl)) (dss_cons (ds_setLc (i := 4) (own := [("_law_event", 5)]) rfl nd rfl rfl (sw_true rfl rfl rfl (by decide +kernel)) (di_val (dv 3)) (blkOk_by (by first | decide +kernel | rfl)) (by decide) (fun _ _ _ _ _ => dg_name (i := 5) nd rfl (by first | exact .inl rfl | exact .inr rfl)) (fun _ _ _ _ _ => dts_nil) (fun _ _ _ _ _ => de_cmp o_gt (dv 5) (de_int)))
    (dss_one (ds_if (DW.dt (dw_or (dt_cmp (o_ne u64) (dv 4) (de_callB (b_sortedB u64) (by rfl) m_sorted (by decide +kernel) (da_cons (dv 4) (da_nil)))) (dw_or1 (DW.dt (dw_and (dt_cmp (o_eq u64) (dv 0) (de_str)) (dw_and1 (dt_cmp o_gt (de_mL PySem.F.slot_list_count PySem.F.type_list_count (m_lcountB u64) (dv 4) (da_cons (de_bl) (da_nil))) (de_int)))))))) (dss_one (ds_ret (de_bl))) (dss_nil)))))))
    (dss_one (ds_ret (de_bl)))
abbrev s_Rule__save : Stmt := (clsB (topS 2)).getD 2 (.Pass ⟨0, 0, 0, 0⟩)
theorem sc_Rule__save : FnScope ["self", "process"] ["self", "process"] (defScope s_Rule__save) := ⟨rfl, rfl, rfl, by decide +kernel, rfl, by decide +kernel, by decide +kernel⟩
set_option maxHeartbeats 4000000 in
theorem der_Rule__save {P : Program} {w : World} {K : PySem.W.Frag} {mg : Str → Option Value} {base : Heap} {f : Addr} {fd : FuncData} (F : Fun K "save" "Rule.save" s_Rule__save f fd)  : FnOk P w K mg base CX0 1 f fd ["self", "process"] (lP ⟨P, w, K⟩ 2 (dFn 2 B_Rule__save_1a8c)) := by
  refine fn_oq F sc_Rule__save rfl fun cdv A outer s H E hr => ?_
  have nd := sc_Rule__save.nd
  have u64 := hr.units
  have u65 : (A.deeper (envOfC "Rule.save" (defScope s_Rule__save) s.heap.objs.size f cdv)).units + 65 < cLine := by have := hr.un; omega
  have u1 : (A.deeper (envOfC "Rule.save" (defScope s_Rule__save) s.heap.objs.size f cdv)).units + 1 < cLine := by have := hr.un; omega
  unfold B_Rule__save_1a8c
  exact dss_one (ds_pass)
abbrev s_SaveAfterSend__save : Stmt := (clsB (topS 3)).getD 2 (.Pass ⟨0, 0, 0, 0⟩)
theorem sc_SaveAfterSend__save : FnScope ["self", "process"] ["self", "process"] (defScope s_SaveAfterSend__save) := ⟨rfl, rfl, rfl, by decide +kernel, rfl, by decide +kernel, by decide +kernel⟩
set_option maxHeartbeats 4000000 in
theorem der_SaveAfterSend__save {P : Program} {w : World} {K : PySem.W.Frag} {mg : Str → Option Value} {base : Heap} {f : Addr} {fd : FuncData} (F : Fun K "save" "SaveAfterSend.save" s_SaveAfterSend__save f fd)  (A_SaveAfterSend__busy : ClsF K "SaveAfterSend" "busy") (A_SaveAlways__busy : ClsF K "SaveAlways" "busy") : FnOk P w K mg base CX0 1 f fd ["self", "process"] (lP ⟨P, w, K⟩ 2 (dFn 2 B_SaveAfterSend__save_1876)) := by
  refine fn_oq F sc_SaveAfterSend__save rfl fun cdv A outer s H E hr => ?_
  have nd := sc_SaveAfterSend__save.nd
  have u64 := hr.units
  have u65 : (A.deeper (envOfC "SaveAfterSend.save" (defScope s_SaveAfterSend__save) s.heap.objs.size f cdv)).units + 65 < cLine := by have := hr.un; omega
  have u1 : (A.deeper (envOfC "SaveAfterSend.save" (defScope s_SaveAfterSend__save) s.heap.objs.size f cdv)).units + 1 < cLine := by have := hr.un; omega
  unfold B_SaveAfterSend__save_1876
  exact dss_one (ds_asg (b := true) (de_bl) (dg_sub (de_fld (.cons (A_SaveAfterSend__busy) (.cons (A_SaveAlways__busy) (.nil))) (dv 0)) (dv 1)))
abbrev s_SaveAlways__save : Stmt := (clsB (topS 4)).getD 1 (.Pass ⟨0, 0, 0, 0⟩)
theorem sc_SaveAlways__save : NdefX.NScope ["self", "process", "__class__"] ["self", "process"] ["__class__"] (defScope s_SaveAlways__save) := NdefX.nscope_by (by decide +kernel)
set_option maxHeartbeats 4000000 in
theorem der_SaveAlways__save {P : Program} {w : World} {K : PySem.W.Frag} {mg : Str → Option Value} {base : Heap} {f Dc cda cc : Addr} {fd : FuncData} (F : FunS P K mg "save" "SaveAlways.save" s_SaveAlways__save f fd Dc cda cc)  (S_SaveAlways__save__SaveAlways__save : DSup P w K mg base 1 Dc "SaveAlways" "save" 2 (dFn 2 B_SaveAfterSend__save_1876)) : FnOk P w K mg base CX0 2 f fd ["self", "process"] (lP ⟨P, w, K⟩ 2 (dFn 3 B_SaveAlways__save_ec49)) := by
  refine fn_oS F sc_SaveAlways__save rfl fun A outer s H E hr => ?_
  have nd := sc_SaveAlways__save.nd
  have u64 := hr.units
  unfold B_SaveAlways__save_ec49
  exact dssA_cons (dsA_expr (deA_super (k := 1) (supT_of F rfl rfl rfl rfl rfl) (.cons (S_SaveAlways__save__SaveAlways__save.mono (by decide)) (.nil)) (hr.mono (by decide)) (da_cons (dv 1) (da_nil))))
    (dssA_nil)
abbrev s_Rounds__save : Stmt := (clsB (topS 5)).getD 2 (.Pass ⟨0, 0, 0, 0⟩)
theorem sc_Rounds__save : FnScope ["self", "process"] ["self", "process"] (defScope s_Rounds__save) := ⟨rfl, rfl, rfl, by decide +kernel, rfl, by decide +kernel, by decide +kernel⟩
set_option maxHeartbeats 4000000 in
theorem der_Rounds__save {P : Program} {w : World} {K : PySem.W.Frag} {mg : Str → Option Value} {base : Heap} {f : Addr} {fd : FuncData} (F : Fun K "save" "Rounds.save" s_Rounds__save f fd)  (A_Rounds__numbers : ClsF K "Rounds" "numbers") : FnOk P w K mg base CX0 1 f fd ["self", "process"] (lP ⟨P, w, K⟩ 2 (dFn 2 B_Rounds__save_512a)) := by
  refine fn_oq F sc_Rounds__save rfl fun cdv A outer s H E hr => ?_
  have nd := sc_Rounds__save.nd
  have u64 := hr.units
  have u65 : (A.deeper (envOfC "Rounds.save" (defScope s_Rounds__save) s.heap.objs.size f cdv)).units + 65 < cLine := by have := hr.un; omega
  have u1 : (A.deeper (envOfC "Rounds.save" (defScope s_Rounds__save) s.heap.objs.size f cdv)).units + 1 < cLine := by have := hr.un; omega
  unfold B_Rounds__save_512a
  exact dss_one (ds_augL ip_add (de_fld (.cons (A_Rounds__numbers) (.nil)) (dv 0)) (dv 1) (de_int))
abbrev s_Rule__send : Stmt := (clsB (topS 2)).getD 3 (.Pass ⟨0, 0, 0, 0⟩)
theorem sc_Rule__send : FnScope ["self", "process"] ["self", "process"] (defScope s_Rule__send) := ⟨rfl, rfl, rfl, by decide +kernel, rfl, by decide +kernel, by decide +kernel⟩
set_option maxHeartbeats 4000000 in
theorem der_Rule__send {P : Program} {w : World} {K : PySem.W.Frag} {mg : Str → Option Value} {base : Heap} {f : Addr} {fd : FuncData} (F : Fun K "send" "Rule.send" s_Rule__send f fd)  : FnOk P w K mg base CX0 1 f fd ["self", "process"] (lP ⟨P, w, K⟩ 2 (dFn 2 B_Rule__send_4f02)) := by
  refine fn_oq F sc_Rule__send rfl fun cdv A outer s H E hr => ?_
  have nd := sc_Rule__send.nd
  have u64 := hr.units
  have u65 : (A.deeper (envOfC "Rule.send" (defScope s_Rule__send) s.heap.objs.size f cdv)).units + 65 < cLine := by have := hr.un; omega
  have u1 : (A.deeper (envOfC "Rule.send" (defScope s_Rule__send) s.heap.objs.size f cdv)).units + 1 < cLine := by have := hr.un; omega
  unfold B_Rule__send_4f02
  exact dss_one (ds_ret (de_non))
abbrev s_SaveAfterSend__send : Stmt := (clsB (topS 3)).getD 3 (.Pass ⟨0, 0, 0, 0⟩)
theorem sc_SaveAfterSend__send : FnScope ["self", "process"] ["self", "process"] (defScope s_SaveAfterSend__send) := ⟨rfl, rfl, rfl, by decide +kernel, rfl, by decide +kernel, by decide +kernel⟩
set_option maxHeartbeats 4000000 in
theorem der_SaveAfterSend__send {P : Program} {w : World} {K : PySem.W.Frag} {mg : Str → Option Value} {base : Heap} {f : Addr} {fd : FuncData} (F : Fun K "send" "SaveAfterSend.send" s_SaveAfterSend__send f fd)  (A_SaveAfterSend__busy : ClsF K "SaveAfterSend" "busy") (A_SaveAlways__busy : ClsF K "SaveAlways" "busy") : FnOk P w K mg base CX0 1 f fd ["self", "process"] (lP ⟨P, w, K⟩ 2 (dFn 2 B_SaveAfterSend__send_b8d5)) := by
  refine fn_oq F sc_SaveAfterSend__send rfl fun cdv A outer s H E hr => ?_
  have nd := sc_SaveAfterSend__send.nd
  have u64 := hr.units
  have u65 : (A.deeper (envOfC "SaveAfterSend.send" (defScope s_SaveAfterSend__send) s.heap.objs.size f cdv)).units + 65 < cLine := by have := hr.un; omega
  have u1 : (A.deeper (envOfC "SaveAfterSend.send" (defScope s_SaveAfterSend__send) s.heap.objs.size f cdv)).units + 1 < cLine := by have := hr.un; omega
  unfold B_SaveAfterSend__send_b8d5
  exact dss_cons (ds_asg (b := true) (de_bl) (dg_sub (de_fld (.cons (A_SaveAfterSend__busy) (.cons (A_SaveAlways__busy) (.nil))) (dv 0)) (dv 1)))
    (dss_one (ds_ret (de_non)))
abbrev s_SaveAlways__send : Stmt := (clsB (topS 4)).getD 2 (.Pass ⟨0, 0, 0, 0⟩)
theorem sc_SaveAlways__send : NdefX.NScope ["self", "process", "__class__"] ["self", "process"] ["__class__"] (defScope s_SaveAlways__send) := NdefX.nscope_by (by decide +kernel)
set_option maxHeartbeats 4000000 in
theorem der_SaveAlways__send {P : Program} {w : World} {K : PySem.W.Frag} {mg : Str → Option Value} {base : Heap} {f Dc cda cc : Addr} {fd : FuncData} (F : FunS P K mg "send" "SaveAlways.send" s_SaveAlways__send f fd Dc cda cc)  (S_SaveAlways__send__SaveAlways__send : DSup P w K mg base 1 Dc "SaveAlways" "send" 2 (dFn 2 B_SaveAfterSend__send_b8d5)) : FnOk P w K mg base CX0 2 f fd ["self", "process"] (lP ⟨P, w, K⟩ 2 (dFn 3 B_SaveAlways__send_496d)) := by
  refine fn_oS F sc_SaveAlways__send rfl fun A outer s H E hr => ?_
  have nd := sc_SaveAlways__send.nd
  have u64 := hr.units
  unfold B_SaveAlways__send_496d
  exact dssA_cons (dsA_ret (deA_super (k := 1) (supT_of F rfl rfl rfl rfl rfl) (.cons (S_SaveAlways__send__SaveAlways__send.mono (by decide)) (.nil)) (hr.mono (by decide)) (da_cons (dv 1) (da_nil))))
    (dssA_nil)
abbrev s_Rounds__send : Stmt := (clsB (topS 5)).getD 3 (.Pass ⟨0, 0, 0, 0⟩)
theorem sc_Rounds__send : FnScope ["self", "process"] ["self", "process"] (defScope s_Rounds__send) := ⟨rfl, rfl, rfl, by decide +kernel, rfl, by decide +kernel, by decide +kernel⟩
set_option maxHeartbeats 4000000 in
theorem der_Rounds__send {P : Program} {w : World} {K : PySem.W.Frag} {mg : Str → Option Value} {base : Heap} {f : Addr} {fd : FuncData} (F : Fun K "send" "Rounds.send" s_Rounds__send f fd)  (A_Rounds__numbers : ClsF K "Rounds" "numbers") : FnOk P w K mg base CX0 1 f fd ["self", "process"] (lP ⟨P, w, K⟩ 2 (dFn 2 B_Rounds__send_2628)) := by
  refine fn_oq F sc_Rounds__send rfl fun cdv A outer s H E hr => ?_
  have nd := sc_Rounds__send.nd
  have u64 := hr.units
  have u65 : (A.deeper (envOfC "Rounds.send" (defScope s_Rounds__send) s.heap.objs.size f cdv)).units + 65 < cLine := by have := hr.un; omega
  have u1 : (A.deeper (envOfC "Rounds.send" (defScope s_Rounds__send) s.heap.objs.size f cdv)).units + 1 < cLine := by have := hr.un; omega
  unfold B_Rounds__send_2628
  exact dss_one (ds_ret (de_ix o_ix (de_fld (.cons (A_Rounds__numbers) (.nil)) (dv 0)) (dv 1)))
abbrev s_Rule__receive : Stmt := (clsB (topS 2)).getD 4 (.Pass ⟨0, 0, 0, 0⟩)
theorem sc_Rule__receive : FnScope ["self", "process", "note"] ["self", "process", "note"] (defScope s_Rule__receive) := ⟨rfl, rfl, rfl, by decide +kernel, rfl, by decide +kernel, by decide +kernel⟩
set_option maxHeartbeats 4000000 in
theorem der_Rule__receive {P : Program} {w : World} {K : PySem.W.Frag} {mg : Str → Option Value} {base : Heap} {f : Addr} {fd : FuncData} (F : Fun K "receive" "Rule.receive" s_Rule__receive f fd)  : FnOk P w K mg base CX0 1 f fd ["self", "process", "note"] (lP ⟨P, w, K⟩ 3 (dFn 3 B_Rule__receive_a200)) := by
  refine fn_oq F sc_Rule__receive rfl fun cdv A outer s H E hr => ?_
  have nd := sc_Rule__receive.nd
  have u64 := hr.units
  have u65 : (A.deeper (envOfC "Rule.receive" (defScope s_Rule__receive) s.heap.objs.size f cdv)).units + 65 < cLine := by have := hr.un; omega
  have u1 : (A.deeper (envOfC "Rule.receive" (defScope s_Rule__receive) s.heap.objs.size f cdv)).units + 1 < cLine := by have := hr.un; omega
  unfold B_Rule__receive_a200
  exact dss_one (ds_ret (de_bl))
abbrev s_SaveAfterSend__receive : Stmt := (clsB (topS 3)).getD 4 (.Pass ⟨0, 0, 0, 0⟩)
theorem sc_SaveAfterSend__receive : FnScope ["self", "process", "note", "must_save"] ["self", "process", "note"] (defScope s_SaveAfterSend__receive) := ⟨rfl, rfl, rfl, by decide +kernel, rfl, by decide +kernel, by decide +kernel⟩
set_option maxHeartbeats 4000000 in
theorem der_SaveAfterSend__receive {P : Program} {w : World} {K : PySem.W.Frag} {mg : Str → Option Value} {base : Heap} {f : Addr} {fd : FuncData} (F : Fun K "receive" "SaveAfterSend.receive" s_SaveAfterSend__receive f fd)  (A_SaveAfterSend__busy : ClsF K "SaveAfterSend" "busy") (A_SaveAlways__busy : ClsF K "SaveAlways" "busy") (A_SaveAfterSend__wanted : ClsF K "SaveAfterSend" "wanted") (A_SaveAlways__wanted : ClsF K "SaveAlways" "wanted") : FnOk P w K mg base CX0 1 f fd ["self", "process", "note"] (lP ⟨P, w, K⟩ 3 (dFn 4 B_SaveAfterSend__receive_3625)) := by
  refine fn_oq F sc_SaveAfterSend__receive rfl fun cdv A outer s H E hr => ?_
  have nd := sc_SaveAfterSend__receive.nd
  have u64 := hr.units
  have u65 : (A.deeper (envOfC "SaveAfterSend.receive" (defScope s_SaveAfterSend__receive) s.heap.objs.size f cdv)).units + 65 < cLine := by have := hr.un; omega
  have u1 : (A.deeper (envOfC "SaveAfterSend.receive" (defScope s_SaveAfterSend__receive) s.heap.objs.size f cdv)).units + 1 < cLine := by have := hr.un; omega
  unfold B_SaveAfterSend__receive_3625
  exact dss_cons (ds_set (i := 3) nd rfl (by first | exact .inl rfl | exact .inr rfl) (de_ix o_ix (de_fld (.cons (A_SaveAfterSend__busy) (.cons (A_SaveAlways__busy) (.nil))) (dv 0)) (dv 1)))
    (dss_cons (ds_if (dt_val (dv 3)) (dss_cons (ds_fadd (.cons (A_SaveAfterSend__wanted) (.cons (A_SaveAlways__wanted) (.nil))) (dv 0) (de_int))
    (dss_one (ds_asg (b := true) (de_bl) (dg_sub (de_fld (.cons (A_SaveAfterSend__busy) (.cons (A_SaveAlways__busy) (.nil))) (dv 0)) (dv 1))))) (dss_nil))
    (dss_one (ds_ret (dv 3))))
abbrev s_SaveAlways__receive : Stmt := (clsB (topS 4)).getD 3 (.Pass ⟨0, 0, 0, 0⟩)
theorem sc_SaveAlways__receive : NdefX.NScope ["self", "process", "note", "__class__", "must_save"] ["self", "process", "note"] ["__class__"] (defScope s_SaveAlways__receive) := NdefX.nscope_by (by decide +kernel)
set_option maxHeartbeats 4000000 in
theorem der_SaveAlways__receive {P : Program} {w : World} {K : PySem.W.Frag} {mg : Str → Option Value} {base : Heap} {f Dc cda cc : Addr} {fd : FuncData} (F : FunS P K mg "receive" "SaveAlways.receive" s_SaveAlways__receive f fd Dc cda cc)  (A_SaveAlways__busy : ClsF K "SaveAlways" "busy") (S_SaveAlways__receive__SaveAlways__receive : DSup P w K mg base 1 Dc "SaveAlways" "receive" 3 (dFn 4 B_SaveAfterSend__receive_3625)) : FnOk P w K mg base CX0 2 f fd ["self", "process", "note"] (lP ⟨P, w, K⟩ 3 (dFn 5 B_SaveAlways__receive_2317)) := by
  refine fn_oS F sc_SaveAlways__receive rfl fun A outer s H E hr => ?_
  have nd := sc_SaveAlways__receive.nd
  have u64 := hr.units
  unfold B_SaveAlways__receive_2317
  exact dssA_cons (dsA_set (i := 4) nd rfl (by first | exact .inl rfl | exact .inr rfl) (deA_super (k := 1) (supT_of F rfl rfl rfl rfl rfl) (.cons (S_SaveAlways__receive__SaveAlways__receive.mono (by decide)) (.nil)) (hr.mono (by decide)) (da_cons (dv 1) (da_cons (dv 2) (da_nil)))))
    (dssA_cons (dsA_of (ds_asg (b := true) (de_bl) (dg_sub (de_fld (.cons (A_SaveAlways__busy) (.nil)) (dv 0)) (dv 1))))
    (dssA_cons (dsA_of (ds_ret (dv 4)))
    (dssA_nil)))
abbrev s_Rounds__receive : Stmt := (clsB (topS 5)).getD 4 (.Pass ⟨0, 0, 0, 0⟩)
theorem sc_Rounds__receive : FnScope ["self", "process", "note", "must_save"] ["self", "process", "note"] (defScope s_Rounds__receive) := ⟨rfl, rfl, rfl, by decide +kernel, rfl, by decide +kernel, by decide +kernel⟩
set_option maxHeartbeats 4000000 in
theorem der_Rounds__receive {P : Program} {w : World} {K : PySem.W.Frag} {mg : Str → Option Value} {base : Heap} {f : Addr} {fd : FuncData} (F : Fun K "receive" "Rounds.receive" s_Rounds__receive f fd)  (A_Rounds__numbers : ClsF K "Rounds" "numbers") (A_Rounds__wanted : ClsF K "Rounds" "wanted") : FnOk P w K mg base CX0 1 f fd ["self", "process", "note"] (lP ⟨P, w, K⟩ 3 (dFn 4 B_Rounds__receive_9908)) := by
  refine fn_oq F sc_Rounds__receive rfl fun cdv A outer s H E hr => ?_
  have nd := sc_Rounds__receive.nd
  have u64 := hr.units
  have u65 : (A.deeper (envOfC "Rounds.receive" (defScope s_Rounds__receive) s.heap.objs.size f cdv)).units + 65 < cLine := by have := hr.un; omega
  have u1 : (A.deeper (envOfC "Rounds.receive" (defScope s_Rounds__receive) s.heap.objs.size f cdv)).units + 1 < cLine := by have := hr.un; omega
  unfold B_Rounds__receive_9908
  exact dss_cons (ds_set (i := 3) nd rfl (by first | exact .inl rfl | exact .inr rfl) (de_cmp o_gt (dv 2) (de_ix o_ix (de_fld (.cons (A_Rounds__numbers) (.nil)) (dv 0)) (dv 1))))
    (dss_cons (ds_if (dt_val (dv 3)) (dss_cons (ds_fadd (.cons (A_Rounds__wanted) (.nil)) (dv 0) (de_int))
    (dss_one (ds_asg (b := true) (dv 2) (dg_sub (de_fld (.cons (A_Rounds__numbers) (.nil)) (dv 0)) (dv 1))))) (dss_nil))
    (dss_one (ds_ret (dv 3))))
abbrev s_run_plan : Stmt := topS 6
theorem sc_run_plan : FnScope ["rule", "plan", "rows", "notes", "step", "word", "process", "message", "row"] ["rule", "plan"] (defScope s_run_plan) := ⟨rfl, rfl, rfl, by decide +kernel, rfl, by decide +kernel, by decide +kernel⟩
set_option maxHeartbeats 4000000 in
theorem der_run_plan {P : Program} {w : World} {K : PySem.W.Frag} {mg : Str → Option Value} {base : Heap} {f : Addr} {fd : FuncData} (F : Fun K "run_plan" "run_plan" s_run_plan f fd)  (M_Rule__save : DMet P w K mg base 1 "Rule" "save" 2 (dFn 2 B_Rule__save_1a8c)) (M_SaveAfterSend__save : DMet P w K mg base 1 "SaveAfterSend" "save" 2 (dFn 2 B_SaveAfterSend__save_1876)) (M_SaveAlways__save : DMet P w K mg base 2 "SaveAlways" "save" 2 (dFn 3 B_SaveAlways__save_ec49)) (M_Rounds__save : DMet P w K mg base 1 "Rounds" "save" 2 (dFn 2 B_Rounds__save_512a)) (M_Rule__send : DMet P w K mg base 1 "Rule" "send" 2 (dFn 2 B_Rule__send_4f02)) (M_SaveAfterSend__send : DMet P w K mg base 1 "SaveAfterSend" "send" 2 (dFn 2 B_SaveAfterSend__send_b8d5)) (M_SaveAlways__send : DMet P w K mg base 2 "SaveAlways" "send" 2 (dFn 3 B_SaveAlways__send_496d)) (M_Rounds__send : DMet P w K mg base 1 "Rounds" "send" 2 (dFn 2 B_Rounds__send_2628)) (M_Rule__receive : DMet P w K mg base 1 "Rule" "receive" 3 (dFn 3 B_Rule__receive_a200)) (M_SaveAfterSend__receive : DMet P w K mg base 1 "SaveAfterSend" "receive" 3 (dFn 4 B_SaveAfterSend__receive_3625)) (M_SaveAlways__receive : DMet P w K mg base 2 "SaveAlways" "receive" 3 (dFn 5 B_SaveAlways__receive_2317)) (M_Rounds__receive : DMet P w K mg base 1 "Rounds" "receive" 3 (dFn 4 B_Rounds__receive_9908)) (A_Rule__processes : ClsF K "Rule" "processes") (A_SaveAfterSend__processes : ClsF K "SaveAfterSend" "processes") (A_SaveAlways__processes : ClsF K "SaveAlways" "processes") (A_Rounds__processes : ClsF K "Rounds" "processes") (m_tuple : mg "tuple" = none) (m_len : mg "len" = none) (m_range : mg "range" = none): FnOk P w K mg base CX0 3 f fd ["rule", "plan"] (lP ⟨P, w, K⟩ 2 (dFn 9 B_run_plan_ed6f)) := by
  refine fn_o F sc_run_plan rfl fun cdv A outer s H E hr => ?_
  have nd := sc_run_plan.nd
  have u64 := hr.units
  have u65 : (A.deeper (envOfC "run_plan" (defScope s_run_plan) s.heap.objs.size f cdv)).units + 65 < cLine := by have := hr.un; omega
  have u1 : (A.deeper (envOfC "run_plan" (defScope s_run_plan) s.heap.objs.size f cdv)).units + 1 < cLine := by have := hr.un; omega
  unfold B_run_plan_ed6f
  exact dss_cons (ds_setLc (i := 2) (own := [("row", 8)]) rfl nd rfl rfl (sw_true rfl rfl rfl (by decide +kernel)) (di_rg1 (by rfl) m_range (da_cons (de_fld (.cons (A_Rule__processes) (.cons (A_SaveAfterSend__processes) (.cons (A_SaveAlways__processes) (.cons (A_Rounds__processes) (.nil))))) (dv 0)) (da_nil))) (blkOk_by (by first | decide +kernel | rfl)) (by decide) (fun _ _ _ _ _ => dg_name (i := 8) nd rfl (by first | exact .inl rfl | exact .inr rfl)) (fun _ _ _ _ _ => dts_nil) (fun _ _ _ _ _ => de_lst (da_nil)))
    (dss_cons (ds_set (i := 3) nd rfl (by first | exact .inl rfl | exact .inr rfl) (de_lst (da_nil)))
    (dss_cons (ds_for PassesOwn.never rfl (di_val (dv 1)) (dg_name (i := 4) nd rfl (by first | exact .inl rfl | exact .inr rfl)) (dss_cons (ds_asg (b := true) (de_sl (dv 4) (do_none) (do_some (de_int))) (dg_tup rfl (dgs_cons (dg_name (i := 5) nd rfl (by first | exact .inl rfl | exact .inr rfl)) (dgs_cons (dg_name (i := 6) nd rfl (by first | exact .inl rfl | exact .inr rfl)) (dgs_nil)))))
    (dss_one (ds_if (dt_cmp (o_eq u64) (dv 5) (de_str)) (dss_cons (ds_expr (de_meth (k := 2) (.cons (M_Rule__save.mono (by decide)) (.cons (M_SaveAfterSend__save.mono (by decide)) (.cons (M_SaveAlways__save.mono (by decide)) (.cons (M_Rounds__save.mono (by decide)) (.nil))))) (hr.mono (by decide)) (dv 0) (da_cons (dv 6) (da_nil))))
    (dss_one (ds_expr (de_mL PySem.F.slot_list_append PySem.F.type_list_append m_append (de_ix o_ix (dv 2) (dv 6)) (da_cons (de_int) (da_nil)))))) (dss_one (ds_if (dt_cmp (o_eq u64) (dv 5) (de_str)) (dss_cons (ds_expr (de_mL PySem.F.slot_list_append PySem.F.type_list_append m_append (dv 3) (da_cons (de_meth (k := 2) (.cons (M_Rule__send.mono (by decide)) (.cons (M_SaveAfterSend__send.mono (by decide)) (.cons (M_SaveAlways__send.mono (by decide)) (.cons (M_Rounds__send.mono (by decide)) (.nil))))) (hr.mono (by decide)) (dv 0) (da_cons (dv 6) (da_nil))) (da_nil))))
    (dss_one (ds_expr (de_mL PySem.F.slot_list_append PySem.F.type_list_append m_append (de_ix o_ix (dv 2) (dv 6)) (da_cons (de_callB b_len (by rfl) m_len PySem.boot_len (da_cons (dv 3) (da_nil))) (da_nil)))))) (dss_cons (ds_set (i := 7) nd rfl (by first | exact .inl rfl | exact .inr rfl) (de_ix o_ix (dv 4) (de_int)))
    (dss_cons (ds_if (dt_val (de_meth (k := 2) (.cons (M_Rule__receive.mono (by decide)) (.cons (M_SaveAfterSend__receive.mono (by decide)) (.cons (M_SaveAlways__receive.mono (by decide)) (.cons (M_Rounds__receive.mono (by decide)) (.nil))))) (hr.mono (by decide)) (dv 0) (da_cons (dv 6) (da_cons (de_ix o_ix (dv 3) (de_bin o_sub (dv 7) (de_int))) (da_nil))))) (dss_one (ds_expr (de_mL PySem.F.slot_list_append PySem.F.type_list_append m_append (de_ix o_ix (dv 2) (dv 6)) (da_cons (de_int) (da_nil))))) (dss_nil))
    (dss_one (ds_expr (de_mL PySem.F.slot_list_append PySem.F.type_list_append m_append (de_ix o_ix (dv 2) (dv 6)) (da_cons (de_un o_neg (dv 7)) (da_nil)))))))))))))
    (dss_one (ds_ret (de_callTy b_tuple (by rfl) m_tuple (by decide +kernel) (da_cons (de_lc (own := [("row", 8)]) rfl nd (di_val (dv 2)) (blkOk_by (by first | decide +kernel | rfl)) (by decide) (fun _ _ _ _ _ => dg_name (i := 8) nd rfl (by first | exact .inl rfl | exact .inr rfl)) (fun _ _ _ _ _ => dts_nil) (fun _ _ _ _ _ => de_callTy b_tuple (by rfl) m_tuple (by decide +kernel) (da_cons (dv 8) (da_nil)))) (da_nil)))))))
abbrev s_Rule____init__ : Stmt := (clsB (topS 2)).getD 1 (.Pass ⟨0, 0, 0, 0⟩)
theorem sc_Rule____init__ : FnScope ["self", "processes"] ["self", "processes"] (defScope s_Rule____init__) := ⟨rfl, rfl, rfl, by decide +kernel, rfl, by decide +kernel, by decide +kernel⟩
set_option maxHeartbeats 4000000 in
theorem der_Rule____init__ {P : Program} {w : World} {K : PySem.W.Frag} {mg : Str → Option Value} {base : Heap} {f : Addr} {fd : FuncData} (F : Fun K "__init__" "Rule.__init__" s_Rule____init__ f fd)  (A_Rule__wanted : ClsF K "Rule" "wanted") (A_SaveAfterSend__wanted : ClsF K "SaveAfterSend" "wanted") (A_SaveAlways__wanted : ClsF K "SaveAlways" "wanted") (A_Rounds__wanted : ClsF K "Rounds" "wanted") (A_Rule__processes : ClsF K "Rule" "processes") (A_SaveAfterSend__processes : ClsF K "SaveAfterSend" "processes") (A_SaveAlways__processes : ClsF K "SaveAlways" "processes") (A_Rounds__processes : ClsF K "Rounds" "processes") : FnOk P w K mg base CX0 1 f fd ["self", "processes"] (lP ⟨P, w, K⟩ 2 (dFn 2 B_Rule____init___2563)) := by
  refine fn_oq F sc_Rule____init__ rfl fun cdv A outer s H E hr => ?_
  have nd := sc_Rule____init__.nd
  have u64 := hr.units
  have u65 : (A.deeper (envOfC "Rule.__init__" (defScope s_Rule____init__) s.heap.objs.size f cdv)).units + 65 < cLine := by have := hr.un; omega
  have u1 : (A.deeper (envOfC "Rule.__init__" (defScope s_Rule____init__) s.heap.objs.size f cdv)).units + 1 < cLine := by have := hr.un; omega
  unfold B_Rule____init___2563
  exact dss_cons (ds_fset (.cons (A_Rule__processes) (.cons (A_SaveAfterSend__processes) (.cons (A_SaveAlways__processes) (.cons (A_Rounds__processes) (.nil))))) (dv 0) (dv 1))
    (dss_one (ds_fset (.cons (A_Rule__wanted) (.cons (A_SaveAfterSend__wanted) (.cons (A_SaveAlways__wanted) (.cons (A_Rounds__wanted) (.nil))))) (dv 0) (de_int)))
abbrev s_SaveAfterSend____init__ : Stmt := (clsB (topS 3)).getD 1 (.Pass ⟨0, 0, 0, 0⟩)
theorem sc_SaveAfterSend____init__ : NdefX.NScope ["self", "processes", "__class__"] ["self", "processes"] ["__class__"] (defScope s_SaveAfterSend____init__) := NdefX.nscope_by (by decide +kernel)
set_option maxHeartbeats 4000000 in
theorem der_SaveAfterSend____init__ {P : Program} {w : World} {K : PySem.W.Frag} {mg : Str → Option Value} {base : Heap} {f Dc cda cc : Addr} {fd : FuncData} (F : FunS P K mg "__init__" "SaveAfterSend.__init__" s_SaveAfterSend____init__ f fd Dc cda cc)  (A_SaveAfterSend__busy : ClsF K "SaveAfterSend" "busy") (A_SaveAlways__busy : ClsF K "SaveAlways" "busy") (S_SaveAfterSend____init____SaveAfterSend____init__ : DSup P w K mg base 1 Dc "SaveAfterSend" "__init__" 2 (dFn 2 B_Rule____init___2563)) (S_SaveAfterSend____init____SaveAlways____init__ : DSup P w K mg base 1 Dc "SaveAlways" "__init__" 2 (dFn 2 B_Rule____init___2563)) : FnOk P w K mg base CX0 2 f fd ["self", "processes"] (lP ⟨P, w, K⟩ 2 (dFn 3 B_SaveAfterSend____init___fcad)) := by
  refine fn_oS F sc_SaveAfterSend____init__ rfl fun A outer s H E hr => ?_
  have nd := sc_SaveAfterSend____init__.nd
  have u64 := hr.units
  unfold B_SaveAfterSend____init___fcad
  exact dssA_cons (dsA_expr (deA_super (k := 1) (supT_of F rfl rfl rfl rfl rfl) (.cons (S_SaveAfterSend____init____SaveAfterSend____init__.mono (by decide)) (.cons (S_SaveAfterSend____init____SaveAlways____init__.mono (by decide)) (.nil))) (hr.mono (by decide)) (da_cons (dv 1) (da_nil))))
    (dssA_cons (dsA_of (ds_fset (.cons (A_SaveAfterSend__busy) (.cons (A_SaveAlways__busy) (.nil))) (dv 0) (de_bin o_mul (de_lst (da_cons (de_bl) (da_nil))) (dv 1))))
    (dssA_nil))
abbrev s_Rounds____init__ : Stmt := (clsB (topS 5)).getD 1 (.Pass ⟨0, 0, 0, 0⟩)
theorem sc_Rounds____init__ : NdefX.NScope ["self", "processes", "__class__"] ["self", "processes"] ["__class__"] (defScope s_Rounds____init__) := NdefX.nscope_by (by decide +kernel)
set_option maxHeartbeats 4000000 in
theorem der_Rounds____init__ {P : Program} {w : World} {K : PySem.W.Frag} {mg : Str → Option Value} {base : Heap} {f Dc cda cc : Addr} {fd : FuncData} (F : FunS P K mg "__init__" "Rounds.__init__" s_Rounds____init__ f fd Dc cda cc)  (A_Rounds__numbers : ClsF K "Rounds" "numbers") (S_Rounds____init____Rounds____init__ : DSup P w K mg base 1 Dc "Rounds" "__init__" 2 (dFn 2 B_Rule____init___2563)) : FnOk P w K mg base CX0 2 f fd ["self", "processes"] (lP ⟨P, w, K⟩ 2 (dFn 3 B_Rounds____init___8e81)) := by
  refine fn_oS F sc_Rounds____init__ rfl fun A outer s H E hr => ?_
  have nd := sc_Rounds____init__.nd
  have u64 := hr.units
  unfold B_Rounds____init___8e81
  exact dssA_cons (dsA_expr (deA_super (k := 1) (supT_of F rfl rfl rfl rfl rfl) (.cons (S_Rounds____init____Rounds____init__.mono (by decide)) (.nil)) (hr.mono (by decide)) (da_cons (dv 1) (da_nil))))
    (dssA_cons (dsA_of (ds_fset (.cons (A_Rounds__numbers) (.nil)) (dv 0) (de_bin o_mul (de_lst (da_cons (de_int) (da_nil))) (dv 1))))
    (dssA_nil))
abbrev s__law_rule : Stmt := topS 31
theorem sc__law_rule : FnScope ["_law_name", "_law_count"] ["_law_name", "_law_count"] (defScope s__law_rule) := ⟨rfl, rfl, rfl, by decide +kernel, rfl, by decide +kernel, by decide +kernel⟩
set_option maxHeartbeats 4000000 in
theorem der__law_rule {P : Program} {w : World} {K : PySem.W.Frag} {mg : Str → Option Value} {base : Heap} {f : Addr} {fd : FuncData} (F : Fun K "_law_rule" "_law_rule" s__law_rule f fd)  (K_SaveAlways : DMk P w K mg base 2 "SaveAlways" 2 (dFn 3 B_SaveAfterSend____init___fcad)) (K_Rounds : DMk P w K mg base 2 "Rounds" 2 (dFn 3 B_Rounds____init___8e81)) (K_SaveAfterSend : DMk P w K mg base 2 "SaveAfterSend" 2 (dFn 3 B_SaveAfterSend____init___fcad)) (K_Rule : DMk P w K mg base 1 "Rule" 2 (dFn 2 B_Rule____init___2563)): FnOk P w K mg base CX0 4 f fd ["_law_name", "_law_count"] (lP ⟨P, w, K⟩ 2 (dFn 2 B_law_rule_b694)) := by
  refine fn_o F sc__law_rule rfl fun cdv A outer s H E hr => ?_
  have nd := sc__law_rule.nd
  have u64 := hr.units
  have u65 : (A.deeper (envOfC "_law_rule" (defScope s__law_rule) s.heap.objs.size f cdv)).units + 65 < cLine := by have := hr.un; omega
  have u1 : (A.deeper (envOfC "_law_rule" (defScope s__law_rule) s.heap.objs.size f cdv)).units + 1 < cLine := by have := hr.un; omega
  unfold B_law_rule_b694
  exact dss_cons (ds_if (dt_cmp (o_eq u64) (dv 0) (de_str)) (dss_one (ds_ret (de_make K_Rule (hr.mono (by decide)) (by rfl) (da_cons (dv 1) (da_nil))))) (dss_nil))
    (dss_cons (ds_if (dt_cmp (o_eq u64) (dv 0) (de_str)) (dss_one (ds_ret (de_make K_SaveAfterSend (hr.mono (by decide)) (by rfl) (da_cons (dv 1) (da_nil))))) (dss_nil))
    (dss_one (ds_ret (de_ifExp (dt_cmp (o_eq u64) (dv 0) (de_str)) (de_make K_SaveAlways (hr.mono (by decide)) (by rfl) (da_cons (dv 1) (da_nil))) (de_make K_Rounds (hr.mono (by decide)) (by rfl) (da_cons (dv 1) (da_nil)))))))
abbrev s__law_draw : Stmt := topS 28
theorem sc__law_draw : FnScope ["_law_deck_here", "_law_many", "_law_cell", "_law_place", "_law_mixed"] ["_law_deck_here", "_law_many"] (defScope s__law_draw) := ⟨rfl, rfl, rfl, by decide +kernel, rfl, by decide +kernel, by decide +kernel⟩
set_option maxHeartbeats 4000000 in
theorem der__law_draw {P : Program} {w : World} {K : PySem.W.Frag} {mg : Str → Option Value} {base : Heap} {f : Addr} {fd : FuncData} (F : Fun K "_law_draw" "_law_draw" s__law_draw f fd)  (m_len : mg "len" = none): FnOk P w K mg base CX0 1 f fd ["_law_deck_here", "_law_many"] (lP ⟨P, w, K⟩ 2 (dFn 5 B_law_draw_ebff)) := by
  refine fn_o F sc__law_draw rfl fun cdv A outer s H E hr => ?_
  have nd := sc__law_draw.nd
  have u64 := hr.units
  have u65 : (A.deeper (envOfC "_law_draw" (defScope s__law_draw) s.heap.objs.size f cdv)).units + 65 < cLine := by have := hr.un; omega
  have u1 : (A.deeper (envOfC "_law_draw" (defScope s__law_draw) s.heap.objs.size f cdv)).units + 1 < cLine := by have := hr.un; omega
  unfold B_law_draw_ebff
  exact dss_cons (ds_asg (b := true) (de_bin o_add (de_ix o_ix (dv 0) (de_int)) (de_int)) (dg_sub (dv 0) (de_int)))
    (dss_cons (ds_set (i := 2) nd rfl (by first | exact .inl rfl | exact .inr rfl) (de_int))
    (dss_cons (ds_if (dt_cmp o_gt (de_callB b_len (by rfl) m_len PySem.boot_len (da_cons (de_ix o_ix (dv 0) (de_int)) (da_nil))) (de_int)) (dss_cons (ds_set (i := 3) nd rfl (by first | exact .inl rfl | exact .inr rfl) (de_bin o_mod (de_ix o_ix (dv 0) (de_int)) (de_callB b_len (by rfl) m_len PySem.boot_len (da_cons (de_ix o_ix (dv 0) (de_int)) (da_nil)))))
    (dss_cons (ds_set (i := 2) nd rfl (by first | exact .inl rfl | exact .inr rfl) (de_ix o_ix (de_ix o_ix (dv 0) (de_int)) (dv 3)))
    (dss_one (ds_if (dt_cmp o_ge (dv 2) (de_bin o_pow (de_int) (de_int))) (dss_cons (ds_asg (b := true) (de_bin o_div (dv 2) (dv 1)) (dg_sub (de_ix o_ix (dv 0) (de_int)) (dv 3)))
    (dss_one (ds_ret (de_bin o_mod (dv 2) (dv 1))))) (dss_nil))))) (dss_nil))
    (dss_cons (ds_set (i := 4) nd rfl (by first | exact .inl rfl | exact .inr rfl) (de_bin o_mod (de_bin o_pow (de_bin o_add (de_bin o_add (de_bin o_mod (dv 2) (de_int)) (de_bin o_mul (de_int) (de_ix o_ix (dv 0) (de_int)))) (de_int)) (de_int)) (de_int)))
    (dss_one (ds_ret (de_bin o_mod (de_bin o_div (dv 4) (de_int)) (dv 1)))))))
abbrev s__law_one : Stmt := topS 29
theorem sc__law_one : FnScope ["_law_deck_here", "_law_items"] ["_law_deck_here", "_law_items"] (defScope s__law_one) := ⟨rfl, rfl, rfl, by decide +kernel, rfl, by decide +kernel, by decide +kernel⟩
set_option maxHeartbeats 4000000 in
theorem der__law_one {P : Program} {w : World} {K : PySem.W.Frag} {mg : Str → Option Value} {base : Heap} {f : Addr} {fd : FuncData} (F : Fun K "_law_one" "_law_one" s__law_one f fd) (D__law_draw : DFo P w K mg base 1 "_law_draw" 2 (dFn 5 B_law_draw_ebff)) (m_len : mg "len" = none): FnOk P w K mg base CX0 2 f fd ["_law_deck_here", "_law_items"] (lP ⟨P, w, K⟩ 2 (dFn 2 B_law_one_b6e1)) := by
  refine fn_o F sc__law_one rfl fun cdv A outer s H E hr => ?_
  have nd := sc__law_one.nd
  have u64 := hr.units
  have u65 : (A.deeper (envOfC "_law_one" (defScope s__law_one) s.heap.objs.size f cdv)).units + 65 < cLine := by have := hr.un; omega
  have u1 : (A.deeper (envOfC "_law_one" (defScope s__law_one) s.heap.objs.size f cdv)).units + 1 < cLine := by have := hr.un; omega
  unfold B_law_one_b6e1
  exact dss_one (ds_ret (de_ix o_ix (dv 1) (de_callo D__law_draw (hr.mono (by decide)) (by rfl) (da_cons (dv 0) (da_cons (de_callB b_len (by rfl) m_len PySem.boot_len (da_cons (dv 1) (da_nil))) (da_nil))))))
abbrev s__law_plan : Stmt := topS 30
theorem sc__law_plan : FnScope ["_law_deck_here", "_law_count", "_law_many", "_law_acts", "_law_waiting", "_law_number", "_law_turn", "_law_way", "_law_process", "_law_can", "_law_pair"] ["_law_deck_here", "_law_count", "_law_many"] (defScope s__law_plan) := ⟨rfl, rfl, rfl, by decide +kernel, rfl, by decide +kernel, by decide +kernel⟩
set_option maxHeartbeats 4000000 in
theorem der__law_plan {P : Program} {w : World} {K : PySem.W.Frag} {mg : Str → Option Value} {base : Heap} {f : Addr} {fd : FuncData} (F : Fun K "_law_plan" "_law_plan" s__law_plan f fd) (D__law_one : DFo P w K mg base 2 "_law_one" 2 (dFn 2 B_law_one_b6e1)) (D__law_draw : DFo P w K mg base 1 "_law_draw" 2 (dFn 5 B_law_draw_ebff)) (m_tuple : mg "tuple" = none) (m_range : mg "range" = none): FnOk P w K mg base CX0 3 f fd ["_law_deck_here", "_law_count", "_law_many"] (lP ⟨P, w, K⟩ 3 (dFn 11 B_law_plan_4754)) := by
  refine fn_o F sc__law_plan rfl fun cdv A outer s H E hr => ?_
  have nd := sc__law_plan.nd
  have u64 := hr.units
  have u65 : (A.deeper (envOfC "_law_plan" (defScope s__law_plan) s.heap.objs.size f cdv)).units + 65 < cLine := by have := hr.un; omega
  have u1 : (A.deeper (envOfC "_law_plan" (defScope s__law_plan) s.heap.objs.size f cdv)).units + 1 < cLine := by have := hr.un; omega
  unfold B_law_plan_4754
  exact dss_cons (ds_par3 (i := 3) (j := 4) (l := 5) (by rfl) nd rfl rfl rfl (by decide) (by decide) (by decide) rfl rfl rfl (da_cons (de_lst (da_nil)) (da_cons (de_lst (da_nil)) (da_cons (de_int) (da_nil)))) (by rfl))
    (dss_cons (ds_for PassesOwn.never rfl (di_rg1 (by rfl) m_range (da_cons (dv 2) (da_nil))) (dg_name (i := 6) nd rfl (by first | exact .inl rfl | exact .inr rfl)) (dss_cons (ds_asg (b := true) (de_tup (da_cons (de_callo D__law_draw (hr.mono (by decide)) (by rfl) (da_cons (dv 0) (da_cons (de_int) (da_nil)))) (da_cons (de_callo D__law_draw (hr.mono (by decide)) (by rfl) (da_cons (dv 0) (da_cons (dv 1) (da_nil)))) (da_nil)))) (dg_tup rfl (dgs_cons (dg_name (i := 7) nd rfl (by first | exact .inl rfl | exact .inr rfl)) (dgs_cons (dg_name (i := 8) nd rfl (by first | exact .inl rfl | exact .inr rfl)) (dgs_nil)))))
    (dss_cons (ds_setLc (i := 9) (own := [("_law_pair", 10)]) rfl nd rfl rfl (sw_true rfl rfl rfl (by decide +kernel)) (di_val (dv 4)) (blkOk_by (by first | decide +kernel | rfl)) (by decide) (fun _ _ _ _ _ => dg_name (i := 10) nd rfl (by first | exact .inl rfl | exact .inr rfl)) (fun _ _ _ _ _ => dts_one (dt_cmp (o_ne u64) (de_ix o_ix (dv 10) (de_int)) (dv 8))) (fun _ _ _ _ _ => dv 10))
    (dss_one (ds_if (DW.dt (dw_and (dt_cmp o_lt (dv 7) (de_int)) (dw_and1 (dt_cmp (o_ne u64) (dv 9) (de_lst (da_nil)))))) (dss_cons (ds_set (i := 10) nd rfl (by first | exact .inl rfl | exact .inr rfl) (de_callo D__law_one (hr.mono (by decide)) (by rfl) (da_cons (dv 0) (da_cons (dv 9) (da_nil)))))
    (dss_cons (ds_expr (de_mL PySem.F.slot_list_remove PySem.F.type_list_remove (m_remove u64) (dv 4) (da_cons (dv 10) (da_nil))))
    (dss_one (ds_expr (de_mL PySem.F.slot_list_append PySem.F.type_list_append m_append (dv 3) (da_cons (de_tup (da_cons (de_str) (da_cons (dv 8) (da_cons (de_ix o_ix (dv 10) (de_int)) (da_nil))))) (da_nil))))))) (dss_one (ds_if (DW.dt (dw_and (dt_cmp o_lt (dv 7) (de_int)) (dw_and1 (dt_cmp o_lt (dv 5) (de_int))))) (dss_cons (ds_set (i := 5) nd rfl (by first | exact .inl rfl | exact .inr rfl) (de_bin o_add (dv 5) (de_int)))
    (dss_cons (ds_expr (de_mL PySem.F.slot_list_append PySem.F.type_list_append m_append (dv 4) (da_cons (de_lst (da_cons (dv 5) (da_cons (dv 8) (da_nil)))) (da_nil))))
    (dss_one (ds_expr (de_mL PySem.F.slot_list_append PySem.F.type_list_append m_append (dv 3) (da_cons (de_tup (da_cons (de_str) (da_cons (dv 8) (da_nil)))) (da_nil))))))) (dss_one (ds_expr (de_mL PySem.F.slot_list_append PySem.F.type_list_append m_append (dv 3) (da_cons (de_tup (da_cons (de_str) (da_cons (dv 8) (da_nil)))) (da_nil))))))))))))
    (dss_one (ds_ret (de_callTy b_tuple (by rfl) m_tuple (by decide +kernel) (da_cons (dv 3) (da_nil))))))
abbrev s__law_deck : Stmt := topS 27
theorem sc__law_deck : FnScope ["_law_script", "_law_cell"] ["_law_script"] (defScope s__law_deck) := ⟨rfl, rfl, rfl, by decide +kernel, rfl, by decide +kernel, by decide +kernel⟩
set_option maxHeartbeats 4000000 in
theorem der__law_deck {P : Program} {w : World} {K : PySem.W.Frag} {mg : Str → Option Value} {base : Heap} {f : Addr} {fd : FuncData} (F : Fun K "_law_deck" "_law_deck" s__law_deck f fd)  (m_abs : mg "abs" = none): FnOk P w K mg base CX0 1 f fd ["_law_script"] (lP ⟨P, w, K⟩ 1 (dFn 2 B_law_deck_e528)) := by
  refine fn_o F sc__law_deck rfl fun cdv A outer s H E hr => ?_
  have nd := sc__law_deck.nd
  have u64 := hr.units
  have u65 : (A.deeper (envOfC "_law_deck" (defScope s__law_deck) s.heap.objs.size f cdv)).units + 65 < cLine := by have := hr.un; omega
  have u1 : (A.deeper (envOfC "_law_deck" (defScope s__law_deck) s.heap.objs.size f cdv)).units + 1 < cLine := by have := hr.un; omega
  unfold B_law_deck_e528
  exact dss_one (ds_ret (de_lst (da_cons (de_lc (own := [("_law_cell", 1)]) rfl nd (di_val (de_sl (dv 0) (do_none) (do_some (de_int)))) (blkOk_by (by first | decide +kernel | rfl)) (by decide) (fun _ _ _ _ _ => dg_name (i := 1) nd rfl (by first | exact .inl rfl | exact .inr rfl)) (fun _ _ _ _ _ => dts_nil) (fun _ _ _ _ _ => de_callB b_abs (by rfl) m_abs (by decide +kernel) (da_cons (dv 1) (da_nil)))) (da_cons (de_int) (da_nil)))))
abbrev s_law : Stmt := topS 34
theorem sc_law : FnScope ["_law_script", "_law_deck_here", "_law_turn", "_law_count", "_law_acts", "_law_name", "_law_rows"] ["_law_script"] (defScope s_law) := ⟨rfl, rfl, rfl, by decide +kernel, rfl, by decide +kernel, by decide +kernel⟩
set_option maxHeartbeats 4000000 in
theorem der_law {P : Program} {w : World} {K : PySem.W.Frag} {mg : Str → Option Value} {base : Heap} {f : Addr} {fd : FuncData} (F : Fun K "law" "law" s_law f fd) (D_is_tracked : DFo P w K mg base 6 "is_tracked" 1 (dFn 1 B_is_tracked_a4d2)) (D_find_untracked : DFo P w K mg base 5 "find_untracked" 1 (dFn 10 B_find_untracked_6494)) (D__law_ordered : DFo P w K mg base 2 "_law_ordered" 2 (dFn 6 B_law_ordered_231a)) (D_run_plan : DFo P w K mg base 3 "run_plan" 2 (dFn 9 B_run_plan_ed6f)) (D__law_rule : DFo P w K mg base 4 "_law_rule" 2 (dFn 2 B_law_rule_b694)) (D__law_plan : DFo P w K mg base 3 "_law_plan" 3 (dFn 11 B_law_plan_4754)) (D__law_draw : DFo P w K mg base 1 "_law_draw" 2 (dFn 5 B_law_draw_ebff)) (D__law_deck : DFo P w K mg base 1 "_law_deck" 1 (dFn 2 B_law_deck_e528)) (m_range : mg "range" = none): FnG P w K mg base 7 f fd ["_law_script"] (lP ⟨P, w, K⟩ 1 (dFn 7 B_law_0963)) := by
  refine fn_d F sc_law rfl fun cdv A outer s H E hg hr => ?_
  have nd := sc_law.nd
  have u64 := hr.units
  have u65 : (A.deeper (envOfC "law" (defScope s_law) s.heap.objs.size f cdv)).units + 65 < cLine := by have := hr.un; omega
  have u1 : (A.deeper (envOfC "law" (defScope s_law) s.heap.objs.size f cdv)).units + 1 < cLine := by have := hr.un; omega
  unfold B_law_0963
  exact dss_cons (ds_set (i := 1) nd rfl (by first | exact .inl rfl | exact .inr rfl) (de_callo D__law_deck (hr.mono (by decide)) (by rfl) (da_cons (dv 0) (da_nil))))
    (dss_cons (ds_for PassesOwn.never rfl (di_rg1 (by rfl) m_range (da_cons (de_int) (da_nil))) (dg_name (i := 2) nd rfl (by first | exact .inl rfl | exact .inr rfl)) (dss_cons (ds_set (i := 3) nd rfl (by first | exact .inl rfl | exact .inr rfl) (de_bin o_add (de_int) (de_callo D__law_draw (hr.mono (by decide)) (by rfl) (da_cons (dv 1) (da_cons (de_int) (da_nil))))))
    (dss_cons (ds_set (i := 4) nd rfl (by first | exact .inl rfl | exact .inr rfl) (de_callo D__law_plan (hr.mono (by decide)) (by rfl) (da_cons (dv 1) (da_cons (dv 3) (da_cons (de_callo D__law_draw (hr.mono (by decide)) (by rfl) (da_cons (dv 1) (da_cons (de_int) (da_nil)))) (da_nil))))))
    (dss_one (ds_for PassesOwn.never rfl (di_val (de_lst (da_cons (de_str) (da_cons (de_str) (da_nil))))) (dg_name (i := 5) nd rfl (by first | exact .inl rfl | exact .inr rfl)) (dss_cons (ds_set (i := 6) nd rfl (by first | exact .inl rfl | exact .inr rfl) (de_callo D_run_plan (hr.mono (by decide)) (by rfl) (da_cons (de_callo D__law_rule (hr.mono (by decide)) (by rfl) (da_cons (dv 5) (da_cons (dv 3) (da_nil)))) (da_cons (dv 4) (da_nil)))))
    (dss_one (ds_if (DW.dt (dw_or (dt_cmp o_notB (de_callo D_is_tracked (hr.mono (by decide)) (by rfl) (da_cons (dv 6) (da_nil))) (de_bl)) (dw_or (dt_notN (de_callo D_find_untracked (hr.mono (by decide)) (by rfl) (da_cons (dv 6) (da_nil)))) (dw_or1 (dt_not (dt_val (de_callo D__law_ordered (hr.mono (by decide)) (by rfl) (da_cons (dv 5) (da_cons (dv 6) (da_nil)))))))))) (dss_one (ds_ret (de_bl))) (dss_nil)))))))))
    (dss_one (ds_ret (de_bl))))
end Sv
namespace Sv
open PySem L2
theorem seqP {t u : DTS} {C : DEnds} {env : Env} {S : Sto} (P : Env → Sto → Prop) (h1 : ∀ C' : DEnds, C'.rt = C.rt → C'.bk = C.bk → C'.ct = C.ct → (∀ e s, P e s → C'.nx e s) → t C' env S) (h2 : ∀ e s, P e s → u C e s) : dSeq t u C env S :=
  h1 { C with nx := u C } rfl rfl rfl h2
theorem iteB {c : Bool} {A B : Prop} (h1 : c = true → A) (h2 : c = false → B) : if c = true then A else B := by
  cases c with
  | true => exact (if_pos rfl).mpr (h1 rfl)
  | false => exact (if_neg Bool.false_ne_true).mpr (h2 rfl)
theorem goT {A B : Prop} (h : A) : if true = true then A else B := (if_pos rfl).mpr h
theorem goF {A B : Prop} (h : B) : if false = true then A else B := (if_neg Bool.false_ne_true).mpr h
/-- all that stands stays, but at some places -/
def SK (P : Addr → Prop) (S S' : Sto) : Prop := ∀ a o, ¬ P a → S a = some o → S' a = some o
theorem SK.refl {P : Addr → Prop} (S : Sto) : SK P S S := fun _ _ _ h => h
theorem SK.trans {P : Addr → Prop} {S S1 S2 : Sto} (x : SK P S S1) (y : SK P S1 S2) : SK P S S2 := fun a o n h => y a o n (x a o n h)
theorem SK.put {P : Addr → Prop} {S : Sto} {p : Addr} {o : Ob} (h : P p) : SK P S (S.put p o) := fun a u n e => by
  rw [Sto.ne fun z => n (by rw [z]; exact h)]
  exact e
theorem SK.new {P : Addr → Prop} {S : Sto} {p : Addr} {o : Ob} (h : S p = none) : SK P S (S.put p o) := fun a u _ e => by
  rw [Sto.ne fun z => by rw [z, h] at e; cases e]
  exact e
theorem SK.mono {P Q : Addr → Prop} {S S' : Sto} (x : SK P S S') (h : ∀ a, P a → Q a) : SK Q S S' := fun a o n e => x a o (fun z => n (h a z)) e
/-- only new things -/
abbrev SG : Sto → Sto → Prop := SK fun _ => False
theorem SG.sk {P : Addr → Prop} {S S' : Sto} (x : SG S S') : SK P S S' := x.mono fun _ h => h.elim
theorem noTup (a : Addr) : (∀ ds, D.ref a ≠ D.tup ds) ∧ ∀ ds, D.ref a ≠ D.wtup ds := ⟨fun _ z => (nomatch z), fun _ z => (nomatch z)⟩
/-- the draws' state -/
def Deck (st big : Addr) (S : Sto) : Prop := st ≠ big ∧ ∃ (bs : List Int) (a b c : Int), S st = some (.lst [.ref big, .int a, .int b, .int c]) ∧ S big = some (.lst (intsD bs))
abbrev DP (st big : Addr) : Addr → Prop := fun a => a = st ∨ a = big
theorem Deck.keep {st big : Addr} {S S' : Sto} (h : Deck st big S) (k : SG S S') : Deck st big S' := by
  obtain ⟨h1, bs, a, b, c, h2, h3⟩ := h
  exact ⟨h1, bs, a, b, c, k _ _ (fun z => z) h2, k _ _ (fun z => z) h3⟩
theorem Deck.keepP {st big : Addr} {S S' : Sto} {P : Addr → Prop} (h : Deck st big S) (k : SK P S S') (n1 : ¬ P st) (n2 : ¬ P big) : Deck st big S' := by
  obtain ⟨h1, bs, a, b, c, h2, h3⟩ := h
  exact ⟨h1, bs, a, b, c, k _ _ n1 h2, k _ _ n2 h3⟩
theorem shaped_ints (bs : List Int) : SeqAt.shaped (.list (bs.map PyData.int)) = true := shaped_lst bs
theorem pys_ints {S : Sto} : ∀ bs : List Int, Pys S (intsD bs) (bs.map PyData.int)
  | [] => .nil
  | b :: r => .cons (.int b) (pys_ints r)
end Sv
namespace Sv
open PySem PySem.Spec PyProof.Rows L2
inductive Grown (c : Nat) (nm : List Int) : List (List Int) → List (Int × Int) → Nat → Nat → Prop
  | start : Grown c nm (List.replicate c []) [] 0 0
  | skip {r o u k} : Grown c nm r o u k → Grown c nm r o u (k + 1)
  | save {r o u k p row} : Grown c nm r o u k → r[p]? = some row → Grown c nm (r.set p (row ++ [0])) o u (k + 1)
  | send {r o u k p row m} : Grown c nm r o u k → r[p]? = some row → nm[u]? = some m → Grown c nm (r.set p (row ++ [m])) (o ++ [(m, (p : Int))]) (u + 1) (k + 1)
  | recv {r o u k row j m q} {p : Nat} : Grown c nm r o u k → r[p]? = some row → o[j]? = some (m, q) → q ≠ (p : Int) → Grown c nm (r.set p (row ++ [0 - m])) (o.eraseIdx j) u (k + 1)
def names24 : List Int := (List.range 24).map fun (i : Nat) => (1 : Int) + (i : Nat)
/-- the rows of a history that the law may draw: at most `many` rows, `most` events -/
def Good (many most : Nat) (rows : List (List Int)) : Prop := ∃ (c : Nat) (nm : List Int) (o : List (Int × Int)) (u k : Nat), 1 ≤ c ∧ c ≤ many ∧ nm.Perm names24 ∧ Grown c nm rows o u k ∧ k ≤ most
theorem Grown.len {c : Nat} {nm : List Int} {r : List (List Int)} {o : List (Int × Int)} {u k : Nat} (h : Grown c nm r o u k) : r.length = c := by
  induction h with
  | start => exact List.length_replicate ..
  | skip _ ih => exact ih
  | save _ _ ih => rw [List.length_set]; exact ih
  | send _ _ _ ih => rw [List.length_set]; exact ih
  | recv _ _ _ _ ih => rw [List.length_set]; exact ih
theorem sum_len_set {r : List (List Int)} {p : Nat} {row : List Int} {v : Int} (h : r[p]? = some row) : ((r.set p (row ++ [v])).map List.length).sum = (r.map List.length).sum + 1 := by
  induction r generalizing p with
  | nil => simp at h
  | cons a r ih =>
    cases p with
    | zero =>
      have e : a = row := Option.some.inj h
      subst e
      simp only [List.set_cons_zero, List.map_cons, List.sum_cons, List.length_append, List.length_singleton]
      omega
    | succ p =>
      have := ih (p := p) h
      simp only [List.set_cons_succ, List.map_cons, List.sum_cons, this]
      omega
theorem Grown.events {c : Nat} {nm : List Int} {r : List (List Int)} {o : List (Int × Int)} {u k : Nat} (h : Grown c nm r o u k) : (r.map List.length).sum ≤ k := by
  induction h with
  | start => simp
  | skip _ ih => omega
  | save _ h ih => rw [sum_len_set h]; omega
  | send _ h _ ih => rw [sum_len_set h]; omega
  | recv _ h _ _ ih => rw [sum_len_set h]; omega
theorem len_le_sum {r : List (List Int)} {p : Nat} {row : List Int} (h : r[p]? = some row) : row.length ≤ (r.map List.length).sum := by
  induction r generalizing p with
  | nil => simp at h
  | cons a r ih =>
    cases p with
    | zero =>
      have e : a = row := Option.some.inj h
      subst e
      simp only [List.map_cons, List.sum_cons]
      omega
    | succ p =>
      have := ih (p := p) h
      simp only [List.map_cons, List.sum_cons]
      omega
def pD (p : Int × Int) : PyData := .tuple [.int p.1, .int p.2]
theorem pD_eqv (a b : Int × Int) : PyData.eqv (pD a) (pD b) = decide (a = b) := by
  obtain ⟨x, y⟩ := a
  obtain ⟨z, w⟩ := b
  have e : PyData.eqv (pD (x, y)) (pD (z, w)) = ((x == z) && ((y == w) && true)) := by simp only [pD, PyData.eqv, PyData.eqvAll]
  rw [e, Bool.and_true]
  by_cases h1 : x = z
  · by_cases h2 : y = w
    · subst h1 h2
      simp
    · have : (y == w) = false := beq_eq_false_iff_ne.mpr h2
      rw [this, Bool.and_false]
      exact (decide_eq_false fun q => h2 (Prod.mk.inj q).2).symm
  · have : (x == z) = false := beq_eq_false_iff_ne.mpr h1
    rw [this, Bool.false_and]
    exact (decide_eq_false fun q => h1 (Prod.mk.inj q).1).symm
theorem flat_rep {α : Type} (x : α) : ∀ n : Nat, (List.replicate n [x]).flatten = List.replicate n x
  | 0 => rfl
  | n + 1 => by rw [List.replicate_succ, List.flatten_cons, flat_rep x n]; rfl
theorem names24_at {u : Nat} (h : u < 24) : names24[u]? = some ((u : Int) + 1) := by
  unfold names24
  rw [List.getElem?_map, List.getElem?_range h]
  show some (1 + (u : Int)) = some ((u : Int) + 1)
  rw [Int.add_comm]
end Sv
namespace Sv
open PySem L2
/-- one turn -/
def Turn1 (g : DTG) (tt : DTT) (te : DTE) (env : Env) (d : D) (S : Sto) (K : DK) (Kn : Sto → Prop) : Prop := g d env S fun env' S' => tt env' S' fun b S2 => if b = true then te env' S2 K else Kn S2
theorem turn_y {i : Nat} {te : DTE} {env : Env} {d : D} {S : Sto} {K : DK} {Kn : Sto → Prop} (h : te (env.set i (some d)) S K) : Turn1 (dgName i) dYes te env d S K Kn := by
  show (if true = true then te (env.set i (some d)) S K else Kn S)
  exact goT h
theorem turn_n {i : Nat} {t : DTT} {te : DTE} {env : Env} {d : D} {S : Sto} {K : DK} {Kn : Sto → Prop} (h : t (env.set i (some d)) S fun b S2 => if b = true then te (env.set i (some d)) S2 K else Kn S2) : Turn1 (dgName i) t te env d S K Kn := h
theorem lc_fun {g : DTG} {tt : DTT} {te : DTE} {us : List Nat} {env : Env} {S1 : Sto} {Rp : Addr → Sto → Prop} (w : Src) (f : D → Option D) (hlen : w.items.length ≤ 100000) (live : ∀ S, SG S1 S → w.live S)
    (step : ∀ d ∈ w.items, ∀ S, SG S1 S → ∀ (K : DK) (Kn : Sto → Prop), (∀ y, f d = some y → ∀ S', SG S S' → K y S') → (f d = none → ∀ S', SG S S' → Kn S') → Turn1 g tt te (dwipe env us) d S K Kn)
    (fin : ∀ p S', S1 p = none → SG S1 S' → S' p = some (.lst (w.items.filterMap f)) → Rp p S') :
    ∀ p, S1 p = none → ∃ Pv : Nat → Sto → Prop, Pv 0 (S1.put p (.lst [])) ∧ (∀ i S, i ≤ w.items.length → Pv i S → w.live S) ∧
      (∀ i d S, w.items[i]? = some d → Pv i S → g d (dwipe env us) S fun env' S' => tt env' S' fun b S2 => if b = true then te env' S2 fun y S3 => ∃ acc, S3 p = some (.lst acc) ∧ acc.length < 1000000 ∧ Pv (i + 1) (S3.put p (.lst (acc ++ [y]))) else Pv (i + 1) S2) ∧
      ∀ S, Pv w.items.length S → Rp p S := by
  intro p np
  refine ⟨fun i S => SG S1 S ∧ S p = some (.lst ((w.items.take i).filterMap f)) ∧ i ≤ w.items.length, ⟨.new np, Sto.same, Nat.zero_le _⟩, fun i S _ h => live S h.1, fun i d S hd h => ?_, fun S h => ?_⟩
  · have hi : i < w.items.length := (List.getElem?_eq_some_iff.mp hd).1
    have ht : w.items.take (i + 1) = w.items.take i ++ [d] := by rw [List.take_add_one, hd]; rfl
    refine step d (List.mem_of_getElem? hd) S h.1 _ _ (fun y hy S' sg => ?_) (fun hn S' sg => ?_)
    · have hp : S' p = _ := sg _ _ (fun z => z) h.2.1
      have hl : ((w.items.take i).filterMap f).length ≤ 100000 := Nat.le_trans (List.length_filterMap_le ..) (by rw [List.length_take]; omega)
      refine ⟨_, hp, by omega, fun a o n e => ?_, ?_, hi⟩
      · have hap : a ≠ p := fun z => by rw [z, np] at e; cases e
        rw [Sto.ne hap]
        exact sg _ _ n (h.1 _ _ n e)
      · rw [Sto.same, ht, List.filterMap_append]
        simp [hy]
    · refine ⟨h.1.trans sg, ?_, hi⟩
      rw [sg _ _ (fun z => z) h.2.1, ht, List.filterMap_append]
      simp [hn]
  · have := h.2.1
    rw [List.take_length] at this
    exact fin p S np h.1 this
theorem fm_map {α β : Type} (f : α → β) (l : List α) : l.filterMap (fun x => some (f x)) = l.map f := by
  induction l with
  | nil => rfl
  | cons a l ih => rw [List.filterMap_cons, List.map_cons, ih]
/-- data of rows -/
def rowD (r : List Int) : D := .tup (intsD r)
def rowsD (rows : List (List Int)) : List D := rows.map rowD
end Sv
namespace Sv
open PySem L2
theorem Deck.st' {st big : Addr} {S : Sto} (h : Deck st big S) : ∃ o, S st = some o := by
  obtain ⟨_, _, _, _, _, h, _⟩ := h
  exact ⟨_, h⟩
theorem Deck.big' {st big : Addr} {S : Sto} (h : Deck st big S) : ∃ o, S big = some o := by
  obtain ⟨_, _, _, _, _, _, h⟩ := h
  exact ⟨_, h⟩
theorem Deck.fresh {st big : Addr} {S : Sto} (h : Deck st big S) {p : Addr} (n : S p = none) : p ≠ st ∧ p ≠ big := by
  obtain ⟨o, e⟩ := h.st'
  obtain ⟨u, f⟩ := h.big'
  exact ⟨fun z => (by rw [z, e] at n; cases n), fun z => (by rw [z, f] at n; cases n)⟩
theorem SK.free {P : Addr → Prop} {S S' : Sto} (k : SK P S S') {p : Addr} (n : S' p = none) (hp : ¬ P p) : S p = none := by
  cases e : S p with
  | none => rfl
  | some o => rw [k _ _ hp e] at n; cases n
theorem rg_at {lo : Int} {n i : Nat} {d : D} (h : (rgD lo n)[i]? = some d) : i < n ∧ d = .int (lo + (i : Nat)) := by
  have hi : i < n := by
    have := (List.getElem?_eq_some_iff.mp h).1
    rwa [rgD, List.length_map, List.length_range] at this
  refine ⟨hi, ?_⟩
  rw [rgD, List.getElem?_map, List.getElem?_range hi] at h
  cases h
  rfl
theorem rg_len (lo : Int) (n : Nat) : (rgD lo n).length = n := by rw [rgD, List.length_map, List.length_range]
theorem eraseIdx_map' {α β : Type} (f : α → β) : ∀ (l : List α) (j : Nat), (l.map f).eraseIdx j = (l.eraseIdx j).map f
  | [], _ => rfl
  | _ :: _, 0 => rfl
  | a :: l, j + 1 => by
    show f a :: (l.map f).eraseIdx j = f a :: (l.eraseIdx j).map f
    rw [eraseIdx_map' f l j]
theorem intsD_len (xs : List Int) : (intsD xs).length = xs.length := List.length_map ..
end Sv
namespace Sv
open PySem L2
def pairD (p : Int × Int) : D := .tup [.int p.1, .int p.2]
def GS (S : Sto) (st big t : Addr) (nm : List Int) (rows : List (List Int)) (o : List (Int × Int)) (u : Nat) (sh : Int) : Prop :=
  ∃ N O : Addr, S t = some (.lst [.tup (rowsD rows), .ref N, .ref O, .int sh]) ∧ S N = some (.lst (intsD (nm.drop u))) ∧ S O = some (.lst (o.map pairD)) ∧ (N ≠ st ∧ N ≠ big) ∧ (O ≠ st ∧ O ≠ big) ∧ t ≠ st ∧ t ≠ big
theorem nDP {st big a : Addr} (h : a ≠ st ∧ a ≠ big) : ¬ DP st big a := fun z => z.elim h.1 h.2
theorem GS.keep {S S' : Sto} {st big t : Addr} {nm : List Int} {rows : List (List Int)} {o : List (Int × Int)} {u : Nat} {sh : Int} (h : GS S st big t nm rows o u sh) (k : SK (DP st big) S S') : GS S' st big t nm rows o u sh := by
  obtain ⟨N, O, h1, h2, h3, h4, h5, h6⟩ := h
  exact ⟨N, O, k _ _ (nDP h6) h1, k _ _ (nDP h4) h2, k _ _ (nDP h5) h3, h4, h5, h6⟩
end Sv
set_option maxHeartbeats 400000
namespace Sv
open PySem L2
theorem py_pair {S : Sto} (p : Int × Int) : Py S (pairD p) (pD p) := .tup (.cons (.int _) (.cons (.int _) .nil))
theorem cutD_to {xs : List D} {i : Nat} (h : i ≤ xs.length) : cutD xs none (some (i : Int)) = xs.take i := by
  unfold cutD
  rw [HT.sIx_none, HT.sIx_nat, List.drop_zero, Nat.min_eq_left h, Nat.sub_zero]
theorem cutD_from {xs : List D} {i : Nat} (h : i ≤ xs.length) : cutD xs (some (i : Int)) none = xs.drop i := by
  unfold cutD
  rw [HT.sIx_none, HT.sIx_nat, Nat.min_eq_left h]
  exact List.take_of_length_le (by rw [List.length_drop]; exact Nat.le_refl _)
theorem dIfS_by {c : DTT} {t u : DTS} {C : DEnds} {env : Env} {S : Sto} (P : Bool → Sto → Prop) (hc : ∀ K : Bool → Sto → Prop, (∀ b S', P b S' → K b S') → c env S K) (ht : ∀ S', P true S' → t C env S') (hu : ∀ S', P false S' → u C env S') : dIfS c t u C env S := by
  refine hc _ fun b S' h => ?_
  cases b with
  | true => exact goT (ht S' h)
  | false => exact goF (hu S' h)
theorem atI_nat {xs : List D} {i : Nat} {d : D} (h : xs[i]? = some d) : atI xs (i : Int) = some d := by
  have hi := (List.getElem?_eq_some_iff.mp h).1
  unfold atI ixN
  rw [if_pos (Int.natCast_nonneg i), if_pos (Int.ofNat_lt.mpr hi), Int.toNat_natCast]
  exact h
end Sv
set_option maxHeartbeats 400000
set_option maxHeartbeats 400000
namespace Sv
open PySem L2
/-- no part of the drawn state -/
def GF (S : Sto) (t f : Addr) : Prop := t ≠ f ∧ ∀ (N O : Addr) (r s : D), S t = some (.lst [r, .ref N, .ref O, s]) → f ≠ N ∧ f ≠ O
end Sv
set_option maxHeartbeats 400000
namespace Sv
open PySem L2
/-- the draws' state: cells at cl (never written), at most n draws so far, what is left of large cells at rs -/
def Dk (st cl rs : Addr) (n : Nat) (S : Sto) : Prop := st ≠ cl ∧ st ≠ rs ∧ cl ≠ rs ∧ ∃ (cs ws : List Int) (t : Nat), t ≤ n ∧ 0 < cs.length ∧ cs.length = ws.length ∧ S st = some (.lst [.ref cl, .int (t : Int), .ref rs]) ∧ S cl = some (.lst (intsD cs)) ∧ S rs = some (.lst (intsD ws))
abbrev DQ (st rs : Addr) : Addr → Prop := fun a => a = st ∨ a = rs
theorem Dk.keepP {st cl rs : Addr} {n : Nat} {S S' : Sto} {P : Addr → Prop} (h : Dk st cl rs n S) (k : SK P S S') (n1 : ¬ P st) (n2 : ¬ P cl) (n3 : ¬ P rs) : Dk st cl rs n S' := by
  obtain ⟨a1, a2, a3, cs, ws, t, tn, c0, cw, hs, hc, hw⟩ := h
  exact ⟨a1, a2, a3, cs, ws, t, tn, c0, cw, k _ _ n1 hs, k _ _ n2 hc, k _ _ n3 hw⟩
theorem Dk.keep {st cl rs : Addr} {n : Nat} {S S' : Sto} (h : Dk st cl rs n S) (k : SG S S') : Dk st cl rs n S' := h.keepP k (fun z => z) (fun z => z) (fun z => z)
theorem Dk.mono {st cl rs : Addr} {n m : Nat} {S : Sto} (h : Dk st cl rs n S) (e : n ≤ m) : Dk st cl rs m S := by
  obtain ⟨a1, a2, a3, cs, ws, t, tn, c0, cw, hs, hc, hw⟩ := h
  exact ⟨a1, a2, a3, cs, ws, t, by omega, c0, cw, hs, hc, hw⟩
theorem Dk.fresh {st cl rs : Addr} {n : Nat} {S : Sto} (h : Dk st cl rs n S) {p : Addr} (z : S p = none) : p ≠ st ∧ p ≠ cl ∧ p ≠ rs := by
  obtain ⟨a1, a2, a3, cs, ws, t, tn, c0, cw, hs, hc, hw⟩ := h
  exact ⟨fun e => (by rw [e, hs] at z; cases z), fun e => (by rw [e, hc] at z; cases z), fun e => (by rw [e, hw] at z; cases z)⟩
theorem Dk.put {st cl rs : Addr} {n : Nat} {S : Sto} (h : Dk st cl rs n S) {p : Addr} {o : Ob} (z : p ≠ st ∧ p ≠ cl ∧ p ≠ rs) : Dk st cl rs n (S.put p o) := by
  obtain ⟨a1, a2, a3, cs, ws, t, tn, c0, cw, hs, hc, hw⟩ := h
  exact ⟨a1, a2, a3, cs, ws, t, tn, c0, cw, (Sto.ne (Ne.symm z.1)).trans hs, (Sto.ne (Ne.symm z.2.1)).trans hc, (Sto.ne (Ne.symm z.2.2)).trans hw⟩
theorem SK.own {P : Addr → Prop} {S0 S : Sto} {a : Addr} {o : Ob} (h : SK P S0 S) (n : S0 a = none) : SK P S0 (S.put a o) := fun b u nb e => by
  rw [Sto.ne fun z => by rw [z, n] at e; cases e]
  exact h b u nb e
theorem intsD_at {cs : List Int} {i : Nat} {c : Int} (h : cs[i]? = some c) : (intsD cs)[i]? = some (D.int c) := by
  unfold intsD
  rw [List.getElem?_map, h]
  rfl
theorem intsD_set (cs : List Int) (i : Nat) (c : Int) : (intsD cs).set i (.int c) = intsD (cs.set i c) := by
  unfold intsD
  rw [List.map_set]
theorem ixnN' {n j : Nat} (hj : j < n) : ixN n (j : Int) = some j := by
  unfold ixN
  rw [if_pos (Int.natCast_nonneg j), if_pos (Int.ofNat_lt.mpr hj), Int.toNat_natCast]
end Sv
set_option maxHeartbeats 800000
set_option autoImplicit false
namespace Sv
open PySem PySem.Spec PyProof.Rows L2
/-- the draws' state, at most n mixed draws so far -/
def Ds (st big al : Addr) (n : Nat) (S : Sto) : Prop := st ≠ big ∧ st ≠ al ∧ big ≠ al ∧ ∃ (bs cs : List Int) (t : Nat), t ≤ n ∧ 0 < cs.length ∧ cs.length ≤ 100000 ∧ S st = some (.lst [.ref big, .ref al, .int (t : Int)]) ∧ S big = some (.lst (intsD bs)) ∧ S al = some (.lst (intsD cs))
/-- what a draw may change -/
abbrev DS' (st big : Addr) : Addr → Prop := fun a => a = st ∨ a = big
theorem Ds.keepP {st big al : Addr} {n : Nat} {S S' : Sto} {P : Addr → Prop} (h : Ds st big al n S) (k : SK P S S') (n1 : ¬ P st) (n2 : ¬ P big) (n3 : ¬ P al) : Ds st big al n S' := by
  obtain ⟨a1, a2, a3, bs, cs, t, ht, c0, c9, h1, h2, h3⟩ := h
  exact ⟨a1, a2, a3, bs, cs, t, ht, c0, c9, k _ _ n1 h1, k _ _ n2 h2, k _ _ n3 h3⟩
theorem Ds.keep {st big al : Addr} {n : Nat} {S S' : Sto} (h : Ds st big al n S) (k : SG S S') : Ds st big al n S' := h.keepP k (fun z => z) (fun z => z) (fun z => z)
theorem Ds.mono {st big al : Addr} {n m : Nat} {S : Sto} (h : Ds st big al n S) (e : n ≤ m) : Ds st big al m S := by
  obtain ⟨a1, a2, a3, bs, cs, t, ht, h⟩ := h
  exact ⟨a1, a2, a3, bs, cs, t, by omega, h⟩
theorem Ds.fresh {st big al : Addr} {n : Nat} {S : Sto} (h : Ds st big al n S) {p : Addr} (z : S p = none) : p ≠ st ∧ p ≠ big ∧ p ≠ al := by
  obtain ⟨a1, a2, a3, bs, cs, t, ht, c0, c9, h1, h2, h3⟩ := h
  exact ⟨fun e => (by rw [e, h1] at z; cases z), fun e => (by rw [e, h2] at z; cases z), fun e => (by rw [e, h3] at z; cases z)⟩
theorem Ds.put {st big al : Addr} {n : Nat} {S : Sto} (h : Ds st big al n S) {p : Addr} {o : Ob} (z : p ≠ st ∧ p ≠ big ∧ p ≠ al) : Ds st big al n (S.put p o) := by
  obtain ⟨a1, a2, a3, bs, cs, t, ht, c0, c9, h1, h2, h3⟩ := h
  exact ⟨a1, a2, a3, bs, cs, t, ht, c0, c9, (Sto.ne (Ne.symm z.1)).trans h1, (Sto.ne (Ne.symm z.2.1)).trans h2, (Sto.ne (Ne.symm z.2.2)).trans h3⟩
theorem nDS {st big al p : Addr} (z : p ≠ st ∧ p ≠ big ∧ p ≠ al) : ¬ DS' st big p := fun e => e.elim z.1 z.2.1
theorem Ds.free {st big al : Addr} {n : Nat} {S0 S : Sto} (D : Ds st big al n S) (k : SK (DS' st big) S0 S) {a : Addr} (z : S a = none) : S0 a = none := by
  cases e : S0 a with
  | none => rfl
  | some o =>
    have f := D.fresh z
    rw [k _ _ (nDS f) e] at z
    cases z
/-- a list whose items are tuples is none of the draws' own -/
theorem Ds.off {st big al : Addr} {n : Nat} {S : Sto} (h : Ds st big al n S) {p : Addr} {ds : List D} (e : S p = some (.lst ds)) (ht : ∀ d ∈ ds, ∃ xs, d = D.tup xs) (ne : ds ≠ []) : p ≠ st ∧ p ≠ big ∧ p ≠ al := by
  obtain ⟨a1, a2, a3, bs, cs, t, _, _, _, h1, h2, h3⟩ := h
  have pin : ∀ l : List Int, S p = some (.lst (intsD l)) → False := fun l hl => by
    rw [hl] at e
    have e := (Ob.lst.inj (Option.some.inj e)).symm
    subst e
    cases l with
    | nil => exact ne rfl
    | cons b r =>
      obtain ⟨xs, hx⟩ := ht _ List.mem_cons_self
      cases hx
  refine ⟨fun z => ?_, fun z => pin bs (z ▸ h2), fun z => pin cs (z ▸ h3)⟩
  subst z
  rw [h1] at e
  have e := (Ob.lst.inj (Option.some.inj e)).symm
  subst e
  obtain ⟨xs, hx⟩ := ht _ List.mem_cons_self
  cases hx
end Sv
set_option maxHeartbeats 800000
set_option autoImplicit false
namespace Sv
open PySem PySem.Spec PyProof.Rows L2
/-- the draws' state: the cells, at most n draws so far -/
def Dr (st cl : Addr) (n : Nat) (S : Sto) : Prop := st ≠ cl ∧ ∃ (cs : List Int) (t : Nat), t ≤ n ∧ S st = some (.lst [.ref cl, .int (t : Int)]) ∧ S cl = some (.lst (intsD cs))
theorem Dr.keepP {st cl : Addr} {n : Nat} {S S' : Sto} {P : Addr → Prop} (h : Dr st cl n S) (k : SK P S S') (n1 : ¬ P st) (n2 : ¬ P cl) : Dr st cl n S' := by
  obtain ⟨a1, cs, t, ht, h1, h2⟩ := h
  exact ⟨a1, cs, t, ht, k _ _ n1 h1, k _ _ n2 h2⟩
theorem Dr.keep {st cl : Addr} {n : Nat} {S S' : Sto} (h : Dr st cl n S) (k : SG S S') : Dr st cl n S' := h.keepP k (fun z => z) (fun z => z)
theorem Dr.mono {st cl : Addr} {n m : Nat} {S : Sto} (h : Dr st cl n S) (e : n ≤ m) : Dr st cl m S := by
  obtain ⟨a1, cs, t, ht, h⟩ := h
  exact ⟨a1, cs, t, by omega, h⟩
theorem Dr.fresh {st cl : Addr} {n : Nat} {S : Sto} (h : Dr st cl n S) {p : Addr} (z : S p = none) : p ≠ st ∧ p ≠ cl := by
  obtain ⟨a1, cs, t, ht, h1, h2⟩ := h
  exact ⟨fun e => (by rw [e, h1] at z; cases z), fun e => (by rw [e, h2] at z; cases z)⟩
theorem Dr.put {st cl : Addr} {n : Nat} {S : Sto} (h : Dr st cl n S) {p : Addr} {o : Ob} (z : p ≠ st ∧ p ≠ cl) : Dr st cl n (S.put p o) := by
  obtain ⟨a1, cs, t, ht, h1, h2⟩ := h
  exact ⟨a1, cs, t, ht, (Sto.ne (Ne.symm z.1)).trans h1, (Sto.ne (Ne.symm z.2)).trans h2⟩
theorem nDR {st cl p : Addr} (z : p ≠ st ∧ p ≠ cl) : ¬ DS' st cl p := fun e => e.elim z.1 z.2
theorem Dr.free {st cl : Addr} {n : Nat} {S0 S : Sto} (D : Dr st cl n S) (k : SK (DS' st cl) S0 S) {a : Addr} (z : S a = none) : S0 a = none := by
  cases e : S0 a with
  | none => rfl
  | some o =>
    have f := D.fresh z
    rw [k _ _ (nDR f) e] at z
    cases z
theorem asgC {d : D} {i : Nat} {u : DTS} {C : DEnds} {env : Env} {S : Sto} (h : u C (env.set i (some d)) S) : dSeq (dAsg (dC d) (dgName i)) u C env S := h
theorem w_drawK {st cl : Addr} {n : Nat} {S : Sto} {m : Int} {R : DK} (h : Dr st cl n S) (hn : n ≤ 1000000) (h0 : 0 < m) (h1 : m < 1000000) (k : ∀ (d : Nat) S', (d : Int) < m → Dr st cl (n + 1) S' → SK (DS' st cl) S S' → R (.int (d : Int)) S') : dFn 5 B_law_draw_ebff [.ref st, .int m] S R := by
  obtain ⟨a1, cs, t, ht, hs, hc⟩ := h
  have k : ∀ (d : Int) S', 0 ≤ d → d < m → Dr st cl (n + 1) S' → SK (DS' st cl) S S' → R (.int d) S' := fun d S' d0 d1 D sk => by
    obtain ⟨e, rfl⟩ : ∃ e : Nat, d = (e : Int) := ⟨d.toNat, by omega⟩
    exact k e S' d1 D sk
  refine ⟨_, rfl, _, 1, _, seqOf_lst hs, rfl, rfl, _, rfl, st, _, 1, 1, rfl, rfl, hs, rfl, ?_⟩
  have hs1 : (S.put st (.lst ([D.ref cl, .int (t : Int)].set 1 (.int ((t : Int) + 1))))) st = some (.lst [.ref cl, .int ((t + 1 : Nat) : Int)]) := Sto.same
  have hc1 : (S.put st (.lst ([D.ref cl, .int (t : Int)].set 1 (.int ((t : Int) + 1))))) cl = _ := (Sto.ne (Ne.symm a1)).trans hc
  have sk1 : SK (DS' st cl) S (S.put st (.lst ([D.ref cl, .int (t : Int)].set 1 (.int ((t : Int) + 1))))) := .put (.inl rfl)
  generalize S.put st (.lst ([D.ref cl, .int (t : Int)].set 1 (.int ((t : Int) + 1)))) = S1 at hs1 hc1 sk1 ⊢
  show dSeq (dAsg (dC (.int 0)) (dgName 2)) _ _ _ _
  refine asgC ?_
  dsimp only
  refine seqP (fun env S' => ∃ (c : Int) (x : Option D), env = [some (.ref st), some (.int m), some (.int c), x, none] ∧ S' = S1) (fun C' hrt _ _ hnx => ?_) ?_
  · refine ⟨_, rfl, _, 0, _, seqOf_lst hs1, rfl, rfl, _, _, rfl, seqOf_lst hc1, _, rfl, iteB (fun hb => ?_) (fun _ => hnx _ _ ⟨0, none, rfl, rfl⟩)⟩
    have hb : decide ((0 : Int) < (((intsD cs).length : Nat) : Int)) = true := hb
    have hb := of_decide_eq_true hb
    rw [intsD_len] at hb
    refine ⟨_, rfl, _, 1, _, seqOf_lst hs1, rfl, rfl, _, rfl, _, 0, _, seqOf_lst hs1, rfl, rfl, _, _, rfl, seqOf_lst hc1, by rw [intsD_len]; omega, ?_⟩
    obtain ⟨pl, hpl, hlt⟩ : ∃ pl : Nat, ((t + 1 : Nat) : Int) % ((intsD cs).length : Int) = (pl : Int) ∧ pl < cs.length := ⟨(t + 1) % cs.length, by rw [intsD_len]; omega, Nat.mod_lt _ (by omega)⟩
    rw [hpl]
    obtain ⟨c, hcp⟩ : ∃ c, cs[pl]? = some c := ⟨_, List.getElem?_eq_getElem hlt⟩
    have hcp := intsD_at hcp
    refine ⟨_, rfl, _, 0, _, seqOf_lst hs1, rfl, rfl, _, rfl, _, (pl : Int), _, seqOf_lst hc1, rfl, atI_nat hcp, _, rfl, ?_⟩
    have pow : ((10 : Int) ^ (18 : Int).toNat) = 1000000000000000000 := by decide
    refine ⟨⟨by decide, by decide, by decide⟩, _, rfl, iteB (fun _ => ?_) (fun _ => hnx _ _ ⟨c, _, rfl, rfl⟩)⟩
    refine ⟨_, rfl, _, rfl, ⟨h0, by omega⟩, _, rfl, _, 0, _, seqOf_lst hs1, rfl, rfl, _, rfl, cl, _, (pl : Int), pl, rfl, rfl, hc1, ixnN' (by rw [intsD_len]; exact hlt), ?_⟩
    refine ⟨_, rfl, _, rfl, h0, ?_⟩
    rw [hrt]
    rw [intsD_set]
    exact k _ _ (Int.emod_nonneg _ (by omega)) (Int.emod_lt_of_pos _ h0) ⟨a1, _, t + 1, by omega, (Sto.ne a1).trans hs1, Sto.same⟩ (sk1.trans (.put (.inr rfl)))
  · rintro env S2 ⟨c, x, rfl, e⟩
    have e := e.symm
    subst e
    have m0 := Int.emod_nonneg c (show (2147483563 : Int) ≠ 0 by decide)
    have m1 := Int.emod_lt_of_pos c (show (0 : Int) < 2147483563 by decide)
    refine ⟨_, rfl, by decide, _, rfl, _, 1, _, seqOf_lst hs1, rfl, rfl, .inl ⟨by decide, by decide⟩, ⟨by decide, by decide, by omega⟩, by decide, ?_⟩
    generalize hv : (c % 2147483563 + 15485863 * ((t + 1 : Nat) : Int) + 5) ^ (5 : Int).toNat % 2147483647 = v
    refine ⟨_, rfl, ⟨by decide, by decide⟩, _, rfl, h0, ?_⟩
    exact k _ _ (Int.emod_nonneg _ (by omega)) (Int.emod_lt_of_pos _ h0) ⟨a1, cs, t + 1, by omega, hs1, hc1⟩ sk1
theorem w_deckK {ns : List Int} {S : Sto} {R : DK} (hn : ns.length ≤ 63) (k : ∀ st cl S', Dr st cl 0 S' → SG S S' → S st = none → S cl = none → R (.ref st) S') : dFn 2 B_law_deck_e528 [.rol (intsD ns)] S R := by
  refine ⟨_, rfl, 62, rfl, fun p np => ⟨⟨(cutD (intsD ns) none (some 62)), fun S' => S' p = _⟩, ⟨_, Sto.same, rfl⟩, ?_⟩⟩
  have sg1 : SG S (S.put p (.lst (cutD (intsD ns) none (some 62)))) := .new np
  have hc : ∃ bs : List Int, cutD (intsD ns) none (some 62) = intsD bs := ⟨(ns.drop (HT.sIx (intsD ns).length 0 none)).take (HT.sIx (intsD ns).length (intsD ns).length (some 62) - HT.sIx (intsD ns).length 0 none), by
    unfold cutD intsD
    rw [List.map_take, List.map_drop]⟩
  have hl : (cutD (intsD ns) none (some 62)).length ≤ 63 := by
    unfold cutD
    rw [List.length_take, List.length_drop]
    have : (intsD ns).length = ns.length := List.length_map ..
    omega
  obtain ⟨bs, hbs⟩ := hc
  generalize hcc : cutD (intsD ns) none (some 62) = cc at *
  subst hbs
  have hp : (S.put p (.lst (intsD bs))) p = some (.lst (intsD bs)) := Sto.same
  generalize S.put p (.lst (intsD bs)) = S1 at *
  have bl : bs.length ≤ 63 := by rw [← intsD_len]; exact hl
  have hfm : (intsD bs).filterMap (fun d => match d with | .int i => some (D.int (if i < 0 then -i else i)) | _ => none) = intsD (bs.map fun i => if i < 0 then -i else i) := by
    unfold intsD
    rw [List.filterMap_map, List.map_map]
    exact fm_map _ bs
  refine lc_fun ⟨intsD bs, fun S' => S' p = _⟩ (fun d => match d with | .int i => some (D.int (if i < 0 then -i else i)) | _ => none) (by show (intsD bs).length ≤ 100000; omega) (fun S' sg => sg _ _ (fun z => z) hp) (fun d hd S2 sg K Kn hk _ => ?_) fun q S2 nq sg2 hq => ?_
  · obtain ⟨i, _, rfl⟩ := List.mem_map.mp hd
    exact turn_y ⟨_, rfl, i, rfl, hk _ rfl _ (.refl _)⟩
  · rw [hfm] at hq
    refine ⟨rfl, fun st nst => ?_⟩
    have n1 : st ≠ q := fun z => by rw [z, hq] at nst; cases nst
    have sg12 := sg1.trans sg2
    have nn : S st = none := by
      cases z : S st with
      | none => rfl
      | some o => rw [sg12 _ _ (fun z => z) z] at nst; cases nst
    have nq0 : S q = none := by
      cases z : S q with
      | none => rfl
      | some o => rw [sg1 _ _ (fun z => z) z] at nq; cases nq
    exact k st q _ ⟨n1, _, 0, Nat.le_refl _, Sto.same, (Sto.ne (Ne.symm n1)).trans hq⟩ (sg12.trans (.new nst)) nn nq0
theorem w_oneK {st cl : Addr} {n : Nat} {S : Sto} {d : D} {ds : List D} {R : DK} (h : Dr st cl n S) (h9 : n ≤ 1000000) (hd : ∀ S', SK (DS' st cl) S S' → seqOf S' d = some ds) (h0 : ds ≠ []) (hn : ds.length ≤ 100000)
    (k : ∀ (j : Nat) (x : D) S', ds[j]? = some x → Dr st cl (n + 1) S' → SK (DS' st cl) S S' → R x S') : dFn 2 B_law_one_b6e1 [.ref st, d] S R := by
  refine ⟨_, rfl, _, rfl, _, rfl, d, _, rfl, hd S (.refl S), rfl, ?_⟩
  have hp : 0 < ds.length := List.length_pos_iff.mpr h0
  refine w_drawK h h9 (by omega) (by omega) fun j S3 i1 D3 k3 => ?_
  have hj : j < ds.length := by omega
  have hx := List.getElem?_eq_getElem hj
  exact ⟨ds, j, ds[j], hd S3 k3, rfl, atI_nat hx, k j _ S3 hx D3 k3⟩
end Sv
namespace Sv
open PySem PySem.Spec PyProof.Rows L2
def hapFrom (e : Int) : Nat → List (List Int) → Option (Nat × Nat)
  | _, [] => none
  | p, r :: rs => if e ∈ r then some (p, (r.take (r.idxOf e)).count 0) else hapFrom e (p + 1) rs
def hap (rows : List (List Int)) (e : Int) : Option (Nat × Nat) := hapFrom e 0 rows
def poss (l : List Int) : List Int := l.filter fun e => decide (0 < e)
def negs (l : List Int) : List Int := (l.filter fun e => decide (e < 0)).map fun e => -e
def LeL (a b : List Nat) : Prop := ∀ (i x y : Nat), a[i]? = some x → b[i]? = some y → x ≤ y
theorem LeL.set {a b : List Nat} (h : LeL a b) {p d k : Nat} (hd : a[p]? = some d) (hk : k ≤ d) : LeL (a.set p k) b := fun i x y g1 g2 => by
  rw [List.getElem?_set] at g1
  split at g1
  · rename_i e
    subst e
    split at g1
    · obtain rfl := Option.some.inj g1
      have := h _ _ _ hd g2
      omega
    · cases g1
  · exact h _ _ _ g1 g2
theorem flat_set {r : List (List Int)} {p : Nat} {row : List Int} {v : Int} (h : r[p]? = some row) : (r.set p (row ++ [v])).flatten.Perm (v :: r.flatten) := by
  induction r generalizing p with
  | nil => simp at h
  | cons a r ih =>
    cases p with
    | zero =>
      obtain rfl : a = row := Option.some.inj h
      simp only [List.set_cons_zero, List.flatten_cons, List.append_assoc, List.singleton_append]
      exact List.perm_middle
    | succ p =>
      simp only [List.set_cons_succ, List.flatten_cons]
      exact ((ih (p := p) h).append_left a).trans List.perm_middle
theorem names_pos {nm : List Int} (hn : nm.Perm names24) : ∀ m ∈ nm, 1 ≤ m ∧ m ≤ 24 := by
  intro m h1
  have h2 := hn.mem_iff.mp h1
  obtain ⟨i, hi, rfl⟩ := List.mem_map.mp h2
  have := List.mem_range.mp hi
  omega
theorem Grown.small {c : Nat} {nm : List Int} {r : List (List Int)} {o : List (Int × Int)} {u k : Nat} (h : Grown c nm r o u k) (hn : nm.Perm names24) :
    (∀ row ∈ r, ∀ e ∈ row, -24 ≤ e ∧ e ≤ 24) ∧ ∀ p ∈ o, 1 ≤ p.1 ∧ p.1 ≤ 24 := by
  have setl : ∀ {r : List (List Int)} {p : Nat} {row : List Int} {v : Int}, (∀ row ∈ r, ∀ e ∈ row, -24 ≤ e ∧ e ≤ 24) → r[p]? = some row → -24 ≤ v → v ≤ 24 → ∀ row' ∈ r.set p (row ++ [v]), ∀ e ∈ row', -24 ≤ e ∧ e ≤ 24 := by
    intro r p row v h1 h2 h3 h4 row' hr e he
    rcases List.mem_or_eq_of_mem_set hr with z | rfl
    · exact h1 _ z e he
    · rcases List.mem_append.mp he with z | z
      · exact h1 _ (List.mem_of_getElem? h2) e z
      · rw [List.mem_singleton.mp z]
        exact ⟨h3, h4⟩
  have hm : ∀ m ∈ nm, 1 ≤ m ∧ m ≤ 24 := by
    intro m h1
    have h2 := hn.mem_iff.mp h1
    obtain ⟨i, hi, rfl⟩ := List.mem_map.mp h2
    have := List.mem_range.mp hi
    omega
  induction h with
  | start =>
    refine ⟨fun row hr e he => ?_, fun p hp => (nomatch hp)⟩
    rw [(List.mem_replicate.mp hr).2] at he
    exact (nomatch he)
  | skip _ ih => exact ih
  | save _ h ih => exact ⟨setl ih.1 h (by decide) (by decide), ih.2⟩
  | send _ h hu ih =>
    have := hm _ (List.mem_of_getElem? hu)
    refine ⟨setl ih.1 h (by omega) (by omega), fun p hp => ?_⟩
    rcases List.mem_append.mp hp with z | z
    · exact ih.2 p z
    · rw [List.mem_singleton.mp z]
      exact this
  | recv _ h hj _ ih =>
    have := ih.2 _ (List.mem_of_getElem? hj)
    exact ⟨setl ih.1 h (by omega) (by omega), fun p hp => ih.2 p (List.mem_of_mem_eraseIdx hp)⟩
theorem unerase_perm {α : Type} : ∀ {o : List α} {j : Nat} {x : α}, o[j]? = some x → (x :: o.eraseIdx j).Perm o
  | [], j, _, h => by simp at h
  | a :: o, 0, x, h => by
    obtain rfl : a = x := Option.some.inj h
    exact .refl _
  | a :: o, j + 1, x, h => by
    rw [List.eraseIdx_cons_succ]
    exact (List.Perm.swap a x _).trans ((unerase_perm (o := o) (j := j) h).cons a)
theorem Grown.once {c : Nat} {nm : List Int} {r : List (List Int)} {o : List (Int × Int)} {u k : Nat} (h : Grown c nm r o u k) (hn : nm.Perm names24) :
    (poss r.flatten).Perm (nm.take u) ∧ (negs r.flatten ++ o.map (·.1)).Perm (nm.take u) := by
  induction h with
  | start =>
    have e : (List.replicate c ([] : List Int)).flatten = [] := by simp
    rw [e]
    exact ⟨.refl _, .refl _⟩
  | skip _ ih => exact ih
  | save _ h ih =>
    have p := flat_set (v := 0) h
    exact ⟨(p.filter _).trans ih.1, (((p.filter _).map _).append_right _).trans ih.2⟩
  | @send r o u k p row m g h hu ih =>
    have q := flat_set (v := m) h
    have hm := names_pos hn _ (List.mem_of_getElem? hu)
    have tk : nm.take (u + 1) = nm.take u ++ [m] := by
      rw [List.take_add_one, hu]
      rfl
    rw [tk]
    have h1 : poss (m :: r.flatten) = m :: poss r.flatten := List.filter_cons_of_pos (decide_eq_true (by omega))
    have h2 : negs (m :: r.flatten) = negs r.flatten := by
      unfold negs
      rw [List.filter_cons_of_neg (by rw [decide_eq_false (show ¬ m < 0 by omega)]; exact Bool.false_ne_true)]
    refine ⟨(q.filter _).trans ?_, (((q.filter _).map _).append_right _).trans ?_⟩
    · show (poss (m :: r.flatten)).Perm _
      rw [h1]
      exact (ih.1.cons m).trans (List.perm_append_singleton m _).symm
    · show (negs (m :: r.flatten) ++ _).Perm _
      rw [h2, List.map_append, ← List.append_assoc]
      exact ih.2.append_right _
  | @recv r o u k row j m q p g h hj _ ih =>
    have w := flat_set (v := 0 - m) h
    have hm := (g.small hn).2 _ (List.mem_of_getElem? hj)
    have h1 : poss ((0 - m) :: r.flatten) = poss r.flatten := List.filter_cons_of_neg (by rw [decide_eq_false (show ¬ 0 < 0 - m by simp only at hm; omega)]; exact Bool.false_ne_true)
    have h2 : negs ((0 - m) :: r.flatten) = m :: negs r.flatten := by
      have d : decide (0 - m < 0) = true := decide_eq_true (by simp only at hm; omega)
      have e1 : -(0 - m) = m := by omega
      unfold negs
      simp only [List.filter_cons, d, if_true, List.map_cons, e1]
    refine ⟨(w.filter _).trans ?_, (((w.filter _).map _).append_right _).trans ?_⟩
    · show (poss ((0 - m) :: r.flatten)).Perm _
      rw [h1]
      exact ih.1
    · show (negs ((0 - m) :: r.flatten) ++ _).Perm _
      rw [h2]
      have e := (unerase_perm hj).map Prod.fst
      refine List.Perm.trans ?_ ((e.append_left _).trans ih.2)
      exact List.perm_middle.symm
theorem names_nodup : names24.Nodup := by decide
theorem Grown.count {c : Nat} {nm : List Int} {r : List (List Int)} {o : List (Int × Int)} {u k : Nat} (h : Grown c nm r o u k) (hn : nm.Perm names24) {e : Int} (he : e ≠ 0) : r.flatten.count e ≤ 1 := by
  obtain ⟨h1, h2⟩ := h.once hn
  have nt : (nm.take u).Nodup := ((hn.nodup_iff).mpr names_nodup).sublist (List.take_sublist _ _)
  by_cases hp : 0 < e
  · have n1 : (poss r.flatten).Nodup := h1.nodup_iff.mpr nt
    have := List.nodup_iff_count.mp n1 e
    unfold poss at this
    rw [List.count_filter (p := fun e : Int => decide (0 < e)) (decide_eq_true hp)] at this
    exact this
  · have n2 : (negs r.flatten).Nodup := (h2.nodup_iff.mpr nt).sublist (List.sublist_append_left _ _)
    have hlt : e < 0 := by omega
    have n3 : (r.flatten.filter fun e => decide (e < 0)).Nodup := by
      unfold negs at n2
      exact (List.pairwise_map.mp n2).imp fun h z => h (by rw [z])
    have := List.nodup_iff_count.mp n3 e
    rw [List.count_filter (p := fun e : Int => decide (e < 0)) (decide_eq_true hlt)] at this
    exact this
theorem hapFrom_some {e : Int} : ∀ {rs : List (List Int)} {p i : Nat} {row : List Int}, (∀ (j : Nat) (r : List Int), j < i → rs[j]? = some r → e ∉ r) → rs[i]? = some row → e ∈ row → hapFrom e p rs = some (p + i, (row.take (row.idxOf e)).count 0)
  | [], _, i, _, _, h, _ => by simp at h
  | r :: rs, p, 0, row, _, h, he => by
    obtain rfl : r = row := Option.some.inj h
    unfold hapFrom
    rw [if_pos he]
    rfl
  | r :: rs, p, i + 1, row, hn, h, he => by
    unfold hapFrom
    rw [if_neg (hn 0 r (Nat.succ_pos _) rfl), hapFrom_some (i := i) (fun j r' hj hr => hn (j + 1) r' (Nat.succ_lt_succ hj) hr) h he]
    have : p + 1 + i = p + (i + 1) := by omega
    rw [this]
theorem idx_once : ∀ {row : List Int} {i : Nat} {e : Int}, row[i]? = some e → row.count e ≤ 1 → row.idxOf e = i
  | [], i, _, h, _ => by simp at h
  | a :: r, 0, e, h, _ => by
    obtain rfl : a = e := Option.some.inj h
    exact List.idxOf_cons_self
  | a :: r, i + 1, e, h, hc => by
    have h1 : e ∈ r := List.mem_of_getElem? (i := i) h
    have h2 := List.count_pos_iff.mpr h1
    have hne : a ≠ e := fun z => by
      subst z
      rw [List.count_cons_self] at hc
      omega
    rw [List.count_cons_of_ne hne] at hc
    rw [List.idxOf_cons, idx_once (row := r) (i := i) h hc, beq_false_of_ne hne]
    rfl
theorem count_at : ∀ {r : List (List Int)} {i : Nat} {row : List Int} {e : Int}, r[i]? = some row → row.count e ≤ r.flatten.count e
  | [], i, _, _, h => by simp at h
  | a :: r, 0, row, e, h => by
    obtain rfl : a = row := Option.some.inj h
    rw [List.flatten_cons, List.count_append]
    omega
  | a :: r, i + 1, row, e, h => by
    have := count_at (r := r) (i := i) (e := e) h
    rw [List.flatten_cons, List.count_append]
    omega
theorem count_two : ∀ {r : List (List Int)} {i j : Nat} {a b : List Int} {e : Int}, i < j → r[i]? = some a → r[j]? = some b → e ∈ a → e ∈ b → 2 ≤ r.flatten.count e
  | [], i, _, _, _, _, _, h, _, _, _ => by simp at h
  | x :: r, 0, j + 1, a, b, e, _, h1, h2, h3, h4 => by
    obtain rfl : x = a := Option.some.inj h1
    have h5 := count_at (r := r) (i := j) (e := e) h2
    have h6 := List.count_pos_iff.mpr h3
    have h7 := List.count_pos_iff.mpr h4
    rw [List.flatten_cons, List.count_append]
    omega
  | x :: r, i + 1, j + 1, a, b, e, hij, h1, h2, h3, h4 => by
    have := count_two (r := r) (i := i) (j := j) (Nat.lt_of_succ_lt_succ hij) h1 h2 h3 h4
    rw [List.flatten_cons, List.count_append]
    omega
/-- where an event of a message happened -/
theorem Good.hap_at {many most : Nat} {rows : List (List Int)} (h : Good many most rows) {p i : Nat} {row : List Int} {e : Int} (h1 : rows[p]? = some row) (h2 : row[i]? = some e) (he : e ≠ 0) : hap rows e = some (p, (row.take i).count 0) := by
  obtain ⟨c, nm, o, u, k, _, _, hp, g, _⟩ := h
  have hc := g.count hp he
  have hm := List.mem_of_getElem? h2
  have h3 := hapFrom_some (e := e) (p := 0) (rs := rows) (i := p) (row := row) (fun j r hj hr hr2 => ?_) h1 hm
  · unfold hap
    rw [h3, Nat.zero_add, idx_once h2 (Nat.le_trans (count_at h1) hc)]
  · have := count_two hj hr h1 hr2 hm
    omega
theorem Good.len {many most : Nat} {rows : List (List Int)} (h : Good many most rows) : 1 ≤ rows.length ∧ rows.length ≤ many := by
  obtain ⟨c, nm, o, u, k, h1, h2, h3, h4, h5⟩ := h
  rw [h4.len]
  exact ⟨h1, h2⟩
theorem Good.events {many most : Nat} {rows : List (List Int)} (h : Good many most rows) : (rows.map List.length).sum ≤ most := by
  obtain ⟨c, nm, o, u, k, h1, h2, h3, h4, h5⟩ := h
  exact Nat.le_trans h4.events h5
theorem Good.row {many most : Nat} {rows : List (List Int)} (h : Good many most rows) {i : Nat} {row : List Int} (e : rows[i]? = some row) : row.length ≤ most ∧ ∀ x ∈ row, -24 ≤ x ∧ x ≤ 24 := by
  obtain ⟨c, nm, o, u, k, h1, h2, h3, h4, h5⟩ := id h
  exact ⟨Nat.le_trans (len_le_sum e) h.events, (h4.small h3).1 row (List.mem_of_getElem? e)⟩
def recvM (rows : List (List Int)) (m : Int) : Bool := (hap rows (0 - m)).isSome
def recvL (rows : List (List Int)) : List Int := names24.filter (recvM rows)
theorem recvL_nodup (rows : List (List Int)) : (recvL rows).Nodup := names_nodup.sublist List.filter_sublist
theorem names_mem {m : Int} : m ∈ names24 ↔ 1 ≤ m ∧ m ≤ 24 := by
  unfold names24
  rw [List.mem_map]
  constructor
  · rintro ⟨i, hi, rfl⟩
    have := List.mem_range.mp hi
    omega
  · intro h
    exact ⟨(m - 1).toNat, List.mem_range.mpr (by omega), by omega⟩
/-- where an event stands first -/
def spotFrom (e : Int) : Nat → List (List Int) → Option (Nat × Nat)
  | _, [] => none
  | p, r :: rs => if e ∈ r then some (p, r.idxOf e) else spotFrom e (p + 1) rs
theorem spot_hap {e : Int} : ∀ {rs : List (List Int)} {p : Nat}, (spotFrom e p rs = none ∧ hapFrom e p rs = none) ∨ ∃ j row, rs[j]? = some row ∧ e ∈ row ∧ spotFrom e p rs = some (p + j, row.idxOf e) ∧ hapFrom e p rs = some (p + j, (row.take (row.idxOf e)).count 0)
  | [], _ => .inl ⟨rfl, rfl⟩
  | r :: rs, p => by
    unfold spotFrom hapFrom
    by_cases h : e ∈ r
    · rw [if_pos h, if_pos h]
      exact .inr ⟨0, r, rfl, h, rfl, rfl⟩
    · rw [if_neg h, if_neg h]
      rcases spot_hap (e := e) (rs := rs) (p := p + 1) with q | ⟨j, row, h1, h2, h3, h4⟩
      · exact .inl q
      · refine .inr ⟨j + 1, row, h1, h2, ?_, ?_⟩
        · rw [h3]; congr 2; omega
        · rw [h4]; congr 2; omega
theorem Good.recv {many most : Nat} {rows : List (List Int)} (h : Good many most rows) : (negs rows.flatten).Perm (recvL rows) := by
  obtain ⟨c, nm, o, u, k, h1, h2, hp, g, h5⟩ := id h
  have nt : (nm.take u).Nodup := ((hp.nodup_iff).mpr names_nodup).sublist (List.take_sublist _ _)
  have n1 : (negs rows.flatten).Nodup := ((g.once hp).2.nodup_iff.mpr nt).sublist (List.sublist_append_left _ _)
  refine (List.perm_ext_iff_of_nodup n1 (recvL_nodup rows)).mpr fun m => ?_
  unfold negs recvL
  rw [List.mem_map, List.mem_filter, names_mem]
  constructor
  · rintro ⟨e, he, rfl⟩
    obtain ⟨hm, hneg⟩ := List.mem_filter.mp he
    obtain ⟨row, hr, hmr⟩ := List.mem_flatten.mp hm
    obtain ⟨p, hp1⟩ := List.getElem?_of_mem hr
    obtain ⟨i, hi⟩ := List.getElem?_of_mem hmr
    have hb := (h.row hp1).2 e hmr
    have h0 : e < 0 := of_decide_eq_true hneg
    refine ⟨by omega, ?_⟩
    unfold recvM
    rw [show (0 : Int) - -e = e by omega, h.hap_at hp1 hi (by omega)]
    rfl
  · rintro ⟨hm, hs⟩
    refine ⟨0 - m, List.mem_filter.mpr ⟨?_, decide_eq_true (by omega)⟩, by omega⟩
    rcases spot_hap (e := 0 - m) (rs := rows) (p := 0) with ⟨_, z⟩ | ⟨p, row, z1, z2, _⟩
    · unfold recvM hap at hs
      rw [z] at hs
      cases hs
    · exact List.mem_flatten.mpr ⟨row, List.mem_of_getElem? z1, z2⟩
def sentM (rows : List (List Int)) (m : Int) : Bool := (hap rows m).isSome
def sentL (rows : List (List Int)) : List Int := names24.filter (sentM rows)
theorem Good.sent {many most : Nat} {rows : List (List Int)} (h : Good many most rows) : (poss rows.flatten).Perm (sentL rows) := by
  obtain ⟨c, nm, o, u, k, h1, h2, hp, g, h5⟩ := id h
  have nt : (nm.take u).Nodup := ((hp.nodup_iff).mpr names_nodup).sublist (List.take_sublist _ _)
  have n1 : (poss rows.flatten).Nodup := (g.once hp).1.nodup_iff.mpr nt
  have n2 : (sentL rows).Nodup := names_nodup.sublist List.filter_sublist
  refine (List.perm_ext_iff_of_nodup n1 n2).mpr fun m => ?_
  unfold poss sentL
  rw [List.mem_filter, List.mem_filter, names_mem]
  constructor
  · rintro ⟨hm, hpos⟩
    obtain ⟨row, hr, hmr⟩ := List.mem_flatten.mp hm
    obtain ⟨p, hp1⟩ := List.getElem?_of_mem hr
    obtain ⟨i, hi⟩ := List.getElem?_of_mem hmr
    have hb := (h.row hp1).2 m hmr
    have h0 : 0 < m := of_decide_eq_true hpos
    refine ⟨by omega, ?_⟩
    unfold sentM
    rw [h.hap_at hp1 hi (by omega)]
    rfl
  · rintro ⟨hm, hs⟩
    refine ⟨?_, decide_eq_true (by omega)⟩
    rcases spot_hap (e := m) (rs := rows) (p := 0) with ⟨_, z⟩ | ⟨p, row, z1, z2, _⟩
    · unfold sentM hap at hs
      rw [z] at hs
      cases hs
    · exact List.mem_flatten.mpr ⟨row, List.mem_of_getElem? z1, z2⟩
theorem Good.recv_sent {many most : Nat} {rows : List (List Int)} (h : Good many most rows) {m : Int} (hm : m ∈ recvL rows) : sentM rows m = true := by
  obtain ⟨c, nm, o, u, k, h1, h2, hp, g, h5⟩ := id h
  have h6 := h.recv.mem_iff.mpr hm
  have h7 := (g.once hp).2.mem_iff.mp (List.mem_append_left _ h6)
  have h8 := h.sent.mem_iff.mp ((g.once hp).1.mem_iff.mpr h7)
  exact (List.mem_filter.mp h8).2
theorem names_sorted : names24.Pairwise (· ≤ ·) := by decide +kernel
theorem recvL_sorted (rows : List (List Int)) : (recvL rows).Pairwise (· ≤ ·) := names_sorted.sublist List.filter_sublist
theorem recvL_len (rows : List (List Int)) : (recvL rows).length ≤ 24 := by
  have := List.length_filter_le (recvM rows) names24
  have h24 : names24.length = 24 := by decide +kernel
  unfold recvL
  omega
theorem Good.hap_lt {rows : List (List Int)} {e : Int} {p k : Nat} (h : hap rows e = some (p, k)) : p < rows.length := by
  rcases spot_hap (e := e) (rs := rows) (p := 0) with ⟨_, z⟩ | ⟨p', row, z1, z2, _, z4⟩
  · unfold hap at h
    rw [z] at h
    cases h
  · unfold hap at h
    rw [z4, Nat.zero_add] at h
    cases h
    exact (List.getElem?_eq_some_iff.mp z1).1
theorem LeL.refl (a : List Nat) : LeL a a := fun i x y h1 h2 => by rw [h1] at h2; rw [Option.some.inj h2]; exact Nat.le_refl _
/-- no message is received before the line and sent behind it -/
def ConsL (rows : List (List Int)) (cs : List Nat) : Prop := ∀ (m : Int) (p k p' k' c c' : Nat), 0 < m → hap rows m = some (p, k) → hap rows (0 - m) = some (p', k') → cs[p]? = some c → cs[p']? = some c' → k' < c' → k < c
structure Dn (rows : List (List Int)) (high cs : List Nat) : Prop where
  len : cs.length = high.length
  le : LeL cs high
  top : ∀ L : List Nat, L.length = high.length → LeL L high → ConsL rows L → LeL L cs
structure IsLow (rows : List (List Int)) (high cs : List Nat) : Prop extends Dn rows high cs where
  cons : ConsL rows cs
/-- the greatest numbers that are left if these fail -/
def tops (rows : List (List Int)) (fs : List Int) : List Nat := rows.mapIdx fun i r => r.count 0 + (if decide ((i : Int) ∈ fs) = true then 0 else 1)
def prs (rows : List (List Int)) : List Nat := rows.map fun r => r.count 0 + 1
/-- a state that is needed when f fails -/
def NeedAt (rows : List (List Int)) (f p n : Nat) : Prop := ∃ cs : List Nat, IsLow rows (tops rows [(f : Int)]) cs ∧ cs[p]? = some n ∧ n < ((prs rows)[p]?).getD 0
def NeedL (rows : List (List Int)) (us : List (Int × Int)) : Prop := us.length < 64 ∧ us.Pairwise (fun a b => pc a < pc b) ∧ ∀ x, x ∈ us ↔ ∃ f p n : Nat, f < rows.length ∧ NeedAt rows f p n ∧ x = ((p : Int), (n : Int))
theorem NeedL.unique {rows : List (List Int)} {us vs : List (Int × Int)} (h : NeedL rows us) (g : NeedL rows vs) : us = vs := rise_eq pc us vs h.2.1 g.2.1 fun x => (h.2.2 x).trans (g.2.2 x).symm
theorem IsLow.unique {rows : List (List Int)} {high a b : List Nat} (ha : IsLow rows high a) (hb : IsLow rows high b) : a = b := by
  apply List.ext_getElem (ha.len.trans hb.len.symm)
  intro i h1 h2
  have e1 := List.getElem?_eq_getElem h1
  have e2 := List.getElem?_eq_getElem h2
  exact Nat.le_antisymm (hb.top a ha.len ha.le ha.cons i _ _ e1 e2) (ha.top b hb.len hb.le hb.cons i _ _ e2 e1)
theorem Dn.step {rows : List (List Int)} {high cs : List Nat} (h : Dn rows high cs) {m : Int} {p k p' k' c c' : Nat} (hm : 0 < m) (h1 : hap rows m = some (p, k)) (h2 : hap rows (0 - m) = some (p', k')) (h3 : cs[p]? = some c) (h4 : cs[p']? = some c') (h5 : k' < c') (h6 : c ≤ k) : Dn rows high (cs.set p' k') := by
  refine ⟨by rw [List.length_set]; exact h.len, fun i x y g1 g2 => ?_, fun L l1 l2 l3 i x y g1 g2 => ?_⟩
  · rw [List.getElem?_set] at g1
    split at g1
    · rename_i e
      subst e
      split at g1
      · obtain rfl := Option.some.inj g1
        have := h.le _ _ _ h4 g2
        omega
      · cases g1
    · exact h.le _ _ _ g1 g2
  · have hl := h.top L l1 l2 l3
    rw [List.getElem?_set] at g2
    split at g2
    · rename_i e
      subst e
      split at g2
      · obtain rfl := Option.some.inj g2
        have hpl : p < L.length := by
          rw [l1, ← h.len]
          exact (List.getElem?_eq_some_iff.mp h3).1
        have hp := List.getElem?_eq_getElem hpl
        have h7 := hl _ _ _ hp h3
        rcases Nat.lt_or_ge k' x with z | z
        · have := l3 m p k p' k' _ x hm h1 h2 hp g1 z
          omega
        · exact z
      · cases g2
    · exact hl _ _ _ g1 g2
theorem Dn.start (rows : List (List Int)) (high : List Nat) : Dn rows high high := ⟨rfl, .refl _, fun _ _ h _ => h⟩
theorem tops_at {rows : List (List Int)} {fs : List Int} {i : Nat} {r : List Int} (h : rows[i]? = some r) : (tops rows fs)[i]? = some (r.count 0 + (if decide ((i : Int) ∈ fs) = true then 0 else 1)) := by
  unfold tops
  rw [List.getElem?_mapIdx, h]
  rfl
theorem tops_len (rows : List (List Int)) (fs : List Int) : (tops rows fs).length = rows.length := by
  unfold tops
  rw [List.length_mapIdx]
def rowU (p j : Nat) : List (Int × Int) := (List.range j).map fun (n : Nat) => ((p : Int), (n : Int))
def allU (rows : List (List Int)) (i : Nat) : List (Int × Int) := (List.range i).flatMap fun p => rowU p (((prs rows)[p]?).getD 0 + 1)
theorem rowU_len (p j : Nat) : (rowU p j).length = j := by
  unfold rowU
  rw [List.length_map, List.length_range]
theorem allU_succ (rows : List (List Int)) (i : Nat) : allU rows (i + 1) = allU rows i ++ rowU i (((prs rows)[i]?).getD 0 + 1) := by
  unfold allU
  rw [List.range_succ, List.flatMap_append]
  simp
theorem prsA {rows : List (List Int)} {p : Nat} {row : List Int} (h : rows[p]? = some row) : (prs rows)[p]? = some (row.count 0 + 1) := by
  unfold prs
  rw [List.getElem?_map, h]
  rfl
theorem count_le_len (row : List Int) : row.count 0 ≤ row.length := List.count_le_length ..
theorem prs_le {rows : List (List Int)} (h60 : ∀ r ∈ rows, r.length ≤ 60) (p : Nat) : ((prs rows)[p]?).getD 0 ≤ 61 := by
  by_cases h : p < rows.length
  · have hr := List.getElem?_eq_getElem h
    rw [prsA hr]
    have h1 := h60 _ (List.getElem_mem h)
    have h2 := count_le_len rows[p]
    show rows[p].count 0 + 1 ≤ 61
    omega
  · rw [List.getElem?_eq_none (by unfold prs; rw [List.length_map]; omega)]
    exact Nat.zero_le _
theorem allU_len {rows : List (List Int)} (h60 : ∀ r ∈ rows, r.length ≤ 60) : ∀ i, (allU rows i).length ≤ 62 * i
  | 0 => Nat.zero_le _
  | i + 1 => by
    have h1 := allU_len h60 i
    have h2 := prs_le h60 i
    rw [allU_succ, List.length_append, rowU_len]
    omega
theorem NeedAt.lt {rows : List (List Int)} {f p n : Nat} (h : NeedAt rows f p n) : p < rows.length := by
  obtain ⟨cs, h1, h2, _⟩ := h
  have := (List.getElem?_eq_some_iff.mp h2).1
  rw [h1.len, tops_len] at this
  exact this
def minL (a b : List Nat) : List Nat := List.zipWith min a b
theorem minL_len {a b : List Nat} (h : a.length = b.length) : (minL a b).length = a.length := by
  unfold minL
  rw [List.length_zipWith, h, Nat.min_self]
theorem minL_inv {a b : List Nat} {i z : Nat} (h : (minL a b)[i]? = some z) : ∃ x y, a[i]? = some x ∧ b[i]? = some y ∧ z = min x y := by
  unfold minL at h
  rw [List.getElem?_zipWith] at h
  cases h1 : a[i]? with
  | none => rw [h1] at h; cases h
  | some x =>
    cases h2 : b[i]? with
    | none => rw [h1, h2] at h; cases h
    | some y =>
      rw [h1, h2] at h
      exact ⟨x, y, rfl, rfl, (Option.some.inj h).symm⟩
theorem minL_at {a b : List Nat} {i x y : Nat} (h1 : a[i]? = some x) (h2 : b[i]? = some y) : (minL a b)[i]? = some (min x y) := by
  unfold minL
  rw [List.getElem?_zipWith, h1, h2]
theorem IsLow.min {rows : List (List Int)} {h1 h2 a b : List Nat} (ha : IsLow rows h1 a) (hb : IsLow rows h2 b) (hl : h1.length = h2.length) : IsLow rows (minL h1 h2) (minL a b) := by
  have la := ha.len
  have lb := hb.len
  refine ⟨⟨by rw [minL_len (by omega), minL_len hl]; exact la, fun i x y g1 g2 => ?_, fun L l1 l2 l3 i x y g1 g2 => ?_⟩, fun m p k p' k' c c' hm e1 e2 g1 g2 hlt => ?_⟩
  · obtain ⟨u, v, u1, u2, rfl⟩ := minL_inv g1
    obtain ⟨u', v', v1, v2, rfl⟩ := minL_inv g2
    have q1 := ha.le _ _ _ u1 v1
    have q2 := hb.le _ _ _ u2 v2
    omega
  · rw [minL_len hl] at l1
    obtain ⟨u, v, u1, u2, rfl⟩ := minL_inv g2
    have q1 := ha.top L l1 (fun i x y z1 z2 => by
      obtain ⟨y', hy'⟩ : ∃ y', h2[i]? = some y' := ⟨_, List.getElem?_eq_getElem (by have := (List.getElem?_eq_some_iff.mp z2).1; omega)⟩
      have := l2 i x _ z1 (minL_at z2 hy')
      omega) l3 _ _ _ g1 u1
    have q2 := hb.top L (by omega) (fun i x y z1 z2 => by
      obtain ⟨y', hy'⟩ : ∃ y', h1[i]? = some y' := ⟨_, List.getElem?_eq_getElem (by have := (List.getElem?_eq_some_iff.mp z2).1; omega)⟩
      have := l2 i x _ z1 (minL_at hy' z2)
      omega) l3 _ _ _ g1 u2
    omega
  · obtain ⟨u, v, u1, u2, rfl⟩ := minL_inv g1
    obtain ⟨u', v', v1, v2, rfl⟩ := minL_inv g2
    have q1 := ha.cons m p k p' k' u u' hm e1 e2 u1 v1 (by omega)
    have q2 := hb.cons m p k p' k' v v' hm e1 e2 u2 v2 (by omega)
    omega
theorem tops_app (rows : List (List Int)) (fs gs : List Int) : tops rows (fs ++ gs) = minL (tops rows fs) (tops rows gs) := by
  apply List.ext_getElem?
  intro i
  by_cases hi : i < rows.length
  · have hr := List.getElem?_eq_getElem hi
    rw [tops_at (fs := fs ++ gs) hr, minL_at (tops_at (fs := fs) hr) (tops_at (fs := gs) hr)]
    by_cases h1 : (i : Int) ∈ fs
    · rw [decide_eq_true h1, decide_eq_true (List.mem_append_left gs h1), if_pos rfl]
      split <;> rw [Nat.min_eq_left (by omega)]
    · by_cases h2 : (i : Int) ∈ gs
      · rw [decide_eq_false h1, decide_eq_true h2, decide_eq_true (List.mem_append_right fs h2), if_pos rfl, if_neg Bool.false_ne_true, Nat.min_eq_right (by omega)]
      · have h3 : ¬ ((i : Int) ∈ fs ++ gs) := fun z => by
          rcases List.mem_append.mp z with z | z
          · exact h1 z
          · exact h2 z
        rw [decide_eq_false h1, decide_eq_false h2, decide_eq_false h3, Nat.min_self]
  · rw [List.getElem?_eq_none (by rw [tops_len]; omega), List.getElem?_eq_none (by rw [minL_len (by rw [tops_len, tops_len]), tops_len]; omega)]
theorem tops_congr {rows : List (List Int)} {fs gs : List Int} (h : ∀ x, x ∈ fs ↔ x ∈ gs) : tops rows fs = tops rows gs := by
  apply List.ext_getElem?
  intro i
  by_cases hi : i < rows.length
  · have hr := List.getElem?_eq_getElem hi
    rw [tops_at (fs := fs) hr, tops_at (fs := gs) hr, decide_eq_decide.mpr (h i)]
  · rw [List.getElem?_eq_none (by rw [tops_len]; omega), List.getElem?_eq_none (by rw [tops_len]; omega)]
theorem IsLow.app {rows : List (List Int)} {fs gs : List Int} {a b : List Nat} (ha : IsLow rows (tops rows fs) a) (hb : IsLow rows (tops rows gs) b) : IsLow rows (tops rows (fs ++ gs)) (minL a b) := by
  rw [tops_app]
  exact ha.min hb (by rw [tops_len, tops_len])
theorem IsLow.mono {rows : List (List Int)} {fs gs : List Int} {a b : List Nat} (ha : IsLow rows (tops rows fs) a) (hb : IsLow rows (tops rows gs) b) (h : ∀ x ∈ gs, x ∈ fs) : LeL a b := by
  have e : tops rows fs = tops rows (fs ++ gs) := tops_congr fun x => ⟨fun z => List.mem_append_left _ z, fun z => (List.mem_append.mp z).elim id (h x)⟩
  have q := ha
  rw [e] at q
  have := q.unique (ha.app hb)
  intro i x y g1 g2
  rw [this] at g1
  obtain ⟨u, v, u1, u2, rfl⟩ := minL_inv g1
  obtain rfl := Option.some.inj (u2.symm.trans g2)
  exact Nat.min_le_right _ _
theorem allU_mem {rows : List (List Int)} {i : Nat} {x : Int × Int} (h : x ∈ allU rows i) : ∃ p n : Nat, p < i ∧ x = ((p : Int), (n : Int)) := by
  unfold allU at h
  obtain ⟨p, hp, hx⟩ := List.mem_flatMap.mp h
  unfold rowU at hx
  obtain ⟨n, _, rfl⟩ := List.mem_map.mp hx
  exact ⟨p, n, List.mem_range.mp hp, rfl⟩
theorem perm_sorted_eq : ∀ {a b : List Int}, a.Perm b → a.Pairwise (· ≤ ·) → b.Pairwise (· ≤ ·) → a = b
  | [], b, h, _, _ => h.nil_eq
  | x :: a, [], h, _, _ => absurd h.length_eq (by simp)
  | x :: a, y :: b, h, h1, h2 => by
    obtain ⟨p1, q1⟩ := List.pairwise_cons.mp h1
    obtain ⟨p2, q2⟩ := List.pairwise_cons.mp h2
    have e : x = y := by
      have m1 : x ∈ y :: b := h.mem_iff.mp List.mem_cons_self
      have m2 : y ∈ x :: a := h.mem_iff.mpr List.mem_cons_self
      rcases List.mem_cons.mp m1 with z | z
      · exact z
      · rcases List.mem_cons.mp m2 with z2 | z2
        · exact z2.symm
        · have := p2 x z
          have := p1 y z2
          omega
    subst e
    rw [perm_sorted_eq h.cons_inv q1 q2]
/-- what a tuple holds is little -/
def small (d : PyData) : Prop := ∀ ds, d = .tuple ds → ds.length ≤ 10
theorem hapFrom_none {e : Int} : ∀ {rs : List (List Int)} {p : Nat}, (∀ (j : Nat) (r : List Int), rs[j]? = some r → e ∉ r) → hapFrom e p rs = none
  | [], _, _ => rfl
  | r :: rs, p, h => by
    unfold hapFrom
    rw [if_neg (h 0 r rfl)]
    exact hapFrom_none fun j r' hr => h (j + 1) r' hr
end Sv
namespace Sv
open PySem L2
theorem lc_map {α : Type} {g : DTG} {tt : DTT} {te : DTE} {us : List Nat} {env : Env} {S1 : Sto} {Rp : Addr → Sto → Prop} (xs : List α) (gx : α → D) (lv : Sto → Prop) (f : α → Option D) (hlen : xs.length ≤ 100000) (live : ∀ S, SG S1 S → lv S)
    (step : ∀ a ∈ xs, ∀ S, SG S1 S → ∀ (K : DK) (Kn : Sto → Prop), (∀ y, f a = some y → ∀ S', SG S S' → K y S') → (f a = none → ∀ S', SG S S' → Kn S') → Turn1 g tt te (dwipe env us) (gx a) S K Kn)
    (fin : ∀ p S', S1 p = none → SG S1 S' → S' p = some (.lst (xs.filterMap f)) → Rp p S') :
    ∀ p, S1 p = none → ∃ Pv : Nat → Sto → Prop, Pv 0 (S1.put p (.lst [])) ∧ (∀ i S, i ≤ (Src.mk (xs.map gx) lv).items.length → Pv i S → (Src.mk (xs.map gx) lv).live S) ∧
      (∀ i d S, (Src.mk (xs.map gx) lv).items[i]? = some d → Pv i S → g d (dwipe env us) S fun env' S' => tt env' S' fun b S2 => if b = true then te env' S2 fun y S3 => ∃ acc, S3 p = some (.lst acc) ∧ acc.length < 1000000 ∧ Pv (i + 1) (S3.put p (.lst (acc ++ [y]))) else Pv (i + 1) S2) ∧
      ∀ S, Pv (Src.mk (xs.map gx) lv).items.length S → Rp p S := by
  intro p np
  refine ⟨fun i S => SG S1 S ∧ S p = some (.lst ((xs.take i).filterMap f)) ∧ i ≤ xs.length, ⟨.new np, Sto.same, Nat.zero_le _⟩, fun i S _ h => live S h.1, fun i d S hd h => ?_, fun S h => ?_⟩
  · have hd : (xs.map gx)[i]? = some d := hd
    rw [List.getElem?_map] at hd
    obtain ⟨a, ha, rfl⟩ := Option.map_eq_some_iff.mp hd
    have hi : i < xs.length := (List.getElem?_eq_some_iff.mp ha).1
    have ht : xs.take (i + 1) = xs.take i ++ [a] := by rw [List.take_add_one, ha]; rfl
    refine step a (List.mem_of_getElem? ha) S h.1 _ _ (fun y hy S' sg => ?_) (fun hn S' sg => ?_)
    · have hp : S' p = _ := sg _ _ (fun z => z) h.2.1
      have hl : ((xs.take i).filterMap f).length ≤ 100000 := Nat.le_trans (List.length_filterMap_le ..) (by rw [List.length_take]; omega)
      refine ⟨_, hp, by omega, fun a o n e => ?_, ?_, hi⟩
      · have hap : a ≠ p := fun z => by rw [z, np] at e; cases e
        rw [Sto.ne hap]
        exact sg _ _ n (h.1 _ _ n e)
      · rw [Sto.same, ht, List.filterMap_append]
        simp [hy]
    · refine ⟨h.1.trans sg, ?_, hi⟩
      rw [sg _ _ (fun z => z) h.2.1, ht, List.filterMap_append]
      simp [hn]
  · have h : SG S1 S ∧ S p = some (.lst ((xs.take (xs.map gx).length).filterMap f)) ∧ _ := h
    have h2 := h.2.1
    rw [List.length_map, List.take_length] at h2
    exact fin p S np h.1 h2
theorem flat_le {α β : Type} (F : α → List β) (n : Nat) : ∀ xs : List α, (∀ a ∈ xs, (F a).length ≤ n) → (xs.flatMap F).length ≤ xs.length * n
  | [], _ => Nat.zero_le _
  | a :: r, h => by
    rw [List.flatMap_cons, List.length_append, List.length_cons, Nat.succ_mul]
    have := h a List.mem_cons_self
    have := flat_le F n r fun b hb => h b (List.mem_cons_of_mem _ hb)
    omega
theorem take_map {α : Type} {xs : List α} {i : Nat} {a : α} (ha : xs[i]? = some a) : xs.take (i + 1) = xs.take i ++ [a] := by rw [List.take_add_one, ha]; rfl
theorem SG.keepP {S1 S S' : Sto} {p : Addr} {o : Ob} (np : S1 p = none) (h : SG S1 S) (sg : SG S S') : SG S1 (S'.put p o) := fun a o n e => by
  have hap : a ≠ p := fun z => by rw [z, np] at e; cases e
  rw [Sto.ne hap]
  exact sg _ _ n (h _ _ n e)
theorem lc2_map {α β : Type} {g g1 : DTG} {ti1 : DTI} {tt1 : DTT} {te : DTE} {us us1 : List Nat} {env : Env} {S1 : Sto} {Rp : Addr → Sto → Prop} (xs : List α) (gx : α → D) (lv : Sto → Prop) (ys : α → List β) (h : α → β → D) (f : α → β → Option D) (E : α → Env)
    (hl1 : xs.length ≤ 300) (hl2 : ∀ a ∈ xs, (ys a).length ≤ 300) (live : ∀ S, SG S1 S → lv S)
    (out : ∀ a ∈ xs, ∀ S, SG S1 S → ∀ K : Env → Sto → Prop, K (E a) S → g (gx a) (dwipe env us) S K)
    (src : ∀ a ∈ xs, ∀ S, SG S1 S → ∀ K : Src → Sto → Prop, (∀ S', SG S S' → K ⟨(ys a).map (h a), fun _ => True⟩ S') → ti1 (E a) S K)
    (step : ∀ a ∈ xs, ∀ b ∈ ys a, ∀ S, SG S1 S → ∀ (K : DK) (Kn : Sto → Prop), (∀ y, f a b = some y → ∀ S', SG S S' → K y S') → (f a b = none → ∀ S', SG S S' → Kn S') → Turn1 g1 tt1 te (dwipe (E a) us1) (h a b) S K Kn)
    (fin : ∀ p S', S1 p = none → SG S1 S' → S' p = some (.lst (xs.flatMap fun a => (ys a).filterMap (f a))) → Rp p S') :
    ∀ p, S1 p = none → ∃ Pv : Nat → Sto → Prop, Pv 0 (S1.put p (.lst [])) ∧ (∀ i S, i ≤ (Src.mk (xs.map gx) lv).items.length → Pv i S → (Src.mk (xs.map gx) lv).live S) ∧
      (∀ i d S, (Src.mk (xs.map gx) lv).items[i]? = some d → Pv i S → g d (dwipe env us) S fun env' S' => dYes env' S' fun b S2 => if b = true then ti1 env' S2 fun w1 S3 => ∃ Pw : Nat → Sto → Prop, Pw 0 S3 ∧ (∀ j S, j ≤ w1.items.length → Pw j S → w1.live S) ∧
        (∀ j e S, w1.items[j]? = some e → Pw j S → g1 e (dwipe env' us1) S fun env2 S4 => tt1 env2 S4 fun b S5 => if b = true then te env2 S5 fun y S6 => ∃ acc, S6 p = some (.lst acc) ∧ acc.length < 1000000 ∧ Pw (j + 1) (S6.put p (.lst (acc ++ [y]))) else Pw (j + 1) S5) ∧
        (∀ S, Pw w1.items.length S → Pv (i + 1) S) else Pv (i + 1) S2) ∧
      ∀ S, Pv (Src.mk (xs.map gx) lv).items.length S → Rp p S := by
  intro p np
  refine ⟨fun i S => SG S1 S ∧ S p = some (.lst ((xs.take i).flatMap fun a => (ys a).filterMap (f a))) ∧ i ≤ xs.length, ⟨.new np, Sto.same, Nat.zero_le _⟩, fun i S _ h => live S h.1, fun i d S hd hh => ?_, fun S h => ?_⟩
  · have hd : (xs.map gx)[i]? = some d := hd
    rw [List.getElem?_map] at hd
    obtain ⟨a, ha, rfl⟩ := Option.map_eq_some_iff.mp hd
    have hm := List.mem_of_getElem? ha
    have hi : i < xs.length := (List.getElem?_eq_some_iff.mp ha).1
    have ht := take_map ha
    refine out a hm S hh.1 _ ?_
    dsimp only [dYes]
    rw [if_pos rfl]
    refine src a hm S hh.1 _ fun S' sg => ?_
    have hb : ((xs.take i).flatMap fun a => (ys a).filterMap (f a)).length ≤ 90000 := by
      have := flat_le (fun a => (ys a).filterMap (f a)) 300 (xs.take i) fun b hb => Nat.le_trans (List.length_filterMap_le ..) (hl2 b (List.mem_of_mem_take hb))
      have h3 : (xs.take i).length ≤ 300 := by rw [List.length_take]; omega
      have := Nat.mul_le_mul_right 300 h3
      omega
    refine ⟨fun j S => SG S1 S ∧ S p = some (.lst (((xs.take i).flatMap fun a => (ys a).filterMap (f a)) ++ ((ys a).take j).filterMap (f a))) ∧ j ≤ (ys a).length, ⟨hh.1.trans sg, ?_, Nat.zero_le _⟩, fun j S _ q => True.intro, fun j e S2 he q => ?_, fun S2 q => ?_⟩
    · rw [sg _ _ (fun z => z) hh.2.1]
      simp
    · have he : ((ys a).map (h a))[j]? = some e := he
      rw [List.getElem?_map] at he
      obtain ⟨b, hb', rfl⟩ := Option.map_eq_some_iff.mp he
      have hj : j < (ys a).length := (List.getElem?_eq_some_iff.mp hb').1
      have ht2 := take_map hb'
      have h2 := hl2 a hm
      refine step a hm b (List.mem_of_getElem? hb') S2 q.1 _ _ (fun y hy S3 sg3 => ?_) (fun hn S3 sg3 => ?_)
      · have hp : S3 p = _ := sg3 _ _ (fun z => z) q.2.1
        have hl : (((ys a).take j).filterMap (f a)).length ≤ 300 := Nat.le_trans (List.length_filterMap_le ..) (by rw [List.length_take]; omega)
        refine ⟨_, hp, by rw [List.length_append]; omega, SG.keepP np q.1 sg3, ?_, hj⟩
        · rw [Sto.same, ht2, List.filterMap_append, List.append_assoc]
          simp [hy]
      · refine ⟨q.1.trans sg3, ?_, hj⟩
        rw [sg3 _ _ (fun z => z) q.2.1, ht2, List.filterMap_append]
        simp [hn]
    · have q : SG S1 S2 ∧ S2 p = some (.lst (((xs.take i).flatMap fun a => (ys a).filterMap (f a)) ++ ((ys a).take ((ys a).map (h a)).length).filterMap (f a))) ∧ _ := q
      have q2 := q.2.1
      rw [List.length_map, List.take_length] at q2
      refine ⟨q.1, ?_, hi⟩
      rw [q2, ht, List.flatMap_append]
      simp
  · have h : SG S1 S ∧ S p = some (.lst ((xs.take (xs.map gx).length).flatMap fun a => (ys a).filterMap (f a))) ∧ _ := h
    have h2 := h.2.1
    rw [List.length_map, List.take_length] at h2
    exact fin p S np h.1 h2
theorem putD_new {kvs : List (Key × D)} {k : Key} {v : D} (h : k ∉ kvs.map (·.1)) : putD kvs k v = kvs ++ [(k, v)] := by
  unfold putD
  rw [if_neg]
  intro z
  obtain ⟨x, h1, h2⟩ := List.any_eq_true.mp z
  exact h (List.mem_map.mpr ⟨x, h1, of_decide_eq_true h2⟩)
theorem dc_map {α : Type} {g : DTG} {tk tv : DTE} {us : List Nat} {env : Env} {S1 : Sto} {R : DK} (xs : List α) (gx : α → D) (lv : Sto → Prop) (κ : α → Key) (v : α → D) (hlen : xs.length ≤ 100000) (nd : (xs.map κ).Nodup) (live : ∀ S, (∀ a o, S1 a = some o → S a = some o) → lv S)
    (step : ∀ a ∈ xs, ∀ S, SG S1 S → ∀ K : D → D → Sto → Prop, (∀ S', SG S S' → K (kD (κ a)) (v a) S') → g (gx a) (dwipe env us) S fun env' S' => tk env' S' fun y S3 => tv env' S3 fun z S4 => K y z S4)
    (fin : ∀ S', SG S1 S' → R (.dct (xs.map fun a => (κ a, v a))) S') :
    ∀ p, S1 p = none → ∃ Pv : Nat → Sto → Prop, Pv 0 (S1.put p (.dK [])) ∧ (∀ i S, i ≤ (Src.mk (xs.map gx) lv).items.length → Pv i S → (Src.mk (xs.map gx) lv).live S) ∧
      (∀ i d S, (Src.mk (xs.map gx) lv).items[i]? = some d → Pv i S → g d (dwipe env us) S fun env' S' => dYes env' S' fun b S2 => if b = true then tk env' S2 fun y S3 => tv env' S3 fun z S4 => ∃ kvs k, y = kD k ∧ S4 p = some (.dK kvs) ∧ kvs.length < 1000000 ∧ Pv (i + 1) (S4.put p (.dK (putD kvs k z))) else Pv (i + 1) S2) ∧
      ∀ S, Pv (Src.mk (xs.map gx) lv).items.length S → ∃ kvs, S p = some (.dK kvs) ∧ R (.dct kvs) (S.rem p) := by
  intro p np
  refine ⟨fun i S => SG S1 S ∧ S p = some (.dK ((xs.take i).map fun a => (κ a, v a))) ∧ i ≤ xs.length, ⟨.new np, Sto.same, Nat.zero_le _⟩, fun i S _ h => live S fun a o e => h.1 _ _ (fun z => z) e, fun i d S hd h => ?_, fun S h => ?_⟩
  · have hd : (xs.map gx)[i]? = some d := hd
    rw [List.getElem?_map] at hd
    obtain ⟨a, ha, rfl⟩ := Option.map_eq_some_iff.mp hd
    have hi : i < xs.length := (List.getElem?_eq_some_iff.mp ha).1
    have ht := take_map ha
    refine step a (List.mem_of_getElem? ha) S h.1 (fun y z S4 => ∃ kvs k, y = kD k ∧ S4 p = some (.dK kvs) ∧ kvs.length < 1000000 ∧ (SG S1 (S4.put p (.dK (putD kvs k z))) ∧ (S4.put p (.dK (putD kvs k z))) p = some (.dK ((xs.take (i + 1)).map fun a => (κ a, v a))) ∧ i + 1 ≤ xs.length)) fun S' sg => ?_
    have hp : S' p = _ := sg _ _ (fun z => z) h.2.1
    refine ⟨_, _, rfl, hp, ?_, SG.keepP np h.1 sg, ?_, hi⟩
    · rw [List.length_map, List.length_take]
      omega
    · have hnew : κ a ∉ ((xs.take i).map fun a => (κ a, v a)).map (·.1) := by
        rw [List.map_map]
        intro z
        have e : xs = xs.take i ++ a :: xs.drop (i + 1) := by
          obtain ⟨hi', e⟩ := List.getElem?_eq_some_iff.mp ha
          rw [← e]
          exact (List.take_append_drop i xs).symm.trans (by rw [List.drop_eq_getElem_cons hi'])
        rw [e, List.map_append, List.map_cons] at nd
        obtain ⟨y, h1, h2⟩ := List.mem_map.mp z
        exact (List.nodup_append.mp nd).2.2 _ (List.mem_map.mpr ⟨y, h1, h2⟩) _ List.mem_cons_self rfl
      rw [Sto.same, putD_new hnew, ht, List.map_append]
      rfl
  · have h : SG S1 S ∧ S p = some (.dK ((xs.take (xs.map gx).length).map fun a => (κ a, v a))) ∧ _ := h
    have h2 := h.2.1
    rw [List.length_map, List.take_length] at h2
    refine ⟨_, h2, fin _ fun a o n e => ?_⟩
    have hap : a ≠ p := fun z => by rw [z, np] at e; cases e
    show (if a = p then none else S a) = some o
    rw [if_neg hap]
    exact h.1 _ _ n e
end Sv
set_option maxHeartbeats 400000
namespace Sv
open PySem L2
def natD (cs : List Nat) : List D := cs.map fun (c : Nat) => D.int (c : Int)
theorem natD_len (cs : List Nat) : (natD cs).length = cs.length := List.length_map ..
theorem natD_at {cs : List Nat} {i c : Nat} (h : cs[i]? = some c) : (natD cs)[i]? = some (D.int (c : Int)) := by
  unfold natD
  rw [List.getElem?_map, h]
  rfl
theorem w_nums {rows : List (List Int)} {S : Sto} {R : DK} (hl : rows.length ≤ 1000) (k : ∀ S', SG S S' → R (.tup (natD (prs rows))) S') : dFn 2 B_state_numbers_78d0 [.tup (rowsD rows)] S R := by
  refine ⟨_, rfl, _, rfl, lc_map rows rowD (fun _ => True) (fun row => some (D.int ((row.count 0 : Nat) + 1))) (by omega) (fun _ _ => True.intro) (fun row _ S1 sg K Kn hk _ => turn_y ⟨_, rfl, ⟨_, rfl⟩, row, 0, rfl, rfl, hk _ rfl _ (.refl _)⟩) fun p S' np sg hp => ?_⟩
  refine ⟨_, _, rfl, seqOf_lst hp, fun ys z => (nomatch z), ?_⟩
  rw [fm_map]
  have := k S' sg
  unfold natD prs at this
  rw [List.map_map] at this
  exact this
/-- where a number stands in the rows -/
def hpD : Option (Nat × Nat) → D
  | none => .non
  | some (p, k) => .tup [.int (p : Int), .int (k : Int)]
theorem w_hap {rows : List (List Int)} {e : Int} {S : Sto} {R : DK} (k : R (hpD (hap rows e)) S) : dFn 6 B_happened_at_e85f [.tup (rowsD rows), .int e] S R := by
  refine ⟨_, rfl, _, _, rfl, rfl, fun i env S' => S' = S ∧ i ≤ rows.length ∧ (∃ x2 x3 x4 x5 : Option D, env = [some (.tup (rowsD rows)), some (.int e), x2, x3, x4, x5]) ∧ ∀ (j : Nat) (r : List Int), j < i → rows[j]? = some r → e ∉ r, ⟨rfl, Nat.zero_le _, ⟨_, _, _, _, rfl⟩, fun j r z => absurd z (Nat.not_lt_zero _)⟩, fun _ _ _ _ _ => True.intro, ?_, ?_⟩
  · rintro i d env S' hd ⟨rfl, hi0, ⟨x2, x3, x4, x5, rfl⟩, hno⟩
    have hd : (enD (rowsD rows))[i]? = some d := hd
    unfold enD at hd
    rw [List.getElem?_mapIdx] at hd
    obtain ⟨rd, hrd, rfl⟩ := Option.map_eq_some_iff.mp hd
    unfold rowsD at hrd
    rw [List.getElem?_map] at hrd
    obtain ⟨row, hrow, rfl⟩ := Option.map_eq_some_iff.mp hrd
    have hi : i < rows.length := (List.getElem?_eq_some_iff.mp hrow).1
    refine ⟨_, rfl, .inl (.inl rfl), _, _, rfl, _, _, rfl, rfl, ?_⟩
    refine ⟨_, rfl, _, rfl, fun j env S2 => S2 = S' ∧ j ≤ row.length ∧ (∃ x5 : Option D, env = [some (.tup (rowsD rows)), some (.int e), some (.int (i : Nat)), some (rowD row), some (.int ((row.take j).count 0 : Nat)), x5]) ∧ e ∉ row.take j, ⟨rfl, Nat.zero_le _, ⟨_, rfl⟩, List.not_mem_nil⟩, fun _ _ _ _ _ => True.intro, ?_, ?_⟩
    · rintro j d env S2 hd ⟨rfl, hj0, ⟨x5, rfl⟩, hn⟩
      have hd : (intsD row)[j]? = some d := hd
      unfold intsD at hd
      rw [List.getElem?_map] at hd
      obtain ⟨z, hz, rfl⟩ := Option.map_eq_some_iff.mp hd
      have hj : j < row.length := (List.getElem?_eq_some_iff.mp hz).1
      have htk : row.take (j + 1) = row.take j ++ [z] := take_map hz
      refine ⟨_, rfl, _, rfl, _, rfl, iteB (fun h1 => ?_) (fun h1 => ?_)⟩
      · have h1 : z = e := by simpa using h1
        subst h1
        refine ⟨_, rfl, _, rfl, rfl, ?_⟩
        have hm : z ∈ row := List.mem_of_getElem? hz
        have hix : row.idxOf z = j := by
          have hk := List.idxOf_lt_length_iff.mpr hm
          have hg : row[row.idxOf z] = z := List.getElem_idxOf hk
          rcases Nat.lt_trichotomy (row.idxOf z) j with h | h | h
          · exact absurd (List.mem_take_iff_getElem.mpr ⟨row.idxOf z, by omega, hg⟩) hn
          · exact h
          · have := List.not_of_lt_findIdx (xs := row) (p := (· == z)) (i := j) h
            have hzz : row[j] = z := (List.getElem?_eq_some_iff.mp hz).2
            simp [hzz] at this
        have hh : hap rows z = some (0 + i, (row.take (row.idxOf z)).count 0) := hapFrom_some hno hrow hm
        rw [hh, Nat.zero_add, hix] at k
        exact k
      · have hze : z ≠ e := by simpa using h1
        have hn2 : e ∉ row.take (j + 1) := by
          rw [htk, List.mem_append, List.mem_singleton]
          rintro (h | h)
          · exact hn h
          · exact hze h.symm
        refine ⟨_, rfl, _, rfl, iteB (fun h2 => ?_) (fun h2 => ?_)⟩
        · have h2 : z = 0 := by simpa using h2
          subst h2
          refine ⟨_, rfl, ⟨rfl, hj, ⟨some (.int 0), ?_⟩, hn2⟩⟩
          rw [htk, List.count_append, List.count_singleton_self]
          rfl
        · have hz0 : z ≠ 0 := by simpa using h2
          refine ⟨rfl, hj, ⟨some (.int z), ?_⟩, hn2⟩
          rw [htk, List.count_append, List.count_singleton, if_neg (by simpa using hz0), Nat.add_zero]
          rfl
    · rintro env S2 ⟨rfl, _, ⟨x5, rfl⟩, hn⟩
      refine ⟨rfl, hi, ⟨_, _, _, _, rfl⟩, fun j r hj hr => ?_⟩
      by_cases hji : j = i
      · subst hji
        obtain rfl := Option.some.inj (hrow.symm.trans hr)
        have hn : e ∉ row.take (intsD row).length := hn
        rw [intsD_len, List.take_length] at hn
        exact hn
      · exact hno j r (by omega) hr
  · rintro env S' ⟨rfl, _, ⟨x2, x3, x4, x5, rfl⟩, hno⟩
    have hh : hap rows e = none := hapFrom_none fun j r hr => hno j r (by
      have := (List.getElem?_eq_some_iff.mp hr).1
      show j < (enD (rowsD rows)).length
      unfold enD rowsD
      rw [List.length_mapIdx, List.length_map]
      exact this) hr
    rw [hh] at k
    exact k
/-- a trip -/
def tripD (rows : List (List Int)) (m : Int) : D := .tup [hpD (hap rows m), hpD (hap rows (0 - m))]
def tripsD (rows : List (List Int)) : D := .dct ((recvL rows).map fun m => (Sum.inl m, tripD rows m))
theorem hpD_neg (rows : List (List Int)) (m : Int) : hap rows (-m) = hap rows (0 - m) := by rw [Int.zero_sub]
theorem negs_len (l : List Int) : (negs l).length ≤ l.length := by
  unfold negs
  rw [List.length_map]
  exact List.length_filter_le ..
theorem Good.flat60 {many most : Nat} {rows : List (List Int)} (h : Good many most rows) : rows.flatten.length ≤ most := by
  rw [List.length_flatten]
  exact h.events
theorem Good.row60 {many most : Nat} {rows : List (List Int)} (h : Good many most rows) (h60 : most ≤ 60) : ∀ r ∈ rows, r.length ≤ 60 := fun r hr => by
  obtain ⟨i, hi⟩ := List.getElem?_of_mem hr
  have := (h.row hi).1
  omega
theorem negs_flat : ∀ rows : List (List Int), (rows.flatMap fun row => row.filterMap fun v => if decide (v < 0) = true then some (D.int (-v)) else none) = intsD (negs rows.flatten)
  | [] => rfl
  | r :: rs => by
    have h1 : ∀ l : List Int, (l.filterMap fun v => if decide (v < 0) = true then some (D.int (-v)) else none) = intsD (negs l) := fun l => by
      induction l with
      | nil => rfl
      | cons a t ih =>
        rw [List.filterMap_cons]
        unfold negs at ih ⊢
        rw [List.filter_cons]
        by_cases z : a < 0
        · simp only [z, decide_true, if_true]
          rw [ih]
          rfl
        · simp only [z, decide_false, Bool.false_eq_true, if_false]
          exact ih
    rw [List.flatMap_cons, negs_flat rs, h1, List.flatten_cons]
    unfold negs intsD
    rw [List.filter_append, List.map_append, List.map_append]
theorem w_trips {rows : List (List Int)} {many most : Nat} {S : Sto} {R : DK} (hG : Good many most rows) (h6 : many ≤ 6) (h60 : most ≤ 60) (k : ∀ S', SG S S' → R (tripsD rows) S') : dFn 5 B_trips_of_ea9a [.tup (rowsD rows)] S R := by
  have r60 := hG.row60 h60
  have rl := hG.len
  refine ⟨_, rfl, _, rfl, lc2_map rows rowD (fun _ => True) (fun row => row) (fun _ v => .int v) (fun _ v => if decide (v < 0) = true then some (D.int (-v)) else none) (fun row => [some (.tup (rowsD rows)), none, none, some (rowD row), none]) (by omega) (fun a ha => by have := r60 a ha; omega) (fun _ _ => True.intro)
    (fun row _ S1 sg K hk => hk) (fun row _ S1 sg K hk => ⟨_, rfl, _, rfl, hk _ (.refl _)⟩) (fun row _ v _ S1 sg K Kn hk hn => turn_n ⟨_, rfl, _, rfl, iteB (fun e => ⟨_, rfl, hk _ (by rw [if_pos e]) _ (.refl _)⟩) (fun e => hn (by have e : decide (v < 0) = false := e; rw [e]; rfl) _ (.refl _))⟩) fun p S1 np sg1 hp => ?_⟩
  rw [negs_flat] at hp
  refine ⟨_, negs rows.flatten, rfl, seqOf_lst hp, noTup _, ?_, fun ns q pm pw nq => ?_⟩
  · have := negs_len rows.flatten
    have := hG.flat60
    omega
  have e : ns = recvL rows := perm_sorted_eq (pm.trans hG.recv) pw (recvL_sorted rows)
  subst e
  have sg2 : SG S1 (S1.put q (.lst (intsD (recvL rows)))) := .new nq
  have hq : (S1.put q (.lst (intsD (recvL rows)))) q = some (.lst (intsD (recvL rows))) := Sto.same
  generalize S1.put q (.lst (intsD (recvL rows))) = S2 at sg2 hq
  have len := recvL_len rows
  refine ⟨_, rfl, _, ⟨_, hq, rfl⟩, dc_map (recvL rows) D.int (fun S' => S' q = some (.lst (intsD (recvL rows)))) Sum.inl (tripD rows) (by omega) ?_ (fun S' sg => sg _ _ hq) (fun m _ S3 sg3 K hk => ?_) fun S3 sg3 => k _ ((sg1.trans sg2).trans sg3)⟩
  · exact List.pairwise_map.mpr ((recvL_nodup rows).imp fun n z => n (Sum.inl.inj z))
  · refine ⟨_, rfl, _, rfl, _, rfl, rfl, w_hap ⟨_, rfl, _, rfl, rfl, w_hap ⟨rfl, ?_⟩⟩⟩
    rw [hpD_neg]
    exact hk _ (.refl _)
end Sv
set_option maxHeartbeats 400000
namespace Sv
open PySem L2
theorem hap_trip {rows : List (List Int)} {many most : Nat} (hG : Good many most rows) {m : Int} (hm : m ∈ recvL rows) : 1 ≤ m ∧ ∃ p k p' k' : Nat, hap rows m = some (p, k) ∧ hap rows (0 - m) = some (p', k') ∧ tripD rows m = .tup [hpD (some (p, k)), hpD (some (p', k'))] := by
  have h1 := hG.recv_sent hm
  have h2 := (List.mem_filter.mp hm).2
  have h3 := names_mem.mp (List.mem_filter.mp hm).1
  unfold sentM at h1
  unfold recvM at h2
  obtain ⟨⟨p, k⟩, e1⟩ := Option.isSome_iff_exists.mp h1
  obtain ⟨⟨p', k'⟩, e2⟩ := Option.isSome_iff_exists.mp h2
  refine ⟨h3.1, p, k, p', k', e1, e2, ?_⟩
  unfold tripD
  rw [e1, e2]
theorem lc_mapE {α : Type} {g : DTG} {tt : DTT} {te : DTE} {us : List Nat} {env : Env} {S1 : Sto} {Rp : Addr → Sto → Prop} {w : Src} (xs : List α) (gx : α → D) (hw : w.items = xs.map gx) (f : α → Option D) (hlen : xs.length ≤ 100000) (live : ∀ S, SG S1 S → w.live S)
    (step : ∀ a ∈ xs, ∀ S, SG S1 S → ∀ (K : DK) (Kn : Sto → Prop), (∀ y, f a = some y → ∀ S', SG S S' → K y S') → (f a = none → ∀ S', SG S S' → Kn S') → Turn1 g tt te (dwipe env us) (gx a) S K Kn)
    (fin : ∀ p S', S1 p = none → SG S1 S' → S' p = some (.lst (xs.filterMap f)) → Rp p S') :
    ∀ p, S1 p = none → ∃ Pv : Nat → Sto → Prop, Pv 0 (S1.put p (.lst [])) ∧ (∀ i S, i ≤ w.items.length → Pv i S → w.live S) ∧
      (∀ i d S, w.items[i]? = some d → Pv i S → g d (dwipe env us) S fun env' S' => tt env' S' fun b S2 => if b = true then te env' S2 fun y S3 => ∃ acc, S3 p = some (.lst acc) ∧ acc.length < 1000000 ∧ Pv (i + 1) (S3.put p (.lst (acc ++ [y]))) else Pv (i + 1) S2) ∧
      ∀ S, Pv w.items.length S → Rp p S := by
  obtain ⟨it, lv⟩ := w
  cases hw
  exact lc_map xs gx lv f hlen live step fin
theorem enD_map {α : Type} (h : α → D) (cs : List α) : enD (cs.map h) = (cs.mapIdx fun i c => (i, c)).map fun x => D.tup [.int ((x.1 : Nat) : Int), h x.2] := by
  unfold enD
  apply List.ext_getElem?
  intro i
  rw [List.getElem?_mapIdx, List.getElem?_map, List.getElem?_map, List.getElem?_mapIdx]
  cases cs[i]? <;> rfl
theorem any_int (fs : List Int) (i : Int) : ((fs.map PyData.int).any fun z => PyData.eqv z (.int i)) = decide (i ∈ fs) := by
  induction fs with
  | nil => rfl
  | cons a r ih =>
    rw [List.map_cons, List.any_cons, ih, show PyData.eqv (.int a) (.int i) = decide (a = i) from rfl]
    by_cases h : a = i
    · subst h; simp
    · have h' : i ≠ a := fun z => h z.symm
      simp [h, h']
end Sv
set_option maxHeartbeats 400000
namespace Sv
open PySem L2
structure RAt (S : Sto) (r : Addr) (as : List Addr) (rows : List (List Int)) : Prop where
  len : as.length = rows.length
  lst : S r = some (.lst (as.map D.ref))
  row : ∀ (i : Nat) (a : Addr) (row : List Int), as[i]? = some a → rows[i]? = some row → S a = some (.lst (intsD row))
  nd : as.Nodup
  nr : r ∉ as
theorem RAt.keep {S S' : Sto} {P : Addr → Prop} {r : Addr} {as : List Addr} {rows : List (List Int)} (h : RAt S r as rows) (k : SK P S S') (n : ∀ a, P a → a ≠ r ∧ a ∉ as) : RAt S' r as rows :=
  ⟨h.len, k _ _ (fun z => (n _ z).1 rfl) h.lst, fun i a row h1 h2 => k _ _ (fun z => (n _ z).2 (List.mem_of_getElem? h1)) (h.row i a row h1 h2), h.nd, h.nr⟩
theorem RAt.keepG {S S' : Sto} {r : Addr} {as : List Addr} {rows : List (List Int)} (h : RAt S r as rows) (k : SG S S') : RAt S' r as rows := h.keep k fun _ z => z.elim
theorem RAt.putNe {S : Sto} {r a : Addr} {o : Ob} {as : List Addr} {rows : List (List Int)} (h : RAt S r as rows) (n1 : a ≠ r) (n2 : a ∉ as) : RAt (S.put a o) r as rows :=
  ⟨h.len, (Sto.ne (Ne.symm n1)).trans h.lst, fun i b row h1 h2 => (Sto.ne fun z => n2 (by rw [← z]; exact List.mem_of_getElem? h1)).trans (h.row i b row h1 h2), h.nd, h.nr⟩
theorem RAt.put {S : Sto} {r a : Addr} {as : List Addr} {rows : List (List Int)} {p : Nat} {row : List Int} (h : RAt S r as rows) (ha : as[p]? = some a) (hr : rows[p]? = some row) (vs : List Int) : RAt (S.put a (.lst (intsD row ++ intsD vs))) r as (rows.set p (row ++ vs)) := by
  have hp : p < rows.length := (List.getElem?_eq_some_iff.mp hr).1
  refine ⟨by rw [List.length_set]; exact h.len, (Sto.ne fun z => h.nr (by rw [z]; exact List.mem_of_getElem? ha)).trans h.lst, fun i b row' h1 h2 => ?_, h.nd, h.nr⟩
  by_cases z : p = i
  · subst z
    obtain rfl := Option.some.inj (ha.symm.trans h1)
    rw [List.getElem?_set_self hp] at h2
    obtain rfl := Option.some.inj h2
    rw [Sto.same]
    unfold intsD
    rw [List.map_append]
  · rw [List.getElem?_set_ne z] at h2
    have nb : b ≠ a := fun e => by
      subst e
      obtain ⟨i1, e1⟩ := List.getElem?_eq_some_iff.mp ha
      obtain ⟨i2, e2⟩ := List.getElem?_eq_some_iff.mp h1
      exact z ((List.getElem_inj (h₀ := i1) (h₁ := i2) h.nd).mp (e1.trans e2.symm))
    rw [Sto.ne nb]
    exact h.row i b row' h1 h2
theorem RAt.at {S : Sto} {r : Addr} {as : List Addr} {rows : List (List Int)} (h : RAt S r as rows) {p : Nat} (hp : p < rows.length) : ∃ a row, as[p]? = some a ∧ rows[p]? = some row ∧ (as.map D.ref)[p]? = some (.ref a) ∧ S a = some (.lst (intsD row)) ∧ a ∈ as := by
  have ha : as[p]? = some (as[p]'(by rw [h.len]; exact hp)) := List.getElem?_eq_getElem (by rw [h.len]; exact hp)
  have hr := List.getElem?_eq_getElem hp
  exact ⟨_, _, ha, hr, by rw [List.getElem?_map, ha]; rfl, h.row p _ _ ha hr, List.mem_of_getElem? ha⟩
theorem lc_rows {n kk : Nat} {env : Env} {S1 : Sto} {Rp : Addr → Sto → Prop} {w : Src} (hw : w.items.length = n) (hl : ∀ S, w.live S) (n9 : n ≤ 1000)
    (fin : ∀ r as S', SG S1 S' → RAt S' r as (List.replicate n []) → (∀ a, a = r ∨ a ∈ as → S1 a = none) → Rp r S') :
    ∀ p, S1 p = none → ∃ Pv : Nat → Sto → Prop, Pv 0 (S1.put p (.lst [])) ∧ (∀ i S, i ≤ w.items.length → Pv i S → w.live S) ∧
      (∀ i d S, w.items[i]? = some d → Pv i S → dgName kk d (dwipe env [kk]) S fun env' S' => dYes env' S' fun b S2 => if b = true then (dLst dNil) env' S2 fun y S3 => ∃ acc, S3 p = some (.lst acc) ∧ acc.length < 1000000 ∧ Pv (i + 1) (S3.put p (.lst (acc ++ [y]))) else Pv (i + 1) S2) ∧
      ∀ S, Pv w.items.length S → Rp p S := by
  subst hw
  intro p np
  refine ⟨fun i S => ∃ as : List Addr, as.length = i ∧ i ≤ w.items.length ∧ SG S1 S ∧ S p = some (.lst (as.map D.ref)) ∧ (∀ a ∈ as, S a = some (.lst [])) ∧ as.Nodup ∧ p ∉ as ∧ ∀ a ∈ as, S1 a = none, ⟨[], rfl, Nat.zero_le _, .new np, Sto.same, (fun a z => nomatch z), .nil, (fun z => nomatch z), (fun a z => nomatch z)⟩, fun i S _ _ => hl S, fun i d S hd h => ?_, fun S h => ?_⟩
  · obtain ⟨as, la, hi, sg, hp, hr, nd, npa, nf⟩ := h
    have hi : i < w.items.length := (List.getElem?_eq_some_iff.mp hd).1
    dsimp only [dgName, dYes]
    refine goT ?_
    refine ⟨rfl, fun q nq => ?_⟩
    have nqS : S1 q = none := by
      cases z : S1 q with
      | none => rfl
      | some o => rw [sg _ _ (fun z => z) z] at nq; cases nq
    have qp : p ≠ q := fun z => by rw [← z, hp] at nq; cases nq
    have qa : q ∉ as := fun z => by rw [hr q z] at nq; cases nq
    refine ⟨as.map D.ref, (Sto.ne qp).trans hp, by rw [List.length_map]; omega, as ++ [q], by rw [List.length_append, la]; rfl, hi, SG.keepP np sg (.new nq), by rw [Sto.same, List.map_append]; rfl, fun a ha => ?_, ?_, ?_, fun a ha => ?_⟩
    · rcases List.mem_append.mp ha with z | z
      · rw [Sto.ne (fun e : a = p => npa (e ▸ z)), Sto.ne (fun e : a = q => qa (e ▸ z))]
        exact hr a z
      · rw [List.mem_singleton.mp z, Sto.ne (Ne.symm qp), Sto.same]
    · refine List.nodup_append.mpr ⟨nd, (List.nodup_cons.mpr ⟨(fun z => nomatch z), .nil⟩), fun a ha b hb => ?_⟩
      rw [List.mem_singleton.mp hb]
      exact fun z => qa (z ▸ ha)
    · intro z
      rcases List.mem_append.mp z with z | z
      · exact npa z
      · exact qp (List.mem_singleton.mp z)
    · rcases List.mem_append.mp ha with z | z
      · exact nf a z
      · rw [List.mem_singleton.mp z]
        exact nqS
  · obtain ⟨as, la, hi, sg, hp, hr, nd, npa, nf⟩ := h
    refine fin p as S sg ⟨by rw [la, List.length_replicate], hp, fun i a row h1 h2 => ?_, nd, npa⟩ fun a ha => ?_
    · obtain ⟨_, e⟩ := List.getElem?_eq_some_iff.mp h2
      rw [List.getElem_replicate] at e
      subst e
      exact hr a (List.mem_of_getElem? h1)
    · rcases ha with rfl | ha
      · exact np
      · exact nf a ha
theorem Good.mono {a b a' b' : Nat} {rows : List (List Int)} (h : Good a b rows) (h1 : a ≤ a') (h2 : b ≤ b') : Good a' b' rows := by
  obtain ⟨c, nm, o, u, k, g1, g2, g3, g4, g5⟩ := h
  exact ⟨c, nm, o, u, k, g1, by omega, g3, g4, by omega⟩
theorem set_set {α : Type} (l : List α) (p : Nat) (a b : α) : (l.set p a).set p b = l.set p b := List.set_set ..
end Sv
set_option maxHeartbeats 400000
set_option maxHeartbeats 1000000
namespace Sv
open PySem L2
def swp (o : List (Int × Int)) : List (Int × Int) := o.map fun x => (x.2, x.1)
structure RWv (S0 S : Sto) (st rs r N W : Addr) (as : List Addr) (c : Nat) (nm : List Int) (rows : List (List Int)) (o : List (Int × Int)) (u i : Nat) : Prop where
  sk : SK (DQ st rs) S0 S
  ra : RAt S r as rows
  hN : S N = some (.lst (intsD (nm.drop u).reverse))
  hW : S W = some (.lst ((swp o).map pairD))
  g : Grown c nm rows o u i
theorem RWv.keep {S0 S S' : Sto} {st cl rs r N W : Addr} {as : List Addr} {c : Nat} {nm : List Int} {rows : List (List Int)} {o : List (Int × Int)} {u i : Nat} (h : RWv S0 S st rs r N W as c nm rows o u i) (k : SK (DQ st rs) S S')
    (nd : ∀ a, a = r ∨ a = N ∨ a = W ∨ a ∈ as → a ≠ st ∧ a ≠ cl ∧ a ≠ rs) : RWv S0 S' st rs r N W as c nm rows o u i := by
  have nq : ∀ a, a = r ∨ a = N ∨ a = W ∨ a ∈ as → ¬ DQ st rs a := fun a ha z => z.elim (nd a ha).1 (nd a ha).2.2
  exact ⟨h.sk.trans k, h.ra.keep k fun a z => ⟨fun e => nq a (.inl e) z, fun e => nq a (.inr (.inr (.inr e))) z⟩, k _ _ (nq _ (.inr (.inl rfl))) h.hN, k _ _ (nq _ (.inr (.inr (.inl rfl)))) h.hW, h.g⟩
theorem RWv.keepG {S0 S S' : Sto} {st rs r N W : Addr} {as : List Addr} {c : Nat} {nm : List Int} {rows : List (List Int)} {o : List (Int × Int)} {u i : Nat} (h : RWv S0 S st rs r N W as c nm rows o u i) (k : SG S S') : RWv S0 S' st rs r N W as c nm rows o u i :=
  ⟨h.sk.trans k.sk, h.ra.keepG k, k _ _ (fun z => z) h.hN, k _ _ (fun z => z) h.hW, h.g⟩
theorem Dk.free {st cl rs : Addr} {n : Nat} {S0 S : Sto} (D : Dk st cl rs n S) (k : SK (DQ st rs) S0 S) {a : Addr} (z : S a = none) : S0 a = none := SK.free k z fun q => q.elim (D.fresh z).1 (D.fresh z).2.2
theorem fm_not {α β : Type} (g : α → β) (q : α → Bool) : ∀ l : List α, (l.filterMap fun x => if q x = true then none else some (g x)) = (l.filter fun x => !q x).map g
  | [] => rfl
  | a :: l => by
    rw [List.filterMap_cons, List.filter_cons]
    cases h : q a with
    | true => simp only [if_true, Bool.not_true, Bool.false_eq_true, if_false]; exact fm_not g q l
    | false => simp only [Bool.false_eq_true, if_false, Bool.not_false, if_true, List.map_cons]; rw [fm_not g q l]
theorem atI_last {xs : List D} {d : D} : atI (xs ++ [d]) (-1) = some d := by
  unfold atI ixN
  rw [if_neg (by decide), if_pos (by rw [List.length_append, List.length_singleton]; omega)]
  show (xs ++ [d])[_]? = some d
  have : (-1 + ((xs ++ [d]).length : Int)).toNat = xs.length := by rw [List.length_append, List.length_singleton]; omega
  rw [this, List.getElem?_append_right (Nat.le_refl _), Nat.sub_self]
  rfl
end Sv
set_option maxHeartbeats 800000
set_option autoImplicit false
set_option maxHeartbeats 400000
set_option maxHeartbeats 400000
namespace Sv
open PySem L2
theorem allU_eq (rows : List (List Int)) : ∀ k, k ≤ rows.length → (((prs rows).mapIdx fun i c => (i, c)).take k).flatMap (fun x => (List.range (x.2 + 1)).map fun (n : Nat) => (((x.1 : Nat) : Int), (n : Int))) = allU rows k
  | 0, _ => rfl
  | k + 1, h => by
    have hk : k < rows.length := h
    have e : ((prs rows).mapIdx fun i c => (i, c))[k]? = some (k, (((prs rows)[k]?).getD 0)) := by
      rw [List.getElem?_mapIdx, prsA (List.getElem?_eq_getElem hk)]
      rfl
    rw [take_map e, List.flatMap_append, allU_eq rows k (by omega), allU_succ]
    congr 1
    simp only [List.flatMap_cons, List.flatMap_nil, List.append_nil]
    rfl
theorem flat_map {α β γ : Type} (f : β → γ) (g : α → List β) (l : List α) : l.flatMap (fun a => (g a).map f) = (l.flatMap g).map f := by
  induction l with
  | nil => rfl
  | cons a r ih => rw [List.flatMap_cons, List.flatMap_cons, List.map_append, ih]
theorem lc2_mapE {α β : Type} {g g1 : DTG} {ti1 : DTI} {tt1 : DTT} {te : DTE} {us us1 : List Nat} {env : Env} {S1 : Sto} {Rp : Addr → Sto → Prop} {w : Src} (xs : List α) (gx : α → D) (hw : w.items = xs.map gx) (ys : α → List β) (h : α → β → D) (f : α → β → Option D) (E : α → Env)
    (hl1 : xs.length ≤ 300) (hl2 : ∀ a ∈ xs, (ys a).length ≤ 300) (live : ∀ S, SG S1 S → w.live S)
    (out : ∀ a ∈ xs, ∀ S, SG S1 S → ∀ K : Env → Sto → Prop, K (E a) S → g (gx a) (dwipe env us) S K)
    (src : ∀ a ∈ xs, ∀ S, SG S1 S → ∀ K : Src → Sto → Prop, (∀ S', SG S S' → K ⟨(ys a).map (h a), fun _ => True⟩ S') → ti1 (E a) S K)
    (step : ∀ a ∈ xs, ∀ b ∈ ys a, ∀ S, SG S1 S → ∀ (K : DK) (Kn : Sto → Prop), (∀ y, f a b = some y → ∀ S', SG S S' → K y S') → (f a b = none → ∀ S', SG S S' → Kn S') → Turn1 g1 tt1 te (dwipe (E a) us1) (h a b) S K Kn)
    (fin : ∀ p S', S1 p = none → SG S1 S' → S' p = some (.lst (xs.flatMap fun a => (ys a).filterMap (f a))) → Rp p S') :
    ∀ p, S1 p = none → ∃ Pv : Nat → Sto → Prop, Pv 0 (S1.put p (.lst [])) ∧ (∀ i S, i ≤ w.items.length → Pv i S → w.live S) ∧
      (∀ i d S, w.items[i]? = some d → Pv i S → g d (dwipe env us) S fun env' S' => dYes env' S' fun b S2 => if b = true then ti1 env' S2 fun w1 S3 => ∃ Pw : Nat → Sto → Prop, Pw 0 S3 ∧ (∀ j S, j ≤ w1.items.length → Pw j S → w1.live S) ∧
        (∀ j e S, w1.items[j]? = some e → Pw j S → g1 e (dwipe env' us1) S fun env2 S4 => tt1 env2 S4 fun b S5 => if b = true then te env2 S5 fun y S6 => ∃ acc, S6 p = some (.lst acc) ∧ acc.length < 1000000 ∧ Pw (j + 1) (S6.put p (.lst (acc ++ [y]))) else Pw (j + 1) S5) ∧
        (∀ S, Pw w1.items.length S → Pv (i + 1) S) else Pv (i + 1) S2) ∧
      ∀ S, Pv w.items.length S → Rp p S := by
  obtain ⟨it, lv⟩ := w
  cases hw
  exact lc2_map xs gx lv ys h f E hl1 hl2 live out src step fin
theorem mem_pairs {cs : List Nat} {x : Nat × Nat} (h : x ∈ cs.mapIdx fun i c => (i, c)) : cs[x.1]? = some x.2 := by
  obtain ⟨i, hi⟩ := List.getElem?_of_mem h
  rw [List.getElem?_mapIdx] at hi
  cases e : cs[i]? with
  | none => rw [e] at hi; cases hi
  | some d => rw [e] at hi; cases hi; exact e
theorem w_all {rows : List (List Int)} {S : Sto} {R : DK} (hl : rows.length ≤ 6) (h60 : ∀ r ∈ rows, r.length ≤ 60) (k : ∀ p S', SG S S' → S' p = some (.lst ((allU rows rows.length).map prD)) → R (.ref p) S') : dFn 4 B_all_states_326e [.tup (rowsD rows)] S R := by
  have pl : (prs rows).length = rows.length := List.length_map ..
  refine ⟨_, rfl, rfl, w_nums (by omega) fun S1 sg1 => ⟨_, _, rfl, rfl, lc2_mapE ((prs rows).mapIdx fun i c => (i, c)) (fun x => .tup [.int ((x.1 : Nat) : Int), .int ((x.2 : Nat) : Int)]) (enD_map (fun c : Nat => D.int (c : Int)) (prs rows))
    (fun x => List.range (x.2 + 1)) (fun x (n : Nat) => .int (0 + (n : Int))) (fun x n => some (prD (((x.1 : Nat) : Int), ((n : Nat) : Int)))) (fun x => [some (.tup (rowsD rows)), some (.int ((x.1 : Nat) : Int)), some (.int ((x.2 : Nat) : Int)), none]) (by rw [List.length_mapIdx]; omega) (fun x hx => ?_) (fun _ _ => True.intro)
    (fun x _ S2 sg K hk => ?_) (fun x hx S2 sg K hk => ?_) (fun x _ n _ S2 sg K Kn hk _ => ?_) fun p S2 np sg2 hp => ?_⟩⟩
  · have := prs_le h60 x.1
    have h := mem_pairs hx
    rw [h] at this
    rw [List.length_range]
    have : x.2 ≤ 61 := this
    omega
  · exact ⟨_, rfl, .inl (.inl rfl), _, _, rfl, _, _, rfl, rfl, hk⟩
  · have := prs_le h60 x.1
    have h := mem_pairs hx
    rw [h] at this
    have : x.2 ≤ 61 := this
    refine ⟨_, rfl, ((x.2 + 1 : Nat) : Int), rfl, by omega, by omega, ?_⟩
    exact hk _ (.refl _)
  · refine turn_y ⟨_, rfl, _, rfl, rfl, hk _ ?_ _ (.refl _)⟩
    show some (prD _) = some (D.tup [_, .int (0 + _)])
    rw [Int.zero_add]
    rfl
  · have e : (((prs rows).mapIdx fun i c => (i, c)).flatMap fun x => (List.range (x.2 + 1)).filterMap fun n => some (prD (((x.1 : Nat) : Int), ((n : Nat) : Int)))) = (allU rows rows.length).map prD := by
      have h2 := allU_eq rows rows.length (Nat.le_refl _)
      rw [List.take_of_length_le (by rw [List.length_mapIdx]; omega)] at h2
      rw [← h2, ← flat_map]
      congr 1
      funext x
      rw [fm_map, List.map_map]
      rfl
    rw [e] at hp
    exact k p S2 (sg1.trans sg2) hp
end Sv
set_option maxHeartbeats 400000
set_option maxHeartbeats 400000
namespace Sv
open PySem L2
structure Up (rows : List (List Int)) (low cs : List Nat) : Prop where
  len : cs.length = low.length
  ge : LeL low cs
  bot : ∀ L : List Nat, L.length = low.length → LeL low L → ConsL rows L → LeL cs L
structure IsUp (rows : List (List Int)) (low cs : List Nat) : Prop extends Up rows low cs where
  cons : ConsL rows cs
theorem IsUp.unique {rows : List (List Int)} {low a b : List Nat} (ha : IsUp rows low a) (hb : IsUp rows low b) : a = b := by
  apply List.ext_getElem (ha.len.trans hb.len.symm)
  intro i h1 h2
  have e1 := List.getElem?_eq_getElem h1
  have e2 := List.getElem?_eq_getElem h2
  exact Nat.le_antisymm (ha.bot b hb.len hb.ge hb.cons i _ _ e1 e2) (hb.bot a ha.len ha.ge ha.cons i _ _ e2 e1)
theorem Up.start (rows : List (List Int)) (low : List Nat) : Up rows low low := ⟨rfl, .refl _, fun _ _ h _ => h⟩
theorem Up.step {rows : List (List Int)} {low cs : List Nat} (h : Up rows low cs) {m : Int} {p k p' k' c c' : Nat} (hm : 0 < m) (h1 : hap rows m = some (p, k)) (h2 : hap rows (0 - m) = some (p', k')) (h3 : cs[p]? = some c) (h4 : cs[p']? = some c') (h5 : k' < c') (h6 : c ≤ k) : Up rows low (cs.set p (k + 1)) := by
  refine ⟨by rw [List.length_set]; exact h.len, fun i x y g1 g2 => ?_, fun L l1 l2 l3 i x y g1 g2 => ?_⟩
  · rw [List.getElem?_set] at g2
    split at g2
    · rename_i e
      subst e
      split at g2
      · obtain rfl := Option.some.inj g2
        have := h.ge _ _ _ g1 h3
        omega
      · cases g2
    · exact h.ge _ _ _ g1 g2
  · have hl := h.bot L l1 l2 l3
    rw [List.getElem?_set] at g1
    split at g1
    · rename_i e
      subst e
      split at g1
      · obtain rfl := Option.some.inj g1
        have hpl : p' < L.length := by
          rw [l1, ← h.len]
          exact (List.getElem?_eq_some_iff.mp h4).1
        have hp := List.getElem?_eq_getElem hpl
        have h7 := hl _ _ _ h4 hp
        have := l3 m p k p' k' y _ hm h1 h2 g2 hp (by omega)
        omega
      · cases g1
    · exact hl _ _ _ g1 g2
open Classical in
noncomputable def upL (rows : List (List Int)) (low : List Nat) : List Nat := if h : ∃ cs, IsUp rows low cs then Classical.choose h else low
def stD (s : Nat × Nat) : D := prD ((s.1 : Int), (s.2 : Int))
def lowS (l : List Nat) (s : Nat × Nat) : List Nat := l.set s.1 (max (l.getD s.1 0) s.2)
def lowL (rows : List (List Int)) (ss : List (Nat × Nat)) : List Nat := ss.foldl lowS (List.replicate rows.length 0)
theorem getD_of {l : List Nat} {i x : Nat} (h : l[i]? = some x) : l.getD i 0 = x := by rw [List.getD_eq_getElem?_getD, h]; rfl
/-- a consistent line with the states -/
structure Thru (rows : List (List Int)) (ss : List (Nat × Nat)) (L : List Nat) : Prop where
  len : L.length = rows.length
  le : LeL L (prs rows)
  cons : ConsL rows L
  on : ∀ s ∈ ss, L[s.1]? = some s.2
def stN (x : Int × Int) : Nat × Nat := (x.1.toNat, x.2.toNat)
end Sv
set_option maxHeartbeats 400000
namespace Sv
open PySem L2
def cutsU (rows : List (List Int)) : Nat → List (List Nat)
  | 0 => [[]]
  | i + 1 => (cutsU rows i).flatMap fun c => (List.range ((rows.getD i []).count 0 + 2)).map fun n => c ++ [n]
def cutD' (c : List Nat) : D := .tup (natD c)
theorem getD_count {rows : List (List Int)} {B : Nat} (h : ∀ r ∈ rows, r.count 0 + 2 ≤ B) (h2 : 2 ≤ B) (i : Nat) : (rows.getD i []).count 0 + 2 ≤ B := by
  rw [List.getD_eq_getElem?_getD]
  cases e : rows[i]? with
  | none => exact h2
  | some r => exact h r (List.mem_of_getElem? e)
theorem cutsU_lenB {rows : List (List Int)} {B : Nat} (h : ∀ r ∈ rows, r.count 0 + 2 ≤ B) (h2 : 2 ≤ B) : ∀ i, (cutsU rows i).length ≤ B ^ i
  | 0 => Nat.le_refl _
  | i + 1 => by
    have ih := cutsU_lenB h h2 i
    have hc : ∀ c ∈ cutsU rows i, ((List.range ((rows.getD i []).count 0 + 2)).map fun n => c ++ [n]).length ≤ B := fun c _ => by
      rw [List.length_map, List.length_range]
      exact getD_count h h2 i
    have := flat_le _ B (cutsU rows i) hc
    show ((cutsU rows i).flatMap _).length ≤ _
    rw [Nat.pow_succ]
    exact Nat.le_trans this (Nat.mul_le_mul_right B ih)
end Sv
set_option maxHeartbeats 400000
namespace Sv
open PySem L2
theorem any_intR (row : List Int) (i : Int) : ((row.map PyData.int).any fun z => PyData.eqv z (.int i)) = decide (i ∈ row) := any_int row i
theorem fm_iteB {α β : Type} (g : α → β) (c : α → Bool) : ∀ l : List α, l.filterMap (fun x => if c x = true then some (g x) else none) = (l.filter c).map g
  | [] => rfl
  | a :: l => by
    rw [List.filterMap_cons, List.filter_cons]
    by_cases z : c a = true
    · simp only [z, if_true, List.map_cons, fm_iteB g c l]
    · simp only [z, Bool.false_eq_true, if_false, fm_iteB g c l]
end Sv
namespace Sv
open PySem PySem.Spec PyProof.Rows L2
structure Fine (n W : Nat) (d : PyData) : Prop where
  dep : d.depth ≤ n
  wei : d.weight ≤ W
  lay : d.canLay0 = true
  sho : d.showable = true
  ish : d.intsShort 40 = true
structure FineAll (n W : Nat) (ds : List PyData) : Prop where
  dep : PyData.depthAll ds ≤ n
  wei : PyData.weightAll ds ≤ W
  lay : PyData.canLayAll0 ds = true
  sho : PyData.showableAll ds = true
  ish : PyData.intsShortAll 40 ds = true
theorem FineAll.mono {n W m U : Nat} {d : List PyData} (h : FineAll n W d) (e : n ≤ m) (e2 : W ≤ U) : FineAll m U d := ⟨Nat.le_trans h.dep e, Nat.le_trans h.wei e2, h.lay, h.sho, h.ish⟩
theorem Fine.len {n W : Nat} {d : PyData} (h : Fine n W d) (hW : W ≤ 300000) : d.shown.length ≤ sizeLine := by
  have q := PyData.shown_le 40 (by decide) d (PyData.leavesShort_of_canLay0 40 d h.lay h.ish)
  have := h.wei
  rw [sizeLine_eq]
  omega
theorem Fine.mono {n W m U : Nat} {d : PyData} (h : Fine n W d) (e : n ≤ m) (e2 : W ≤ U) : Fine m U d := ⟨Nat.le_trans h.dep e, Nat.le_trans h.wei e2, h.lay, h.sho, h.ish⟩
end Sv
set_option maxHeartbeats 400000
namespace Sv
open PySem PySem.Spec PyProof.Rows L2
theorem eqv_shaped {p : PyData} (h : SeqAt.shaped p = true) : (PyData.eqv p p ^^ true) = false := by
  rw [SeqAt.eqv_refl _ (SeqAt.canLay_of_shaped h)]
  rfl
end Sv
set_option maxHeartbeats 400000
namespace Sv
open PySem PySem.Spec PyProof.Rows L2
/-- not too many lines -/
def Wl (rows : List (List Int)) : Prop := ∃ B, 2 ≤ B ∧ B ≤ 1000 ∧ (∀ r ∈ rows, r.count 0 + 2 ≤ B) ∧ B ^ rows.length ≤ 70000
theorem Wl.of {a b : Nat} {rows : List (List Int)} (hG : Good a b rows) (hb : b ≤ 60) (h : (b + 2) ^ a ≤ 70000) : Wl rows := by
  refine ⟨b + 2, by omega, by omega, fun r hr => ?_, ?_⟩
  · obtain ⟨i, hi⟩ := List.getElem?_of_mem hr
    have h1 := (hG.row hi).1
    have h2 : r.count 0 ≤ r.length := List.count_le_length ..
    omega
  · exact Nat.le_trans (Nat.pow_le_pow_right (by omega) hG.len.2) h
theorem Wl.len {rows : List (List Int)} (h : Wl rows) (i : Nat) (hi : i ≤ rows.length) : (cutsU rows i).length ≤ 70000 := by
  obtain ⟨B, h2, _, hc, hB⟩ := h
  exact Nat.le_trans (cutsU_lenB hc h2 i) (Nat.le_trans (Nat.pow_le_pow_right (by omega) hi) hB)
end Sv
set_option maxHeartbeats 400000
namespace Sv
open PySem PySem.Spec PyProof.Rows L2
def ltP (a b : Int × Int) : Bool := decide (a.1 < b.1) || (decide (a.1 = b.1) && decide (a.2 < b.2))
theorem dataLt_pair (a b : Int × Int) : PySem.W.dataLt (pD a) (pD b) = ltP a b := by
  obtain ⟨x, y⟩ := a
  obtain ⟨z, w⟩ := b
  have al : ∀ i j : Int, PySem.W.alike (.int i) (.int j) = true := fun i j => by simp [PySem.W.alike]
  have ey : ∀ i : Int, PyData.eqv (.int i) (.int i) = true := fun i => by simp [PyData.eqv]
  have en : ∀ i j : Int, i ≠ j → PyData.eqv (.int i) (.int j) = false := fun i j h => by simp [PyData.eqv, h]
  unfold pD ltP
  rw [PySem.W.dataLt_tuple]
  by_cases h : x = z
  · subst h
    rw [PySem.W.dataLt_all_yes (al x x) (ey x)]
    by_cases h2 : y = w
    · subst h2
      rw [PySem.W.dataLt_all_yes (al y y) (ey y)]
      simp [PySem.W.keyToksAll, PyProof.Rows.lexLt, PyProof.Rows.itemLt]
    · rw [PySem.W.dataLt_all_no (al y w) (en y w h2), PySem.W.dataLt_int]
      simp
  · rw [PySem.W.dataLt_all_no (al x z) (en x z h), PySem.W.dataLt_int]
    simp [h]
theorem ltP_iff {a b : Int × Int} : ltP a b = true ↔ a.1 < b.1 ∨ (a.1 = b.1 ∧ a.2 < b.2) := by
  unfold ltP
  rw [Bool.or_eq_true, Bool.and_eq_true, decide_eq_true_iff, decide_eq_true_iff, decide_eq_true_iff]
end Sv
set_option maxHeartbeats 400000
namespace Sv
open PySem PySem.Spec PyProof.Rows L2
def nxG (rows : List (List Int)) (nx : Int → Int → Bool) (m : Int) : List Int := (recvL rows).filter (nx m)
inductive Dz (rows : List (List Int)) (nx : Int → Int → Bool) (base : Int → Bool) : Nat → Int → Prop
  | base {m : Int} : m ∈ recvL rows → base m = true → Dz rows nx base 1 m
  | step {n : Nat} {m t : Int} : m ∈ recvL rows → nx m t = true → Dz rows nx base n t → Dz rows nx base (n + 1) m
section
variable {rows : List (List Int)} {nx : Int → Int → Bool} {base : Int → Bool}
theorem Dz.mem {n : Nat} {m : Int} (h : Dz rows nx base n m) : m ∈ recvL rows := by
  cases h with
  | base h _ => exact h
  | step h _ _ => exact h
theorem Dz.pos {n : Nat} {m : Int} (h : Dz rows nx base n m) : 1 ≤ n := by
  cases h with
  | base _ _ => exact Nat.le_refl _
  | step _ _ _ => omega
theorem Dz.inv {n : Nat} {m : Int} (h : Dz rows nx base (n + 1) m) (hn : 1 ≤ n) : ∃ t, nx m t = true ∧ Dz rows nx base n t := by
  generalize e : n + 1 = k at h
  cases h with
  | base _ _ => omega
  | step _ h1 h2 =>
    obtain rfl := Nat.succ.inj e
    exact ⟨_, h1, h2⟩
theorem Dz.one {m : Int} (h : Dz rows nx base 1 m) : base m = true := by
  generalize e : 1 = k at h
  cases h with
  | base _ h => exact h
  | step _ _ h =>
    have := h.pos
    omega
/-- the least length -/
def Le (rows : List (List Int)) (nx : Int → Int → Bool) (base : Int → Bool) (n : Nat) (m : Int) : Prop := Dz rows nx base n m ∧ ∀ k, k < n → ¬ Dz rows nx base k m
theorem Dz.least : ∀ {n : Nat} {m : Int}, Dz rows nx base n m → ∃ k, k ≤ n ∧ Le rows nx base k m := by
  intro n
  induction n using Nat.strongRecOn with
  | ind n ih =>
    intro m h
    by_cases z : ∃ k, k < n ∧ Dz rows nx base k m
    · obtain ⟨k, hk, hd⟩ := z
      obtain ⟨j, hj, hl⟩ := ih k hk hd
      exact ⟨j, by omega, hl⟩
    · exact ⟨n, Nat.le_refl _, h, fun k hk hd => z ⟨k, hk, hd⟩⟩
theorem Le.unique {n k : Nat} {m : Int} (h : Le rows nx base n m) (g : Le rows nx base k m) : n = k := by
  rcases Nat.lt_trichotomy n k with z | z | z
  · exact absurd h.1 (g.2 n z)
  · exact z
  · exact absurd g.1 (h.2 k z)
theorem Le.prev {n : Nat} {m : Int} (h : Le rows nx base (n + 1) m) (hn : 1 ≤ n) : ∃ t, nx m t = true ∧ Le rows nx base n t := by
  obtain ⟨t, h1, h2⟩ := h.1.inv hn
  exact ⟨t, h1, h2, fun k hk hd => h.2 (k + 1) (by omega) (.step h.1.mem h1 hd)⟩
theorem Le.down {c : Nat} (hc : 1 ≤ c) : ∀ {n : Nat} {m : Int}, c ≤ n → Le rows nx base n m → ∃ t, Le rows nx base c t
  | 0, _, h, _ => absurd h (by omega)
  | n + 1, m, h, hl => by
    by_cases e : c = n + 1
    · exact ⟨m, e ▸ hl⟩
    · obtain ⟨t, _, ht⟩ := hl.prev (by omega)
      exact Le.down hc (by omega) ht
def lvF (rows : List (List Int)) (nx : Int → Int → Bool) (base : Int → Bool) (D : List (Int × Nat)) (c : Nat) : List Int :=
  if c = 0 then (recvL rows).filter base else (recvL rows).filter fun m => !decide (m ∈ D.map (·.1)) && ((nxG rows nx m).map fun t => decide (t ∈ D.map (·.1))).any id
def lvD (rows : List (List Int)) (nx : Int → Int → Bool) (base : Int → Bool) : Nat → List (Int × Nat)
  | 0 => []
  | c + 1 => lvD rows nx base c ++ (lvF rows nx base (lvD rows nx base c) c).map fun m => (m, c + 1)
theorem any_map_dec (l : List Int) (P : Int → Bool) : (l.map P).any id = true ↔ ∃ t ∈ l, P t = true := by
  rw [List.any_map, List.any_eq_true]
  exact Iff.rfl
theorem lv_mem (hst : ∀ m t, nx m t = true → t ∈ recvL rows → True) : ∀ c, (∀ m n, (m, n) ∈ lvD rows nx base c ↔ n ≤ c ∧ Le rows nx base n m) ∧ ∀ m, m ∈ lvF rows nx base (lvD rows nx base c) c ↔ Le rows nx base (c + 1) m := by
  have keys : ∀ c, (∀ m n, (m, n) ∈ lvD rows nx base c ↔ n ≤ c ∧ Le rows nx base n m) → ∀ m, m ∈ (lvD rows nx base c).map (·.1) ↔ ∃ n, n ≤ c ∧ Le rows nx base n m := fun c h m => by
    rw [List.mem_map]
    constructor
    · rintro ⟨⟨m', n⟩, h1, rfl⟩
      exact ⟨n, (h _ _).mp h1⟩
    · rintro ⟨n, h1⟩
      exact ⟨(m, n), (h _ _).mpr h1, rfl⟩
  have front : ∀ c, (∀ m n, (m, n) ∈ lvD rows nx base c ↔ n ≤ c ∧ Le rows nx base n m) → ∀ m, m ∈ lvF rows nx base (lvD rows nx base c) c ↔ Le rows nx base (c + 1) m := fun c h m => by
    unfold lvF
    by_cases hc : c = 0
    · subst hc
      rw [if_pos rfl, List.mem_filter]
      constructor
      · rintro ⟨h1, h2⟩
        exact ⟨.base h1 h2, fun k hk hd => by have := hd.pos; omega⟩
      · intro hl
        exact ⟨hl.1.mem, hl.1.one⟩
    · rw [if_neg hc, List.mem_filter, Bool.and_eq_true, any_map_dec]
      constructor
      · rintro ⟨h1, h2, t, h3, h4⟩
        have h2 : m ∉ (lvD rows nx base c).map (·.1) := by simpa using h2
        obtain ⟨h5, h6⟩ := List.mem_filter.mp h3
        obtain ⟨n, hn, hl⟩ := (keys c h t).mp (of_decide_eq_true h4)
        have hd : Dz rows nx base (n + 1) m := .step h1 h6 hl.1
        have no : ∀ k, k ≤ c → ¬ Dz rows nx base k m := fun k hk hd => by
          obtain ⟨j, hj, hl⟩ := hd.least
          exact h2 ((keys c h m).mpr ⟨j, by omega, hl⟩)
        have : n = c := by
          rcases Nat.lt_or_ge n c with z | z
          · exact absurd hd (no (n + 1) (by omega))
          · omega
        subst this
        exact ⟨hd, fun k hk => no k (by omega)⟩
      · intro hl
        obtain ⟨t, h1, h2⟩ := hl.prev (by omega)
        refine ⟨hl.1.mem, ?_, t, List.mem_filter.mpr ⟨h2.1.mem, h1⟩, decide_eq_true ((keys c h t).mpr ⟨c, Nat.le_refl _, h2⟩)⟩
        have : m ∉ (lvD rows nx base c).map (·.1) := fun z => by
          obtain ⟨n, hn, hl2⟩ := (keys c h m).mp z
          have := hl.unique hl2
          omega
        simpa using this
  intro c
  induction c with
  | zero =>
    have h0 : ∀ m n, (m, n) ∈ lvD rows nx base 0 ↔ n ≤ 0 ∧ Le rows nx base n m := fun m n => by
      constructor
      · intro z
        exact nomatch z
      · rintro ⟨h1, h2⟩
        have := h2.1.pos
        omega
    exact ⟨h0, front 0 h0⟩
  | succ c ih =>
    have h1 : ∀ m n, (m, n) ∈ lvD rows nx base (c + 1) ↔ n ≤ c + 1 ∧ Le rows nx base n m := fun m n => by
      show (m, n) ∈ lvD rows nx base c ++ _ ↔ _
      rw [List.mem_append, ih.1]
      constructor
      · rintro (⟨a, b⟩ | z)
        · exact ⟨by omega, b⟩
        · obtain ⟨m', h2, e⟩ := List.mem_map.mp z
          cases e
          exact ⟨Nat.le_refl _, (ih.2 m).mp h2⟩
      · rintro ⟨a, b⟩
        by_cases z : n ≤ c
        · exact .inl ⟨z, b⟩
        · obtain rfl : n = c + 1 := by omega
          exact .inr (List.mem_map.mpr ⟨m, (ih.2 m).mpr b, rfl⟩)
    exact ⟨h1, front (c + 1) h1⟩
theorem lvF_nd (c : Nat) : (lvF rows nx base (lvD rows nx base c) c).Nodup := by
  unfold lvF
  split
  · exact (recvL_nodup rows).sublist List.filter_sublist
  · exact (recvL_nodup rows).sublist List.filter_sublist
theorem lv_nd : ∀ c, ((lvD rows nx base c).map (·.1)).Nodup
  | 0 => List.nodup_nil
  | c + 1 => by
    show ((lvD rows nx base c ++ _).map (·.1)).Nodup
    rw [List.map_append, List.map_map]
    have e : (lvF rows nx base (lvD rows nx base c) c).map ((fun x : Int × Nat => x.1) ∘ fun m => (m, c + 1)) = lvF rows nx base (lvD rows nx base c) c := List.map_id' _
    rw [e]
    refine List.nodup_append.mpr ⟨lv_nd c, lvF_nd c, fun a ha b hb z => ?_⟩
    subst z
    obtain ⟨⟨a', n⟩, h1, rfl⟩ := List.mem_map.mp ha
    have h2 := ((lv_mem (fun _ _ _ _ => True.intro) c).1 _ _).mp h1
    have h3 := ((lv_mem (fun _ _ _ _ => True.intro) c).2 _).mp hb
    have := h2.2.unique h3
    omega
theorem nd_leL : ∀ {a b : List Int}, a.Nodup → (∀ x ∈ a, x ∈ b) → a.length ≤ b.length
  | [], b, _, _ => Nat.zero_le _
  | x :: a, b, h, hs => by
    obtain ⟨h1, h2⟩ := List.nodup_cons.mp h
    have hx := hs x List.mem_cons_self
    have := nd_leL (b := b.erase x) h2 fun y hy => (List.mem_erase_of_ne (fun (e : y = x) => h1 (by rw [← e]; exact hy))).mpr (hs y (List.mem_cons_of_mem _ hy))
    rw [List.length_erase_of_mem hx] at this
    have := List.length_pos_of_mem hx
    rw [List.length_cons]
    omega
theorem lv_len (c : Nat) : (lvD rows nx base c).length ≤ 24 := by
  have h := nd_leL (b := recvL rows) (lv_nd (rows := rows) (nx := nx) (base := base) c) fun x hx => by
    obtain ⟨⟨a', n⟩, h1, rfl⟩ := List.mem_map.mp hx
    exact (((lv_mem (fun _ _ _ _ => True.intro) c).1 _ _).mp h1).2.1.mem
  rw [List.length_map] at h
  have := recvL_len rows
  omega
/-- all least lengths -/
structure Dist (rows : List (List Int)) (nx : Int → Int → Bool) (base : Int → Bool) (D : List (Int × Nat)) : Prop where
  nd : (D.map (·.1)).Nodup
  mem : ∀ m n, (m, n) ∈ D ↔ Le rows nx base n m
  len : D.length ≤ 24
theorem dist_of {c : Nat} (h : lvF rows nx base (lvD rows nx base c) c = []) : Dist rows nx base (lvD rows nx base c) := by
  obtain ⟨h1, h2⟩ := lv_mem (rows := rows) (nx := nx) (base := base) (fun _ _ _ _ => True.intro) c
  refine ⟨lv_nd c, fun m n => ?_, lv_len c⟩
  rw [h1]
  refine ⟨fun z => z.2, fun z => ⟨?_, z⟩⟩
  rcases Nat.lt_or_ge c n with y | y
  · obtain ⟨t, ht⟩ := Le.down (c := c + 1) (by omega) y z
    have := (h2 t).mpr ht
    rw [h] at this
    exact nomatch this
  · exact y
end
def sbB (rows : List (List Int)) (m : Int) (s : Nat × Nat) : Bool := match hap rows m with
  | some (p, k) => decide (p = s.1) && decide (s.2 ≤ k)
  | none => false
def rbB (rows : List (List Int)) (s : Nat × Nat) (m : Int) : Bool := match hap rows (0 - m) with
  | some (p, k) => decide (p = s.1) && decide (k < s.2)
  | none => false
def stepB (rows : List (List Int)) (m t : Int) : Bool := match hap rows (0 - m) with
  | some s => sbB rows t s
  | none => false
/-- messages that lead from a state (an interval) to a state -/
def Zk (rows : List (List Int)) (s t : Nat × Nat) : List Int → Prop
  | [] => s.1 = t.1 ∧ s.2 < t.2
  | m :: ms => m ∈ recvL rows ∧ sbB rows m s = true ∧ ∃ u, hap rows (0 - m) = some u ∧ Zk rows u t ms
def Zz (rows : List (List Int)) (s t : Nat × Nat) (ms : List Int) : Prop := ms ≠ [] ∧ Zk rows s t ms
theorem recv_hap {rows : List (List Int)} {m : Int} (h : m ∈ recvL rows) : ∃ u, hap rows (0 - m) = some u := Option.isSome_iff_exists.mp (List.mem_filter.mp h).2
theorem rb_iff {rows : List (List Int)} {s u : Nat × Nat} {m : Int} (h : hap rows (0 - m) = some u) : rbB rows s m = true ↔ u.1 = s.1 ∧ u.2 < s.2 := by
  unfold rbB
  rw [h]
  obtain ⟨p, k⟩ := u
  show (decide (p = s.1) && decide (k < s.2)) = true ↔ _
  rw [Bool.and_eq_true, decide_eq_true_iff, decide_eq_true_iff]
theorem step_at {rows : List (List Int)} {u : Nat × Nat} {m t : Int} (h : hap rows (0 - m) = some u) : stepB rows m t = sbB rows t u := by
  unfold stepB
  rw [h]
/-- chosen step by step: each time the least message of those that are next to the end -/
inductive Best (rows : List (List Int)) (nx : Int → Int → Bool) (base : Int → Bool) : Nat → Int → List Int → Prop
  | one {m : Int} : Le rows nx base 1 m → Best rows nx base 1 m [m]
  | step {n : Nat} {m t : Int} {l : List Int} : Le rows nx base (n + 1) m → nx m t = true → (∀ t', nx m t' = true → Le rows nx base n t' → t ≤ t') → Best rows nx base n t l → Best rows nx base (n + 1) m (m :: l)
def lexle : List Int → List Int → Prop
  | [], _ => True
  | _ :: _, [] => False
  | a :: l, b :: r => a < b ∨ (a = b ∧ lexle l r)
theorem Best.le {rows : List (List Int)} {nx : Int → Int → Bool} {base : Int → Bool} {n : Nat} {m : Int} {l : List Int} (h : Best rows nx base n m l) : Le rows nx base n m := by
  cases h with
  | one h => exact h
  | step h _ _ _ => exact h
theorem Best.len {rows : List (List Int)} {nx : Int → Int → Bool} {base : Int → Bool} {n : Nat} {m : Int} {l : List Int} (h : Best rows nx base n m l) : l.length = n ∧ ∃ r, l = m :: r := by
  induction h with
  | one _ => exact ⟨rfl, [], rfl⟩
  | step _ _ _ _ ih => exact ⟨by rw [List.length_cons, ih.1], _, rfl⟩
/-- what find_zigzag promises -/
def FindZ (rows : List (List Int)) (s t : Nat × Nat) : Option (List Int) → Prop
  | none => ∀ ms, ¬ Zz rows s t ms
  | some ms => Zz rows s t ms ∧ ms.length ≤ 24 ∧ ∀ ms', Zz rows s t ms' → ms.length < ms'.length ∨ (ms.length = ms'.length ∧ lexle ms ms')
theorem lexle_anti : ∀ {a b : List Int}, lexle a b → lexle b a → a = b
  | [], [], _, _ => rfl
  | [], _ :: _, _, h => h.elim
  | _ :: _, [], h, _ => h.elim
  | x :: a, y :: b, h, g => by
    rcases h with h | ⟨rfl, h⟩
    · rcases g with g | ⟨rfl, g⟩
      · omega
      · omega
    · rcases g with g | ⟨_, g⟩
      · omega
      · rw [lexle_anti h g]
theorem FindZ.unique {rows : List (List Int)} {s t : Nat × Nat} : ∀ {a b : Option (List Int)}, FindZ rows s t a → FindZ rows s t b → a = b
  | none, none, _, _ => rfl
  | none, some ms, h, g => absurd g.1 (h ms)
  | some ms, none, h, g => absurd h.1 (g ms)
  | some a, some b, h, g => by
    rcases h.2.2 b g.1 with z | ⟨z, l1⟩
    · rcases g.2.2 a h.1 with y | ⟨y, _⟩ <;> omega
    · rcases g.2.2 a h.1 with y | ⟨y, l2⟩
      · omega
      · rw [lexle_anti l1 l2]
end Sv
set_option maxHeartbeats 400000
set_option autoImplicit false
namespace Sv
open PySem PySem.Spec PyProof.Rows L2
theorem w_sb {p k p' k' q j : Nat} {S : Sto} {R : DK} (h : R (.bl (decide (p = q) && decide (j ≤ k))) S) : dFn 6 B_is_sent_behind_1a14 [.tup [hpD (some (p, k)), hpD (some (p', k'))], stD (q, j)] S R := by
  refine ⟨_, rfl, _, 0, _, rfl, rfl, rfl, _, rfl, .inl (.inl rfl), _, _, rfl, _, _, rfl, rfl, ?_⟩
  refine ⟨_, rfl, _, rfl, .inl (.inl rfl), _, _, rfl, _, _, rfl, rfl, ?_⟩
  refine ⟨_, rfl, _, rfl, _, rfl, iteB (fun e => ?_) (fun e => ?_)⟩
  · rw [xor_ff] at e
    have e : (p : Int) = (q : Int) := of_decide_eq_true e
    rw [decide_eq_true (show p = q by omega), Bool.true_and] at h
    refine ⟨_, rfl, _, rfl, ?_⟩
    show R (.bl (decide ((j : Int) ≤ (k : Int)))) S
    rw [show decide ((j : Int) ≤ (k : Int)) = decide (j ≤ k) from decide_eq_decide.mpr (by omega)]
    exact h
  · rw [xor_ff] at e
    have e : ¬ (p : Int) = (q : Int) := of_decide_eq_false e
    rw [decide_eq_false (show ¬ p = q by omega), Bool.false_and] at h
    exact h
theorem w_rb {p k p' k' q j : Nat} {S : Sto} {R : DK} (h : R (.bl (decide (p' = q) && decide (k' < j))) S) : dFn 6 B_is_received_before_f543 [.tup [hpD (some (p, k)), hpD (some (p', k'))], stD (q, j)] S R := by
  refine ⟨_, rfl, _, 1, _, rfl, rfl, rfl, _, rfl, .inl (.inl rfl), _, _, rfl, _, _, rfl, rfl, ?_⟩
  refine ⟨_, rfl, _, rfl, .inl (.inl rfl), _, _, rfl, _, _, rfl, rfl, ?_⟩
  refine ⟨_, rfl, _, rfl, _, rfl, iteB (fun e => ?_) (fun e => ?_)⟩
  · rw [xor_ff] at e
    have e : (p' : Int) = (q : Int) := of_decide_eq_true e
    rw [decide_eq_true (show p' = q by omega), Bool.true_and] at h
    refine ⟨_, rfl, _, rfl, ?_⟩
    show R (.bl (decide ((k' : Int) < (j : Int)))) S
    rw [show decide ((k' : Int) < (j : Int)) = decide (k' < j) from decide_eq_decide.mpr (by omega)]
    exact h
  · rw [xor_ff] at e
    have e : ¬ (p' : Int) = (q : Int) := of_decide_eq_false e
    rw [decide_eq_false (show ¬ p' = q by omega), Bool.false_and] at h
    exact h
theorem w_sbM {rows : List (List Int)} {many most : Nat} {m : Int} {s : Nat × Nat} {S : Sto} {R : DK} (hG : Good many most rows) (hm : m ∈ recvL rows) (h : R (.bl (sbB rows m s)) S) : dFn 6 B_is_sent_behind_1a14 [tripD rows m, stD s] S R := by
  obtain ⟨_, p, k, p', k', h1, h2, e⟩ := hap_trip hG hm
  rw [e]
  refine w_sb ?_
  unfold sbB at h
  rw [h1] at h
  exact h
theorem w_rbM {rows : List (List Int)} {many most : Nat} {m : Int} {s : Nat × Nat} {S : Sto} {R : DK} (hG : Good many most rows) (hm : m ∈ recvL rows) (h : R (.bl (rbB rows s m)) S) : dFn 6 B_is_received_before_f543 [tripD rows m, stD s] S R := by
  obtain ⟨_, p, k, p', k', h1, h2, e⟩ := hap_trip hG hm
  rw [e]
  refine w_rb ?_
  unfold rbB at h
  rw [h2] at h
  exact h
theorem getD_map {α : Type} {κ : α → Key} {v : α → D} : ∀ {l : List α} {x : α}, (l.map κ).Nodup → x ∈ l → getD' (l.map fun x => (κ x, v x)) (κ x) = some (v x)
  | [], _, _, h => nomatch h
  | y :: l, x, nd, h => by
    unfold getD'
    rw [List.map_cons, List.find?_cons]
    rw [List.map_cons, List.nodup_cons] at nd
    rcases List.mem_cons.mp h with rfl | h
    · rw [decide_eq_true rfl]
      rfl
    · have : κ y ≠ κ x := fun z => nd.1 (by rw [z]; exact List.mem_map.mpr ⟨x, h, rfl⟩)
      rw [decide_eq_false this]
      exact getD_map nd.2 h
theorem recv_ndK (rows : List (List Int)) : ((recvL rows).map (Sum.inl : Int → Key)).Nodup := List.pairwise_map.mpr ((recvL_nodup rows).imp fun n z => n (Sum.inl.inj z))
theorem trips_get {rows : List (List Int)} {m : Int} (h : m ∈ recvL rows) : getD' ((recvL rows).map fun m => ((Sum.inl m : Key), tripD rows m)) (Sum.inl m) = some (tripD rows m) := getD_map (recv_ndK rows) h
theorem trips_keys (rows : List (List Int)) : (((recvL rows).map fun m => ((Sum.inl m : Key), tripD rows m)).map fun kv => kD kv.1) = (recvL rows).map D.int := by
  rw [List.map_map]
  rfl
def kvD (L : List (Int × Nat)) : List (Key × D) := L.map fun x => ((Sum.inl x.1 : Key), D.int (x.2 : Int))
theorem kv_in (L : List (Int × Nat)) (t : Int) : (getD' (kvD L) (Sum.inl t)).isSome = decide (t ∈ L.map (·.1)) := by
  unfold getD' kvD
  rw [Option.isSome_map, Bool.eq_iff_iff, List.find?_isSome, decide_eq_true_iff, List.mem_map]
  constructor
  · rintro ⟨y, hy, e⟩
    obtain ⟨x, hx, rfl⟩ := List.mem_map.mp hy
    exact ⟨x, hx, Sum.inl.inj (of_decide_eq_true e)⟩
  · rintro ⟨x, hx, rfl⟩
    exact ⟨_, List.mem_map.mpr ⟨x, hx, rfl⟩, decide_eq_true rfl⟩
theorem kv_new {L : List (Int × Nat)} {t : Int} {n : Nat} (h : t ∉ L.map (·.1)) : putD (kvD L) (Sum.inl t) (D.int (n : Int)) = kvD (L ++ [(t, n)]) := by
  rw [putD_new]
  · unfold kvD
    rw [List.map_append]
    rfl
  · unfold kvD
    rw [List.map_map]
    intro z
    obtain ⟨x, hx, e⟩ := List.mem_map.mp z
    exact h (List.mem_map.mpr ⟨x, hx, Sum.inl.inj e⟩)
theorem dictOf_ref {S : Sto} {a : Addr} {kvs : List (Key × D)} (h : S a = some (.dK kvs)) : dictOf S (.ref a) = some kvs := by
  show (match S a with
    | some (.dK kvs) => some kvs
    | _ => none) = some kvs
  rw [h]
/-- the dict of what may stand behind each message -/
def StepsAt (S : Sto) (kvs : List (Key × D)) (rows : List (List Int)) (nx : Int → Int → Bool) : Prop := ∀ m ∈ recvL rows, ∃ l, getD' kvs (Sum.inl m) = some (.ref l) ∧ S l = some (.lst (intsD (nxG rows nx m)))
theorem StepsAt.keep {S S' : Sto} {kvs : List (Key × D)} {rows : List (List Int)} {nx : Int → Int → Bool} (h : StepsAt S kvs rows nx) (k : SG S S') : StepsAt S' kvs rows nx := fun m hm => by
  obtain ⟨l, h1, h2⟩ := h m hm
  exact ⟨l, h1, k _ _ (fun z => z) h2⟩
theorem nxG_len (rows : List (List Int)) (nx : Int → Int → Bool) (m : Int) : (nxG rows nx m).length ≤ 24 := Nat.le_trans (List.length_filter_le ..) (recvL_len rows)
theorem w_isStep {rows : List (List Int)} {many most : Nat} {m t : Int} {S : Sto} {R : DK} (hG : Good many most rows) (hm : m ∈ recvL rows) (ht : t ∈ recvL rows) (h : R (.bl (stepB rows m t)) S) : dFn 3 B_is_step_5234 [tripsD rows, .int m, .int t] S R := by
  obtain ⟨_, p, k, p', k', h1, h2, e⟩ := hap_trip hG hm
  refine ⟨_, rfl, _, rfl, _, Sum.inl t, _, rfl, rfl, trips_get ht, _, rfl, _, rfl, _, Sum.inl m, _, rfl, rfl, trips_get hm, ?_⟩
  rw [e]
  refine ⟨_, 1, _, rfl, rfl, rfl, rfl, ?_⟩
  refine w_sbM (s := (p', k')) hG ht ?_
  rw [step_at h2] at h
  exact h
theorem SG.rem {S S1 : Sto} {p : Addr} (h : SG S S1) (n : S p = Option.none) : SG S (S1.rem p) := fun a o na e => by
  unfold Sto.rem
  rw [if_neg fun z => by rw [z, n] at e; cases e]
  exact h a o na e
theorem w_steps {rows : List (List Int)} {many most : Nat} {S : Sto} {R : DK} (hG : Good many most rows) (q : ∀ kvs S', SG S S' → StepsAt S' kvs rows (stepB rows) → R (.dct kvs) S') : dFn 3 B_zigzag_steps_bb25 [tripsD rows] S R := by
  have rlen := recvL_len rows
  refine ⟨_, rfl, _, rfl, fun p np => ⟨fun i S' => i ≤ (recvL rows).length ∧ SG S S' ∧ ∃ as : List Addr, as.length = i ∧ S' p = some (.dK (((recvL rows).zip as).map fun x => ((Sum.inl x.1 : Key), D.ref x.2))) ∧ ∀ (j : Nat) (m : Int) (a : Addr), (recvL rows)[j]? = some m → as[j]? = some a → a ≠ p ∧ S' a = some (.lst (intsD (nxG rows (stepB rows) m))), ⟨Nat.zero_le _, .new np, [], rfl, ?_, fun j m a _ h => nomatch h⟩, fun _ _ _ _ => True.intro, ?_, ?_⟩⟩
  · rw [Sto.same, List.zip_nil_right]
    rfl
  · rintro i d S1 hd ⟨hi0, sg1, as, la, hp, has⟩
    have hd : (((recvL rows).map fun m => ((Sum.inl m : Key), tripD rows m)).map fun kv => kD kv.1)[i]? = some d := hd
    rw [trips_keys, List.getElem?_map] at hd
    obtain ⟨m, hm, rfl⟩ := Option.map_eq_some_iff.mp hd
    have hi := (List.getElem?_eq_some_iff.mp hm).1
    have hmem := List.mem_of_getElem? hm
    dsimp only [dgName, dYes]
    refine goT ?_
    refine ⟨_, rfl, _, rfl, _, rfl, lc_mapE (recvL rows) D.int (trips_keys rows) (fun t => if stepB rows m t = true then some (D.int t) else none) (by omega) (fun _ _ => True.intro) (fun t ht S2 sg K Kn hk hn => turn_n ⟨_, rfl, _, rfl, _, rfl, rfl, w_isStep hG hmem ht ⟨_, rfl, iteB (fun e => ⟨_, rfl, hk _ (if_pos e) _ (.refl _)⟩) (fun e => hn ?_ _ (.refl _))⟩⟩) fun a S2 na sg2 ha => ?_⟩
    · have e : stepB rows m t = false := e
      show (if stepB rows m t = true then _ else _) = _
      rw [e]
      rfl
    · rw [fm_iteB] at ha
      have hp2 := sg2 _ _ (fun z => z) hp
      have nap : a ≠ p := fun z => by rw [z, hp] at na; cases na
      have lz : ((recvL rows).zip as) = ((recvL rows).take i).zip as := by
        have e1 : (recvL rows) = (recvL rows).take i ++ (recvL rows).drop i := (List.take_append_drop i _).symm
        have e2 : as = as ++ [] := (List.append_nil _).symm
        conv => lhs; rw [e1, e2]
        rw [List.zip_append (by rw [List.length_take, la]; omega), List.zip_nil_right, List.append_nil]
      refine ⟨_, Sum.inl m, rfl, hp2, ?_, hi, SG.keepP np sg1 sg2, as ++ [a], by rw [List.length_append, la]; rfl, ?_, ?_⟩
      · rw [List.length_map, List.length_zip]
        omega
      · rw [Sto.same, putD_new]
        · have e1 : (recvL rows) = (recvL rows).take i ++ (recvL rows).drop i := (List.take_append_drop i _).symm
          have e3 : (recvL rows).drop i = m :: (recvL rows).drop (i + 1) := by
            rw [List.drop_eq_getElem_cons hi]
            rw [(List.getElem?_eq_some_iff.mp hm).2]
          have e4 : (recvL rows).zip (as ++ [a]) = ((recvL rows).take i).zip as ++ [(m, a)] := by
            conv => lhs; rw [e1, e3]
            rw [List.zip_append (by rw [List.length_take, la]; omega), List.zip_cons_cons, List.zip_nil_right]
          rw [e4, lz, List.map_append]
          rfl
        · rw [lz, List.map_map]
          intro z
          obtain ⟨x, hx, e⟩ := List.mem_map.mp z
          have e : x.1 = m := Sum.inl.inj e
          obtain ⟨j, hj⟩ := List.getElem?_of_mem hx
          obtain ⟨h1, _⟩ := List.getElem?_zip_eq_some.mp hj
          rw [e, List.getElem?_take] at h1
          split at h1
          · rename_i hji
            obtain ⟨g1, g2⟩ := List.getElem?_eq_some_iff.mp h1
            obtain ⟨g3, g4⟩ := List.getElem?_eq_some_iff.mp hm
            have := (List.getElem_inj (h₀ := g1) (h₁ := g3) (recvL_nodup rows)).mp (g2.trans g4.symm)
            omega
          · cases h1
      · intro j m' a' h1 h2
        by_cases z : j < as.length
        · rw [List.getElem?_append_left z] at h2
          obtain ⟨n1, n2⟩ := has j m' a' h1 h2
          exact ⟨n1, (Sto.ne n1).trans (sg2 _ _ (fun z => z) n2)⟩
        · rw [List.getElem?_append_right (by omega)] at h2
          have hj0 : j - as.length = 0 := by
            have := (List.getElem?_eq_some_iff.mp h2).1
            simp at this
            omega
          rw [hj0] at h2
          cases h2
          have : j = i := by omega
          subst this
          obtain rfl := Option.some.inj (hm.symm.trans h1)
          refine ⟨nap, (Sto.ne nap).trans ?_⟩
          rw [ha]
          rfl
  · rintro S1 ⟨hi0, sg1, as, la, hp, has⟩
    have hlen : as.length = (recvL rows).length := by
      rw [la]
      show (((recvL rows).map fun m => ((Sum.inl m : Key), tripD rows m)).map fun kv => kD kv.1).length = _
      rw [List.length_map, List.length_map]
    refine ⟨_, hp, q _ _ (SG.rem (p := p) sg1 (by exact np)) fun m hm => ?_⟩
    obtain ⟨j, hj⟩ := List.getElem?_of_mem hm
    have hjl := (List.getElem?_eq_some_iff.mp hj).1
    have ha := List.getElem?_eq_getElem (l := as) (i := j) (by omega)
    obtain ⟨n1, n2⟩ := has j m _ hj ha
    refine ⟨as[j]'(by omega), ?_, ?_⟩
    · refine getD_map (κ := fun x : Int × Addr => (Sum.inl x.1 : Key)) (v := fun x => D.ref x.2) (x := (m, as[j]'(by omega))) ?_ (List.mem_of_getElem? (List.getElem?_zip_eq_some.mpr ⟨hj, ha⟩))
      have : ((recvL rows).zip as).map (fun x : Int × Addr => (Sum.inl x.1 : Key)) = (recvL rows).map (Sum.inl : Int → Key) := by
        have h2 : ((recvL rows).zip as).map Prod.fst = recvL rows := List.map_fst_zip (by omega)
        conv => rhs; rw [← h2]
        rw [List.map_map]
        rfl
      rw [this]
      exact recv_ndK rows
    · unfold Sto.rem
      rw [if_neg n1]
      exact n2
theorem w_dists {rows : List (List Int)} {many most : Nat} {nx : Int → Int → Bool} {kvs : List (Key × D)} {s : Nat × Nat} {S : Sto} {R : DK} (hG : Good many most rows) (hS : StepsAt S kvs rows nx)
    (q : ∀ d L S', SG S S' → S d = none → S' d = some (.dK (kvD L)) → Dist rows nx (rbB rows s) L → R (.ref d) S') : dFn 8 B_distances_to_ec2b [tripsD rows, .dct kvs, stD s] S R := by
  have rlen := recvL_len rows
  dsimp only [dFn, B_distances_to_ec2b]
  intro d nd
  have sg0 : SG S (S.put d (.dK [])) := .new nd
  have hd0 : (S.put d (.dK [])) d = some (.dK (kvD (lvD rows nx (rbB rows s) 0))) := Sto.same
  generalize S.put d (.dK []) = S0 at sg0 hd0 ⊢
  refine ⟨_, rfl, _, rfl, lc_mapE (recvL rows) D.int (trips_keys rows) (fun m => if rbB rows s m = true then some (D.int m) else none) (by omega) (fun _ _ => True.intro) (fun m hm S2 sg K Kn hk hn => turn_n ⟨_, rfl, _, rfl, _, Sum.inl m, _, rfl, rfl, trips_get hm, _, rfl, rfl, w_rbM hG hm ⟨_, rfl, iteB (fun e => ⟨_, rfl, hk _ (if_pos e) _ (.refl _)⟩) (fun e => hn ?_ _ (.refl _))⟩⟩) fun f S1 nf sg1 hf => ?_⟩
  · have e : rbB rows s m = false := e
    show (if rbB rows s m = true then _ else _) = _
    rw [e]
    rfl
  rw [fm_iteB] at hf
  have hf : S1 f = some (.lst (intsD (lvF rows nx (rbB rows s) (lvD rows nx (rbB rows s) 0) 0))) := hf
  have hd1 := sg1 _ _ (fun z => z) hd0
  have sg01 := sg0.trans sg1
  dsimp only
  refine ⟨fun n env S' => ∃ (c : Nat) (f : Addr) (x6 : Option D), env = [some (tripsD rows), some (.dct kvs), some (stD s), some (.ref d), some (.int ((c + 1 : Nat) : Int)), some (.ref f), x6, none] ∧ SG S S' ∧ S' d = some (.dK (kvD (lvD rows nx (rbB rows s) c))) ∧ S' f = some (.lst (intsD (lvF rows nx (rbB rows s) (lvD rows nx (rbB rows s) c) c))) ∧ n = 24 - (lvD rows nx (rbB rows s) c).length, ⟨_, 0, f, _, rfl, sg01, hd1, hf, rfl⟩, ?_⟩
  rintro n env S2 ⟨c, f, x6, rfl, sg2, hd2, hf2, hn⟩
  obtain ⟨lm1, lm2⟩ := lv_mem (rows := rows) (nx := nx) (base := rbB rows s) (fun _ _ _ _ => True.intro) c
  have fnd := lvF_nd (rows := rows) (nx := nx) (base := rbB rows s) c
  have hsucc : lvD rows nx (rbB rows s) (c + 1) = lvD rows nx (rbB rows s) c ++ (lvF rows nx (rbB rows s) (lvD rows nx (rbB rows s) c) c).map fun m => (m, c + 1) := rfl
  have l24 := lv_len (rows := rows) (nx := nx) (base := rbB rows s) (c + 1)
  have hfin : lvF rows nx (rbB rows s) (lvD rows nx (rbB rows s) c) c = [] → Dist rows nx (rbB rows s) (lvD rows nx (rbB rows s) c) := dist_of
  generalize hF : lvF rows nx (rbB rows s) (lvD rows nx (rbB rows s) c) c = F at *
  generalize hL : lvD rows nx (rbB rows s) c = L at *
  refine ⟨_, rfl, _, seqOf_lst hf2, ?_⟩
  cases F with
  | nil => exact goF ⟨_, rfl, q d L S2 sg2 nd hd2 (hfin rfl)⟩
  | cons m0 F0 =>
    generalize hFF : m0 :: F0 = F at *
    have hne : (intsD F).isEmpty = false := by rw [← hFF]; rfl
    rw [hne]
    refine goT ?_
    have fd : f ≠ d := fun z => by rw [z, hd2] at hf2; cases hf2
    refine ⟨_, rfl, _, ⟨_, hf2, rfl⟩, fun i env S' => i ≤ F.length ∧ ∃ x6 : Option D, env = [some (tripsD rows), some (.dct kvs), some (stD s), some (.ref d), some (.int ((c + 1 : Nat) : Int)), some (.ref f), x6, none] ∧ SG S S' ∧ S' f = some (.lst (intsD F)) ∧ S' d = some (.dK (kvD (L ++ (F.take i).map fun m => (m, c + 1)))), ⟨Nat.zero_le _, _, rfl, sg2, hf2, by rw [hd2]; show _ = some (Ob.dK (kvD (L ++ []))); rw [List.append_nil]⟩, fun i env S' _ h => ?_, ?_, ?_⟩
    · obtain ⟨_, _, _, _, h, _⟩ := h
      exact h
    · rintro i e env S3 he ⟨hi0, x6, rfl, sg3, hf3, hd3⟩
      have he : (intsD F)[i]? = some e := he
      unfold intsD at he
      rw [List.getElem?_map] at he
      obtain ⟨m, hm, rfl⟩ := Option.map_eq_some_iff.mp he
      have hi := (List.getElem?_eq_some_iff.mp hm).1
      have tk := take_map hm
      refine ⟨_, rfl, _, rfl, _, rfl, d, _, Sum.inl m, rfl, rfl, hd3, ?_, hi, _, rfl, SG.keepP nd sg3 (.refl _), (Sto.ne fd).trans hf3, ?_⟩
      · unfold kvD
        rw [List.length_map, List.length_append, List.length_map, List.length_take]
        rw [hsucc, List.length_append, List.length_map] at l24
        omega
      · rw [Sto.same, kv_new, tk, List.map_append, List.append_assoc]
        · rfl
        · rw [List.map_append, List.map_map]
          intro z
          rcases List.mem_append.mp z with z | z
          · obtain ⟨⟨m', n'⟩, h1, e⟩ := List.mem_map.mp z
            have e : m' = m := e
            subst e
            have h2 := (lm1 _ _).mp h1
            have h3 := (lm2 m').mp (List.mem_of_getElem? hm)
            have := h2.2.unique h3
            omega
          · obtain ⟨m', h1, e⟩ := List.mem_map.mp z
            have e : m' = m := e
            subst e
            obtain ⟨j, hj⟩ := List.getElem?_of_mem h1
            rw [List.getElem?_take] at hj
            split at hj
            · rename_i hji
              obtain ⟨g1, g2⟩ := List.getElem?_eq_some_iff.mp hj
              obtain ⟨g3, g4⟩ := List.getElem?_eq_some_iff.mp hm
              have := (List.getElem_inj (h₀ := g1) (h₁ := g3) fnd).mp (g2.trans g4.symm)
              omega
            · cases hj
    · rintro env S3 ⟨hi0, x6, rfl, sg3, hf3, hd3⟩
      have hd3 : S3 d = some (.dK (kvD (L ++ (F.take (intsD F).length).map fun m => (m, c + 1)))) := hd3
      rw [intsD_len, List.take_length, ← hsucc] at hd3
      refine ⟨_, rfl, ?_⟩
      refine ⟨_, rfl, _, rfl, lc_mapE (recvL rows) D.int (trips_keys rows) (fun m => if (!decide (m ∈ (lvD rows nx (rbB rows s) (c + 1)).map (·.1)) && ((nxG rows nx m).map fun t => decide (t ∈ (lvD rows nx (rbB rows s) (c + 1)).map (·.1))).any id) = true then some (D.int m) else none) (by omega) (fun _ _ => True.intro) (fun m hm S4 sg4 K Kn hk hn => turn_n ?_) fun f' S4 nf' sg4 hf' => ?_⟩
      · have hd4 := sg4 _ _ (fun z => z) hd3
        obtain ⟨l, hl1, hl2⟩ := hS m hm
        have hl4 := sg4 _ _ (fun z => z) (sg3 _ _ (fun z => z) hl2)
        refine ⟨_, rfl, _, rfl, _, Sum.inl m, dictOf_ref hd4, rfl, _, rfl, ?_⟩
        rw [kv_in, xor_tt]
        refine iteB (fun e1 => ?_) (fun e1 => ?_)
        · refine ⟨_, rfl, _, rfl, _, Sum.inl m, _, rfl, rfl, hl1, _, ⟨_, hl4, rfl⟩, lc_mapE (nxG rows nx m) D.int rfl (fun t => some (D.bl (decide (t ∈ (lvD rows nx (rbB rows s) (c + 1)).map (·.1))))) (by have := nxG_len rows nx m; omega) (fun S' sg => sg _ _ (fun z => z) hl4) (fun t ht S5 sg5 K' Kn' hk' _ => turn_y ⟨_, rfl, _, rfl, _, Sum.inl t, dictOf_ref (sg5 _ _ (fun z => z) hd4), rfl, ?_⟩) fun b S5 nb sg5 hb => ?_⟩
          · rw [kv_in, xor_ff]
            exact hk' _ rfl _ (.refl _)
          · rw [fm_map] at hb
            refine ⟨b, (nxG rows nx m).map fun t => decide (t ∈ (lvD rows nx (rbB rows s) (c + 1)).map (·.1)), rfl, by rw [hb, List.map_map]; rfl, _, rfl, iteB (fun e2 => ?_) (fun e2 => ?_)⟩
            · exact ⟨_, rfl, hk _ (if_pos (by rw [e1, Bool.true_and]; exact e2)) _ sg5⟩
            · refine hn ?_ _ sg5
              have e2 : (((nxG rows nx m).map fun t => decide (t ∈ (lvD rows nx (rbB rows s) (c + 1)).map (·.1))).any id) = false := e2
              show (if _ = true then _ else _) = _
              rw [e2, Bool.and_false]
              rfl
        · refine hn ?_ _ (.refl _)
          show (if _ = true then _ else _) = _
          rw [e1, Bool.false_and]
          rfl
      · rw [fm_iteB] at hf'
        have ec : ¬ (c + 1 = 0) := by omega
        refine ⟨24 - (lvD rows nx (rbB rows s) (c + 1)).length, ?_, c + 1, f', _, rfl, sg3.trans sg4, sg4 _ _ (fun z => z) hd3, ?_, rfl⟩
        · rw [hsucc, List.length_append, List.length_map] at l24 ⊢
          have : 0 < F.length := by rw [← hFF]; exact Nat.succ_pos _
          omega
        · rw [hf']
          unfold lvF
          rw [if_neg ec]
          rfl
end Sv
set_option maxHeartbeats 400000
set_option autoImplicit false
set_option maxHeartbeats 400000
set_option autoImplicit false
namespace Sv
open PySem PySem.Spec PyProof.Rows L2
theorem sb_iff {rows : List (List Int)} {s : Nat × Nat} {m : Int} : sbB rows m s = true ↔ ∃ k, hap rows m = some (s.1, k) ∧ s.2 ≤ k := by
  unfold sbB
  constructor
  · intro h
    split at h
    · rename_i p k e
      rw [Bool.and_eq_true, decide_eq_true_iff, decide_eq_true_iff] at h
      exact ⟨k, by rw [e, h.1], h.2⟩
    · cases h
  · rintro ⟨k, h1, h2⟩
    rw [h1]
    show (decide (s.1 = s.1) && decide (s.2 ≤ k)) = true
    rw [decide_eq_true rfl, decide_eq_true h2]
    rfl
end Sv
set_option maxHeartbeats 400000
set_option autoImplicit false
namespace Sv
open PySem PySem.Spec PyProof.Rows L2
def chX (i n : Nat) (cs : List (List (Nat × Nat))) : List (List (Nat × Nat)) := cs.flatMap fun c => (List.range n).map fun k => c ++ [(i, k)]
def chU (rows : List (List Int)) : Nat → List (List (Nat × Nat))
  | 0 => [[]]
  | i + 1 => chU rows i ++ chX i ((rows.getD i []).count 0 + 2) (chU rows i)
theorem chX_len {i n B : Nat} (h : n ≤ B) (cs : List (List (Nat × Nat))) : (chX i n cs).length ≤ cs.length * B := flat_le _ B cs fun c _ => by rw [List.length_map, List.length_range]; exact h
theorem chU_len {rows : List (List Int)} {B : Nat} (h : ∀ r ∈ rows, r.count 0 + 3 ≤ B) (h2 : 3 ≤ B) : ∀ i, (chU rows i).length ≤ B ^ i
  | 0 => Nat.le_refl _
  | i + 1 => by
    have ih := chU_len h h2 i
    have hc : (rows.getD i []).count 0 + 2 ≤ B - 1 := by
      have := getD_count (B := B - 1) (fun r hr => by have := h r hr; omega) (by omega) i
      exact this
    have h3 := chX_len (i := i) hc (chU rows i)
    show (chU rows i ++ _).length ≤ _
    rw [List.length_append, Nat.pow_succ]
    have h4 : (chU rows i).length * (B - 1) + (chU rows i).length = (chU rows i).length * B := by
      rw [← Nat.mul_succ]
      congr 1
      omega
    have h5 := Nat.mul_le_mul_right B ih
    omega
/-- not too many choices -/
def Wc (rows : List (List Int)) : Prop := ∃ B, 3 ≤ B ∧ B ≤ 1000 ∧ (∀ r ∈ rows, r.count 0 + 3 ≤ B) ∧ B ^ rows.length ≤ 70000
theorem Wc.of {a b : Nat} {rows : List (List Int)} (hG : Good a b rows) (hb : b ≤ 60) (h : (b + 3) ^ a ≤ 70000) : Wc rows := by
  refine ⟨b + 3, by omega, by omega, fun r hr => ?_, ?_⟩
  · obtain ⟨i, hi⟩ := List.getElem?_of_mem hr
    have h1 := (hG.row hi).1
    have h2 : r.count 0 ≤ r.length := List.count_le_length ..
    omega
  · exact Nat.le_trans (Nat.pow_le_pow_right (by omega) hG.len.2) h
theorem Wc.len {rows : List (List Int)} (h : Wc rows) (i : Nat) (hi : i ≤ rows.length) : (chU rows i).length ≤ 70000 := by
  obtain ⟨B, h2, _, hc, hB⟩ := h
  exact Nat.le_trans (chU_len hc h2 i) (Nat.le_trans (Nat.pow_le_pow_right (by omega) hi) hB)
end Sv
set_option maxHeartbeats 400000
set_option autoImplicit false
namespace Sv
open PySem PySem.Spec PyProof.Rows L2
theorem Dk.off {st cl rs : Addr} {n : Nat} {S : Sto} (h : Dk st cl rs n S) {f : Addr} {l : List D} (hf : S f = some (.lst l)) (ht : ∀ d ∈ l, ∃ xs, d = .tup xs) : f ≠ st ∧ f ≠ cl ∧ f ≠ rs := by
  obtain ⟨a1, a2, a3, cs, ws, t, tn, c0, cw, hs, hc, hw⟩ := h
  have go : ∀ (a : Addr) (d : D) (r : List D), S a = some (.lst (d :: r)) → (∀ xs, d ≠ .tup xs) → f ≠ a := fun a d r ha hd z => by
    subst z
    rw [ha] at hf
    cases hf
    obtain ⟨xs, e⟩ := ht d List.mem_cons_self
    exact hd xs e
  refine ⟨go _ _ _ hs (fun xs z => (nomatch z)), ?_, ?_⟩
  · obtain ⟨c, r, rfl⟩ := List.exists_cons_of_ne_nil (List.length_pos_iff.mp c0)
    exact go cl (.int c) (intsD r) hc (fun xs z => (nomatch z))
  · obtain ⟨c, r, rfl⟩ := List.exists_cons_of_ne_nil (List.length_pos_iff.mp (cw ▸ c0))
    exact go rs (.int c) (intsD r) hw (fun xs z => (nomatch z))
end Sv
set_option maxHeartbeats 1000000
set_option autoImplicit false
namespace Sv
open PySem PySem.Spec PyProof.Rows L2
structure RWs (S0 S : Sto) (st big r W : Addr) (rows : List (List Int)) (o : List (Int × Int)) : Prop where
  sk : SK (DS' st big) S0 S
  hr : S r = some (.lst (rowsD rows))
  hW : S W = some (.lst (o.map pairD))
theorem RWs.keep {S0 S S' : Sto} {st big al r W : Addr} {rows : List (List Int)} {o : List (Int × Int)} (h : RWs S0 S st big r W rows o) (k : SK (DS' st big) S S') (n1 : r ≠ st ∧ r ≠ big ∧ r ≠ al) (n2 : W ≠ st ∧ W ≠ big ∧ W ≠ al) : RWs S0 S' st big r W rows o :=
  ⟨h.sk.trans k, k _ _ (nDS n1) h.hr, k _ _ (nDS n2) h.hW⟩
theorem RWs.keepG {S0 S S' : Sto} {st big r W : Addr} {rows : List (List Int)} {o : List (Int × Int)} (h : RWs S0 S st big r W rows o) (k : SG S S') : RWs S0 S' st big r W rows o :=
  ⟨h.sk.trans k.sk, k _ _ (fun z => z) h.hr, k _ _ (fun z => z) h.hW⟩
end Sv
set_option maxHeartbeats 400000
set_option autoImplicit false
set_option maxHeartbeats 400000
set_option autoImplicit false
namespace Sv
open PySem PySem.Spec PyProof.Rows L2
theorem Zk.pos {rows : List (List Int)} {t : Nat × Nat} : ∀ {ms : List Int} {s : Nat × Nat}, Zk rows s t ms → 0 < t.2
  | [], s, ⟨h1, h2⟩ => Nat.lt_of_le_of_lt (Nat.zero_le _) h2
  | m :: ms, s, ⟨h1, h2, u, h3, h4⟩ => h4.pos
theorem cutI_from {ms : List Int} {i : Nat} (h : i ≤ ms.length) : cutD (intsD ms) (some (i : Int)) none = intsD (ms.drop i) := by
  rw [cutD_from (by rw [intsD_len]; exact h)]
  unfold intsD
  rw [List.map_drop]
end Sv
set_option maxHeartbeats 400000
set_option autoImplicit false
set_option maxHeartbeats 400000
set_option autoImplicit false
namespace Sv
open PySem PySem.Spec PyProof.Rows L2
def keyS (s : Nat × Nat) : Nat := s.1 * 64 + s.2
theorem keyS_inj {s t : Nat × Nat} (hs : s.2 < 64) (ht : t.2 < 64) (h : keyS s = keyS t) : s = t := by
  obtain ⟨a, b⟩ := s
  obtain ⟨c, d⟩ := t
  unfold keyS at h
  have h : a * 64 + b = c * 64 + d := h
  have hs : b < 64 := hs
  have ht : d < 64 := ht
  have : a = c := by omega
  subst this
  have : b = d := by omega
  rw [this]
def ZzE (rows : List (List Int)) (a b : Nat × Nat) : Prop := ∃ ms, Zz rows a b ms
structure PairZ (rows : List (List Int)) (ss : List (Nat × Nat)) (a b : Nat × Nat) : Prop where
  one : a ∈ ss
  two : b ∈ ss
  zz : ZzE rows a b
  least : ∀ a' ∈ ss, ∀ b' ∈ ss, ZzE rows a' b' → keyS a < keyS a' ∨ (a = a' ∧ keyS b ≤ keyS b')
theorem PairZ.unique {rows : List (List Int)} {ss : List (Nat × Nat)} {a b a' b' : Nat × Nat} (hb : ∀ s ∈ ss, s.1 < 64 ∧ s.2 < 64) (h : PairZ rows ss a b) (g : PairZ rows ss a' b') : a = a' ∧ b = b' := by
  rcases h.least a' g.one b' g.two g.zz with z | ⟨z, z1⟩
  · rcases g.least a h.one b h.two h.zz with y | ⟨y, _⟩
    · omega
    · rw [y] at z; omega
  · rcases g.least a h.one b h.two h.zz with y | ⟨_, y1⟩
    · rw [z] at y; omega
    · exact ⟨z, keyS_inj (hb _ h.two).2 (hb _ g.two).2 (by omega)⟩
def lineD (c : List Nat) : D := .tup [.str "line", cutD' c]
def zigD (a b : Nat × Nat) (ms : List Int) : D := .tup [.str "zigzag", stD a, stD b, .tup (intsD ms)]
end Sv
set_option maxHeartbeats 400000
set_option autoImplicit false
set_option maxHeartbeats 400000
set_option autoImplicit false
namespace Sv
open PySem PySem.Spec PyProof.Rows L2
inductive VD (rows : List (List Int)) (ss : List (Nat × Nat)) : D → Prop
  | line : (∃ L, Thru rows ss L) → VD rows ss (lineD (upL rows (lowL rows ss)))
  | zig {a b : Nat × Nat} {ms : List Int} : (¬ ∃ L, Thru rows ss L) → PairZ rows ss a b → FindZ rows a b (some ms) → VD rows ss (zigD a b ms)
theorem VD.unique {rows : List (List Int)} {ss : List (Nat × Nat)} (hb : ∀ s ∈ ss, s.1 < 64 ∧ s.2 < 64) {v w : D} (h : VD rows ss v) (g : VD rows ss w) : v = w := by
  cases h with
  | line h =>
    cases g with
    | line _ => rfl
    | zig n _ _ => exact absurd h n
  | zig n h1 h2 =>
    cases g with
    | line g => exact absurd g n
    | zig _ g1 g2 =>
      obtain ⟨rfl, rfl⟩ := h1.unique hb g1
      have := h2.unique g2
      cases this
      rfl
end Sv
set_option maxHeartbeats 800000
set_option autoImplicit false
set_option maxHeartbeats 800000
set_option autoImplicit false
set_option maxHeartbeats 400000
namespace Sv
open PySem L2
/-- the states that can be deleted -/
def delU (rows : List (List Int)) (us : List (Int × Int)) : List (Int × Int) := (allU rows rows.length).filter fun x => decide (x.2 < ((((prs rows)[x.1.toNat]?).getD 0 : Nat) : Int)) && decide (x ∉ us)
end Sv
set_option maxHeartbeats 400000
namespace Sv
open PySem L2
theorem SG.none {S S' : Sto} {d : Addr} (h : SG S S') (n : S' d = none) : S d = none := by
  cases e : S d with
  | none => rfl
  | some o => rw [h _ _ (fun z => z) e] at n; cases n
end Sv
set_option maxHeartbeats 400000
namespace Sv
open PySem L2
/-- the history goes on -/
def Ext' (rows rows' : List (List Int)) : Prop := rows.length = rows'.length ∧ ∀ (i : Nat) (r r' : List Int), rows[i]? = some r → rows'[i]? = some r' → r <+: r'
theorem Ext'.refl (rows : List (List Int)) : Ext' rows rows := ⟨rfl, fun i r r' h1 h2 => by rw [h1] at h2; cases h2; exact List.prefix_rfl⟩
theorem Ext'.trans {a b c : List (List Int)} (x : Ext' a b) (y : Ext' b c) : Ext' a c := ⟨x.1.trans y.1, fun i r r' h1 h2 => by
  have hi : i < b.length := by rw [← x.1]; exact (List.getElem?_eq_some_iff.mp h1).1
  exact (x.2 i r _ h1 (List.getElem?_eq_getElem hi)).trans (y.2 i _ r' (List.getElem?_eq_getElem hi) h2)⟩
theorem Ext'.row {rows rows' : List (List Int)} (x : Ext' rows rows') {i : Nat} {r : List Int} (h : rows[i]? = some r) : ∃ r', rows'[i]? = some r' ∧ r <+: r' := by
  have hi : i < rows'.length := by rw [← x.1]; exact (List.getElem?_eq_some_iff.mp h).1
  exact ⟨_, List.getElem?_eq_getElem hi, x.2 i r _ h (List.getElem?_eq_getElem hi)⟩
theorem hap_inv {rows : List (List Int)} {e : Int} {p k : Nat} (h : hap rows e = some (p, k)) : ∃ row i, rows[p]? = some row ∧ row[i]? = some e ∧ k = (row.take i).count 0 := by
  rcases spot_hap (e := e) (rs := rows) (p := 0) with ⟨_, z⟩ | ⟨p', row, z1, z2, _, z4⟩
  · unfold hap at h
    rw [z] at h
    cases h
  · unfold hap at h
    rw [z4, Nat.zero_add] at h
    cases h
    have hk := List.idxOf_lt_length_iff.mpr z2
    exact ⟨row, row.idxOf e, z1, by rw [List.getElem?_eq_getElem hk]; exact congrArg some (List.getElem_idxOf hk), rfl⟩
theorem hap_le {rows : List (List Int)} {e : Int} {p k : Nat} {row : List Int} (h : hap rows e = some (p, k)) (hr : rows[p]? = some row) : k ≤ row.count 0 := by
  obtain ⟨row', i, h1, h2, rfl⟩ := hap_inv h
  rw [hr] at h1
  cases h1
  exact List.Sublist.count_le _ (List.take_sublist ..)
end Sv
set_option maxHeartbeats 400000
set_option maxHeartbeats 400000
set_option maxHeartbeats 400000
set_option maxHeartbeats 400000
namespace Sv
open PySem L2
theorem GF.of {S : Sto} {st big t f : Addr} {nm : List Int} {rows : List (List Int)} {o : List (Int × Int)} {u : Nat} {sh : Int} (h : GS S st big t nm rows o u sh) (n : S f = none) : GF S t f := by
  obtain ⟨N, O, h1, h2, h3, h4, h5, h6⟩ := h
  refine ⟨fun z => (by rw [z, n] at h1; cases h1), fun N2 O2 r s e => ?_⟩
  rw [h1] at e
  cases e
  exact ⟨fun z => (by rw [← z, n] at h2; cases h2), fun z => (by rw [← z, n] at h3; cases h3)⟩
theorem GF.keep {S S' : Sto} {P : Addr → Prop} {st big t f : Addr} {nm : List Int} {rows : List (List Int)} {o : List (Int × Int)} {u : Nat} {sh : Int} (h : GS S st big t nm rows o u sh) (g : GF S t f) (k : SK (DP st big) S S') : GF S' t f := by
  obtain ⟨N, O, h1, h2, h3, h4, h5, h6⟩ := h
  refine ⟨g.1, fun N2 O2 r s e => ?_⟩
  rw [k _ _ (nDP h6) h1] at e
  cases e
  exact g.2 _ _ _ _ h1
end Sv
set_option maxHeartbeats 400000
set_option maxHeartbeats 400000
namespace Sv
open PySem L2
/-- the row without the saves that d names; n saves stood before it -/
def thin (d : Nat → Bool) : Nat → List Int → List Int
  | _, [] => []
  | n, e :: r => if e = 0 then (if d (n + 1) = true then thin d (n + 1) r else 0 :: thin d (n + 1) r) else e :: thin d n r
/-- the kept ones among the saves n + 1 .. n + m -/
def keptN (d : Nat → Bool) (n m : Nat) : List Nat := ((List.range m).map fun i => n + 1 + i).filter fun i => !d i
theorem keptN_succ (d : Nat → Bool) (n m : Nat) : keptN d n (m + 1) = (if d (n + 1) = true then [] else [n + 1]) ++ keptN d (n + 1) m := by
  unfold keptN
  rw [List.range_succ_eq_map, List.map_cons, List.filter_cons, List.map_map]
  have e : ((fun i => n + 1 + i) ∘ Nat.succ) = fun i => n + 1 + 1 + i := by
    funext i
    show n + 1 + (i + 1) = _
    omega
  rw [e]
  cases h : d (n + 1) with
  | true => simp [h]
  | false => simp [h]
theorem thin_mem {d : Nat → Bool} {e : Int} (he : e ≠ 0) : ∀ (n : Nat) (r : List Int), e ∈ thin d n r ↔ e ∈ r
  | _, [] => Iff.rfl
  | n, x :: r => by
    unfold thin
    by_cases z : x = 0
    · subst z
      rw [if_pos rfl]
      have : e ∈ (0 : Int) :: r ↔ e ∈ r := by
        rw [List.mem_cons]
        exact ⟨fun h => h.elim (fun h => absurd h he) id, .inr⟩
      rw [this]
      split
      · exact thin_mem he (n + 1) r
      · rw [List.mem_cons, thin_mem he (n + 1) r]
        exact ⟨fun h => h.elim (fun h => absurd h he) id, .inr⟩
    · rw [if_neg z, List.mem_cons, List.mem_cons, thin_mem he n r]
theorem idx_ne {x e : Int} {r : List Int} (h : ¬ x = e) : (x :: r).idxOf e = r.idxOf e + 1 := by
  rw [List.idxOf_cons, beq_false_of_ne h]
  rfl
/-- the saves before an event -/
theorem thin_idx {d : Nat → Bool} {e : Int} (he : e ≠ 0) : ∀ (n : Nat) (r : List Int), e ∈ r → ((thin d n r).take ((thin d n r).idxOf e)).count 0 = (keptN d n ((r.take (r.idxOf e)).count 0)).length
  | _, [], h => by cases h
  | n, x :: r, h => by
    unfold thin
    by_cases z : x = 0
    · subst z
      have hr : e ∈ r := (List.mem_cons.mp h).elim (fun h => absurd h he) id
      have ih := thin_idx (d := d) he (n + 1) r hr
      have i1 : ((0 : Int) :: r).idxOf e = r.idxOf e + 1 := idx_ne (fun z => he z.symm)
      rw [if_pos rfl, i1, List.take_succ_cons, List.count_cons_self, keptN_succ, List.length_append]
      cases hd : d (n + 1) with
      | true => rw [if_pos rfl, if_pos rfl, ih]; simp
      | false =>
        have i2 : ((0 : Int) :: thin d (n + 1) r).idxOf e = (thin d (n + 1) r).idxOf e + 1 := idx_ne (fun z => he z.symm)
        rw [if_neg Bool.false_ne_true, if_neg Bool.false_ne_true, i2, List.take_succ_cons, List.count_cons_self, ih]
        simp
        omega
    · rw [if_neg z]
      by_cases y : x = e
      · subst y
        rw [List.idxOf_cons_self, List.idxOf_cons_self]
        rfl
      · have hr : e ∈ r := (List.mem_cons.mp h).elim (fun h => absurd h.symm y) id
        have ih := thin_idx (d := d) he n r hr
        rw [idx_ne y, idx_ne y, List.take_succ_cons, List.take_succ_cons, List.count_cons_of_ne (by simpa using z), List.count_cons_of_ne (by simpa using z), ih]
/-- all rows without the saves that d names -/
def thinR (d : Nat → Nat → Bool) (rows : List (List Int)) : List (List Int) := rows.mapIdx fun p r => thin (d p) 0 r
theorem hap_thin {d : Nat → Nat → Bool} {rows : List (List Int)} {e : Int} (he : e ≠ 0) : hap (thinR d rows) e = (hap rows e).map fun x => (x.1, (keptN (d x.1) 0 x.2).length) := by
  have go : ∀ (rs : List (List Int)) (p : Nat), hapFrom e p (rs.mapIdx fun i r => thin (d (p + i)) 0 r) = (hapFrom e p rs).map fun x => (x.1, (keptN (d x.1) 0 x.2).length) := by
    intro rs
    induction rs with
    | nil => intro p; rfl
    | cons r rs ih =>
      intro p
      rw [List.mapIdx_cons]
      unfold hapFrom
      rw [Nat.add_zero]
      by_cases z : e ∈ r
      · rw [if_pos ((thin_mem he 0 r).mpr z), if_pos z, thin_idx he 0 r z]
        rfl
      · rw [if_neg (fun h => z ((thin_mem he 0 r).mp h)), if_neg z]
        have e2 : (fun (i : Nat) (r : List Int) => thin (d (p + (i + 1))) 0 r) = fun i r => thin (d (p + 1 + i)) 0 r := by
          funext i r
          rw [show p + (i + 1) = p + 1 + i by omega]
        rw [e2]
        exact ih (p + 1)
  have := go rows 0
  unfold thinR hap
  rw [← this]
  congr 2
  funext i r
  rw [Nat.zero_add]
end Sv
set_option maxHeartbeats 400000
namespace Sv
open PySem L2
theorem name_pos {nm : List Int} (hp : nm.Perm names24) {m : Int} (h : m ∈ nm) : 1 ≤ m := (names_mem.mp (hp.mem_iff.mp h)).1
/-- the numbers of the states that are kept, by their new numbers -/
def namesN (d : Nat → Bool) (m : Nat) : List Nat := 0 :: (keptN d 0 m ++ [m + 1])
theorem keptN_mem {d : Nat → Bool} {n m i : Nat} : i ∈ keptN d n m ↔ n + 1 ≤ i ∧ i ≤ n + m ∧ d i = false := by
  unfold keptN
  rw [List.mem_filter, List.mem_map]
  constructor
  · rintro ⟨⟨j, h1, rfl⟩, h2⟩
    have := List.mem_range.mp h1
    exact ⟨by omega, by omega, by simpa using h2⟩
  · rintro ⟨h1, h2, h3⟩
    exact ⟨⟨i - (n + 1), List.mem_range.mpr (by omega), by omega⟩, by rw [h3]; rfl⟩
theorem keptN_rise (d : Nat → Bool) (n m : Nat) : (keptN d n m).Pairwise (· < ·) := by
  unfold keptN
  refine List.Pairwise.filter _ (List.pairwise_map.mpr ((List.pairwise_lt_range (n := m)).imp fun h => ?_))
  omega
theorem namesN_rise (d : Nat → Bool) (m : Nat) : (namesN d m).Pairwise (· < ·) := by
  unfold namesN
  refine List.pairwise_cons.mpr ⟨fun x hx => ?_, List.pairwise_append.mpr ⟨keptN_rise d 0 m, List.pairwise_singleton _ _, fun x hx y hy => ?_⟩⟩
  · rcases List.mem_append.mp hx with z | z
    · have := keptN_mem.mp z; omega
    · rw [List.mem_singleton.mp z]; omega
  · have := keptN_mem.mp hx
    rw [List.mem_singleton.mp hy]
    omega
theorem keptN_take {d : Nat → Bool} {m k : Nat} (h : k ≤ m) : keptN d 0 k <+: keptN d 0 m := by
  refine ⟨((List.range (m - k)).map fun i => 0 + 1 + (k + i)).filter fun i => !d i, ?_⟩
  unfold keptN
  rw [← List.filter_append]
  congr 1
  have e : List.range m = List.range k ++ (List.range (m - k)).map (k + ·) := by
    conv => lhs; rw [show m = k + (m - k) by omega, List.range_add]
  rw [e, List.map_append, List.map_map]
  rfl
/-- an event stands before a kept state in both histories or in none -/
theorem kept_lt {d : Nat → Bool} {m k c n : Nat} (hk : k ≤ m) (h : (namesN d m)[c]? = some n) : k < n ↔ (keptN d 0 k).length < c := by
  have hpre := keptN_take (d := d) hk
  unfold namesN at h
  cases c with
  | zero =>
    cases h
    exact ⟨fun z => absurd z (Nat.not_lt_zero _), fun z => absurd z (Nat.not_lt_zero _)⟩
  | succ i =>
    rw [List.getElem?_cons_succ] at h
    rcases Nat.lt_or_ge i (keptN d 0 m).length with z | z
    · rw [List.getElem?_append_left z] at h
      rcases Nat.lt_or_ge i (keptN d 0 k).length with y | y
      · have e : (keptN d 0 k)[i]? = some n := by
          obtain ⟨t, ht⟩ := hpre
          rw [← ht, List.getElem?_append_left y] at h
          exact h
        have := keptN_mem.mp (List.mem_of_getElem? e)
        omega
      · obtain ⟨t, ht⟩ := hpre
        rw [← ht, List.getElem?_append_right y] at h
        have h1 : n ∈ t := List.mem_of_getElem? h
        have h2 := keptN_mem.mp (show n ∈ keptN d 0 m by rw [← ht]; exact List.mem_append.mpr (.inr h1))
        have h3 : n ∉ keptN d 0 k := fun w => by
          have pr := keptN_rise d 0 m
          rw [← ht] at pr
          exact Nat.lt_irrefl _ ((List.pairwise_append.mp pr).2.2 n w n h1)
        have h4 : ¬ n ≤ k := fun w => h3 (keptN_mem.mpr ⟨h2.1, by omega, h2.2.2⟩)
        omega
    · rw [List.getElem?_append_right z] at h
      have h2 : i - (keptN d 0 m).length = 0 := by
        have := (List.getElem?_eq_some_iff.mp h).1
        simp at this
        omega
      rw [h2] at h
      cases h
      have := hpre.length_le
      omega
end Sv
set_option maxHeartbeats 400000
namespace Sv
open PySem L2
theorem names_lt {d : Nat → Bool} {m c c' n n' : Nat} (h : (namesN d m)[c]? = some n) (h' : (namesN d m)[c']? = some n') (z : c < c') : n < n' := by
  obtain ⟨h1, h2⟩ := List.getElem?_eq_some_iff.mp h
  obtain ⟨h3, h4⟩ := List.getElem?_eq_some_iff.mp h'
  have := List.pairwise_iff_getElem.mp (namesN_rise d m) c c' h1 h3 z
  omega
theorem names_le {d : Nat → Bool} {m c c' n n' : Nat} (h : (namesN d m)[c]? = some n) (h' : (namesN d m)[c']? = some n') : c ≤ c' ↔ n ≤ n' := by
  constructor
  · intro z
    rcases Nat.lt_or_eq_of_le z with y | y
    · exact Nat.le_of_lt (names_lt h h' y)
    · subst y
      rw [h] at h'
      cases h'
      exact Nat.le_refl _
  · intro z
    rcases Nat.lt_or_ge c' c with y | y
    · have := names_lt h' h y; omega
    · exact y
/-- a line of the smaller history and the line that it names -/
structure Led (d : Nat → Nat → Bool) (rows : List (List Int)) (a b : List Nat) : Prop where
  la : a.length = rows.length
  lb : b.length = rows.length
  at' : ∀ (p : Nat) (row : List Int), rows[p]? = some row → ∃ c n, a[p]? = some c ∧ b[p]? = some n ∧ (namesN (d p) (row.count 0))[c]? = some n
theorem row_of {rows : List (List Int)} {p : Nat} (h : p < rows.length) : ∃ row, rows[p]? = some row := ⟨_, List.getElem?_eq_getElem h⟩
theorem Led.cons {d : Nat → Nat → Bool} {rows : List (List Int)} {a b : List Nat} (h : Led d rows a b) : ConsL (thinR d rows) a ↔ ConsL rows b := by
  have key : ∀ {e : Int} {p k : Nat}, e ≠ 0 → hap rows e = some (p, k) → hap (thinR d rows) e = some (p, (keptN (d p) 0 k).length) := fun {e p k} he h => by
    rw [hap_thin he, h]
    rfl
  have lt : ∀ {e : Int} {p k c n : Nat}, hap rows e = some (p, k) → a[p]? = some c → b[p]? = some n → (k < n ↔ (keptN (d p) 0 k).length < c) := fun {e p k c n} h1 h2 h3 => by
    obtain ⟨row, _, hr, _, _⟩ := hap_inv h1
    obtain ⟨c', n', h4, h5, h6⟩ := h.at' p row hr
    rw [h2] at h4
    rw [h3] at h5
    cases h4
    cases h5
    exact kept_lt (hap_le h1 hr) h6
  constructor
  · intro hc m p k p' k' c c' hm h1 h2 h3 h4 h5
    have ap : ∀ {q : Nat} {x : Nat}, b[q]? = some x → ∃ y, a[q]? = some y := fun {q x} z => ⟨_, List.getElem?_eq_getElem (by rw [h.la, ← h.lb]; exact (List.getElem?_eq_some_iff.mp z).1)⟩
    obtain ⟨y, hy⟩ := ap h3
    obtain ⟨y', hy'⟩ := ap h4
    exact (lt h1 hy h3).mpr (hc m p _ p' _ y y' hm (key (by omega) h1) (key (by omega) h2) hy hy' ((lt h2 hy' h4).mp h5))
  · intro hc m p k p' k' c c' hm h1 h2 h3 h4 h5
    have bp : ∀ {q : Nat} {x : Nat}, a[q]? = some x → ∃ y, b[q]? = some y := fun {q x} z => ⟨_, List.getElem?_eq_getElem (by rw [h.lb, ← h.la]; exact (List.getElem?_eq_some_iff.mp z).1)⟩
    obtain ⟨y, hy⟩ := bp h3
    obtain ⟨y', hy'⟩ := bp h4
    rw [hap_thin (by omega)] at h1 h2
    obtain ⟨⟨q, j⟩, g1, g2⟩ := Option.map_eq_some_iff.mp h1
    obtain ⟨⟨q', j'⟩, g3, g4⟩ := Option.map_eq_some_iff.mp h2
    cases g2
    cases g4
    exact (lt g1 h3 hy).mp (hc m _ j _ j' y y' hm g1 g3 hy hy' ((lt g3 h4 hy').mpr h5))
theorem Led.le {d : Nat → Nat → Bool} {rows : List (List Int)} {a b a' b' : List Nat} (h : Led d rows a b) (g : Led d rows a' b') (hl : LeL b b') : LeL a a' := fun i x y h1 h2 => by
  have hi : i < rows.length := by rw [← h.la]; exact (List.getElem?_eq_some_iff.mp h1).1
  obtain ⟨row, hr⟩ := row_of hi
  obtain ⟨c, n, e1, e2, e3⟩ := h.at' i row hr
  obtain ⟨c', n', e4, e5, e6⟩ := g.at' i row hr
  rw [h1] at e1
  rw [h2] at e4
  cases e1
  cases e4
  exact (names_le e3 e6).mpr (hl i n n' e2 e5)
end Sv
set_option maxHeartbeats 400000
set_option maxHeartbeats 800000
set_option autoImplicit false
set_option maxHeartbeats 400000
namespace Sv
open PySem L2
/-- which saves the smaller history lacks -/
def dOf (rows : List (List Int)) (us : List (Int × Int)) (p n : Nat) : Bool := decide (((p : Int), (n : Int)) ∈ delU rows us)
end Sv
set_option maxHeartbeats 400000
set_option maxHeartbeats 400000
namespace Sv
open PySem L2
def NamesAt (S : Sto) (rows : List (List Int)) (us : List (Int × Int)) (rs : List Addr) : Prop := ∀ (p : Nat) (r : Addr) (row : List Int), rs[p]? = some r → rows[p]? = some row → S r = some (.lst (natD (namesN (dOf rows us p) (row.count 0))))
theorem NamesAt.keep {S S' : Sto} {rows : List (List Int)} {us : List (Int × Int)} {rs : List Addr} (h : NamesAt S rows us rs) (k : SG S S') : NamesAt S' rows us rs := fun p r row h1 h2 => k _ _ (fun z => z) (h p r row h1 h2)
end Sv
set_option maxHeartbeats 400000
set_option maxHeartbeats 400000
set_option maxHeartbeats 400000
namespace Sv
open PySem L2
def freshR (rows : List (List Int)) : List (List Int) := rows.map fun r => r ++ [0]
theorem Grown.fresh {c : Nat} {nm : List Int} {rows : List (List Int)} {o : List (Int × Int)} {u k : Nat} (h : Grown c nm rows o u k) : Grown c nm (freshR rows) o u (k + rows.length) := by
  have go : ∀ i, i ≤ rows.length → Grown c nm ((rows.take i).map (fun r => r ++ [0]) ++ rows.drop i) o u (k + i) := by
    intro i
    induction i with
    | zero => intro _; exact h
    | succ i ih =>
      intro hi
      have hr : rows[i]? = some rows[i] := List.getElem?_eq_getElem hi
      have g := ih (by omega)
      have hl : ((rows.take i).map (fun r => r ++ [0])).length = i := by rw [List.length_map, List.length_take]; omega
      have hd : rows.drop i = rows[i] :: rows.drop (i + 1) := List.drop_eq_getElem_cons hi
      have hat : ((rows.take i).map (fun r => r ++ [0]) ++ rows.drop i)[i]? = some rows[i] := by
        rw [List.getElem?_append_right (by omega), hl, Nat.sub_self, hd]
        rfl
      have g2 := g.save hat
      have e : ((rows.take i).map (fun r => r ++ [0]) ++ rows.drop i).set i (rows[i] ++ [0]) = (rows.take (i + 1)).map (fun r => r ++ [0]) ++ rows.drop (i + 1) := by
        rw [take_map hr, List.map_append, List.set_append_right _ _ (by omega), hl, Nat.sub_self, hd, List.append_assoc]
        rfl
      rw [e] at g2
      exact g2
  have := go rows.length (Nat.le_refl _)
  rw [List.take_length, List.drop_length, List.append_nil] at this
  exact this
theorem Good.fresh {many most : Nat} {rows : List (List Int)} (h : Good many most rows) : Good many (most + many) (freshR rows) := by
  have hl := h.len
  obtain ⟨c, nm, o, u, k, h1, h2, h3, h4, h5⟩ := h
  exact ⟨c, nm, o, u, k + rows.length, h1, h2, h3, h4.fresh, by omega⟩
end Sv
set_option maxHeartbeats 400000
set_option maxHeartbeats 400000
namespace Sv
open PySem L2
section
variable {rows : List (List Int)} {ord : List Nat} {na : List Int}
/-- the new numbers of processes -/
def sgN (ord : List Nat) (fs : List Int) : List Int := fs.map fun f => ((ord.idxOf f.toNat : Nat) : Int)
end
end Sv
set_option maxHeartbeats 400000
set_option maxHeartbeats 400000
set_option maxHeartbeats 400000
set_option maxHeartbeats 400000
set_option maxHeartbeats 400000
set_option maxHeartbeats 400000
set_option maxHeartbeats 400000
set_option maxHeartbeats 800000
set_option autoImplicit false
namespace Sv
open PySem PySem.Spec PyProof.Rows L2
abbrev LetR := Nat × Nat × Nat × Nat × Int
def ltD (x : LetR) : List D := [.int (x.1 : Int), .int (x.2.1 : Int), .int (x.2.2.1 : Int), .int (x.2.2.2.1 : Int), .int x.2.2.2.2]
structure LetS (S : Sto) (f : Addr) (as : List Addr) (Ls : List LetR) : Prop where
  len : as.length = Ls.length
  fx : S f = some (.lst (as.map D.ref))
  at' : ∀ (k : Nat) (a : Addr) (x : LetR), as[k]? = some a → Ls[k]? = some x → S a = some (.lst (ltD x))
  off : ∀ a ∈ as, a ≠ f
theorem LetS.keep {S S' : Sto} {f : Addr} {as : List Addr} {Ls : List LetR} (h : LetS S f as Ls) (sg : SG S S') : LetS S' f as Ls := ⟨h.len, sg _ _ (fun z => z) h.fx, fun k a x h1 h2 => sg _ _ (fun z => z) (h.at' k a x h1 h2), h.off⟩
end Sv
set_option maxHeartbeats 800000
set_option autoImplicit false
set_option maxHeartbeats 800000
set_option autoImplicit false
set_option maxHeartbeats 800000
set_option autoImplicit false
set_option maxHeartbeats 800000
set_option autoImplicit false
set_option maxHeartbeats 800000
set_option autoImplicit false
set_option maxHeartbeats 1000000
set_option autoImplicit false
set_option maxHeartbeats 1000000
set_option autoImplicit false
namespace Sv
open PySem PySem.Spec PyProof.Rows L2
/-- a step of a plan -/
inductive Act where
  | save (p : Nat) | send (p : Nat) | recv (p : Nat) (m : Int)
def actD : Act → D
  | .save p => .tup [.str "save", .int (p : Nat)]
  | .send p => .tup [.str "send", .int (p : Nat)]
  | .recv p m => .tup [.str "receive", .int (p : Nat), .int m]
/-- steps that can be done: what is on its way, how many are sent -/
inductive Plan (c : Nat) : List Act → List (Int × Int) → Nat → Prop
  | nil : Plan c [] [] 0
  | save {as : List Act} {o : List (Int × Int)} {u p : Nat} : Plan c as o u → p < c → Plan c (as ++ [.save p]) o u
  | send {as : List Act} {o : List (Int × Int)} {u p : Nat} : Plan c as o u → p < c → u < 24 → Plan c (as ++ [.send p]) (o ++ [((u : Int) + 1, (p : Int))]) (u + 1)
  | recv {as : List Act} {o : List (Int × Int)} {u p j : Nat} {m q : Int} : Plan c as o u → p < c → o[j]? = some (m, q) → q ≠ (p : Int) → Plan c (as ++ [.recv p m]) (o.eraseIdx j) u
theorem Plan.mem {c : Nat} {as : List Act} {o : List (Int × Int)} {u : Nat} (h : Plan c as o u) : ∀ x ∈ o, 1 ≤ x.1 ∧ x.1 ≤ (u : Int) := by
  induction h with
  | nil => exact fun x hx => (nomatch hx)
  | save _ _ ih => exact ih
  | send _ _ _ ih =>
    intro x hx
    rcases List.mem_append.mp hx with z | z
    · have := ih x z
      omega
    · rw [List.mem_singleton.mp z]
      dsimp only
      omega
  | recv _ _ _ _ ih => exact fun x hx => ih x (List.mem_of_mem_eraseIdx hx)
theorem Plan.u24 {c : Nat} {as : List Act} {o : List (Int × Int)} {u : Nat} (h : Plan c as o u) : u ≤ 24 := by
  induction h with
  | nil => exact Nat.zero_le _
  | save _ _ ih => exact ih
  | send _ _ z _ => omega
  | recv _ _ _ _ ih => exact ih
theorem Plan.olen {c : Nat} {as : List Act} {o : List (Int × Int)} {u : Nat} (h : Plan c as o u) : o.length ≤ u := by
  induction h with
  | nil => exact Nat.le_refl _
  | save _ _ ih => exact ih
  | send _ _ z ih => rw [List.length_append]; simp; omega
  | recv _ _ _ _ ih => exact Nat.le_trans (List.length_eraseIdx_le ..) ih
/-- a beginning of a plan is one -/
theorem Plan.take {c : Nat} {as : List Act} {o : List (Int × Int)} {u : Nat} (h : Plan c as o u) (n : Nat) : ∃ o' u', Plan c (as.take n) o' u' := by
  induction h with
  | nil => exact ⟨_, _, by rw [List.take_nil]; exact .nil⟩
  | @save as o u p g hp ih =>
    by_cases z : n ≤ as.length
    · rw [List.take_append_of_le_length z]; exact ih
    · rw [List.take_of_length_le (by rw [List.length_append]; simp; omega)]; exact ⟨_, _, .save g hp⟩
  | @send as o u p g hp hu ih =>
    by_cases z : n ≤ as.length
    · rw [List.take_append_of_le_length z]; exact ih
    · rw [List.take_of_length_le (by rw [List.length_append]; simp; omega)]; exact ⟨_, _, .send g hp hu⟩
  | @recv as o u p j m q g hp hj hq ih =>
    by_cases z : n ≤ as.length
    · rw [List.take_append_of_le_length z]; exact ih
    · rw [List.take_of_length_le (by rw [List.length_append]; simp; omega)]; exact ⟨_, _, .recv g hp hj hq⟩
def pL (p : Int × Int) : PyData := .list [.int p.1, .int p.2]
theorem pL_eqv (a b : Int × Int) : PyData.eqv (pL a) (pL b) = decide (a = b) := by
  obtain ⟨x, y⟩ := a
  obtain ⟨z, w⟩ := b
  have e : PyData.eqv (pL (x, y)) (pL (z, w)) = ((x == z) && ((y == w) && true)) := by simp only [pL, PyData.eqv, PyData.eqvAll]
  rw [e, Bool.and_true]
  by_cases h1 : x = z
  · by_cases h2 : y = w
    · subst h1 h2
      simp
    · have : (y == w) = false := beq_eq_false_iff_ne.mpr h2
      rw [this, Bool.and_false]
      exact (decide_eq_false fun q => h2 (Prod.mk.inj q).2).symm
  · have : (x == z) = false := beq_eq_false_iff_ne.mpr h1
    rw [this, Bool.false_and]
    exact (decide_eq_false fun q => h1 (Prod.mk.inj q).1).symm
theorem place_ofL {o : List (Int × Int)} {p : Int × Int} (h : p ∈ o) : ∃ j, SeqAt.dataPlace (o.map pL) (pL p) = some j ∧ o[j]? = some p := by
  induction o with
  | nil => cases h
  | cons a r ih =>
    unfold SeqAt.dataPlace at ih ⊢
    rw [List.map_cons, List.findIdx?_cons, pL_eqv]
    by_cases e : a = p
    · subst e
      exact ⟨0, by rw [decide_eq_true rfl]; rfl, rfl⟩
    · rw [decide_eq_false e]
      rcases List.mem_cons.mp h with z | z
      · exact absurd z.symm e
      · obtain ⟨j, h1, h2⟩ := ih z
        exact ⟨j + 1, by rw [h1]; rfl, h2⟩
theorem pL_plain : ∀ o : List (Int × Int), PyData.plainAll (o.map pL) = true
  | [] => rfl
  | p :: r => by
    have h := pL_plain r
    show (PyData.plain (pL p) && PyData.plainAll (r.map pL)) = true
    rw [h]
    rfl
theorem pL_lay : ∀ o : List (Int × Int), PyData.canLayAll0 (o.map pL) = true
  | [] => by simp [PyData.canLayAll0]
  | p :: r => by
    have h := pL_lay r
    simp only [List.map_cons, PyData.canLayAll0, h, pL, PyData.canLay0, Bool.and_self]
theorem pL_depth : ∀ o : List (Int × Int), PyData.depthAll (o.map pL) ≤ 1
  | [] => by simp [PyData.depthAll]
  | p :: r => by
    have h := pL_depth r
    have h2 : (pL p).depth = 1 := by simp [pL, PyData.depth, PyData.depthAll]
    simp only [List.map_cons, PyData.depthAll]
    omega
theorem shaped_lists (o : List (Int × Int)) : SeqAt.shaped (.list (o.map pL)) = true := by
  have h1 := pL_lay o
  have h2 := pL_depth o
  show (PyData.canLay0 (.list (o.map pL)) && decide (PyData.depth (.list (o.map pL)) ≤ 64)) = true
  simp only [PyData.canLay0, PyData.depth, h1, Bool.true_and]
  exact decide_eq_true (by omega)
/-- pairs that wait: where they stand -/
abbrev WS := List (Addr × Int × Int)
def wsD (ws : WS) : List D := ws.map fun w => .ref w.1
theorem pys_ws {S : Sto} : ∀ ws : WS, (∀ w ∈ ws, S w.1 = some (.lst [.int w.2.1, .int w.2.2])) → Pys S (wsD ws) ((ws.map (·.2)).map pL)
  | [], _ => .nil
  | w :: r, h => .cons (.lst (h w List.mem_cons_self) (.cons (.int _) (.cons (.int _) .nil))) (pys_ws r fun x hx => h x (List.mem_cons_of_mem _ hx))
structure PLs (S0 S : Sto) (st cl A W : Addr) (c : Nat) (as : List Act) (ws : WS) (u : Nat) : Prop where
  sk : SK (DS' st cl) S0 S
  hA : S A = some (.lst (as.map actD))
  hW : S W = some (.lst (wsD ws))
  pl : Plan c as (ws.map (·.2)) u
  it : ∀ w ∈ ws, S w.1 = some (.lst [.int w.2.1, .int w.2.2]) ∧ (w.1 ≠ st ∧ w.1 ≠ cl) ∧ w.1 ≠ A ∧ w.1 ≠ W
theorem PLs.keep {S0 S S' : Sto} {st cl A W : Addr} {c : Nat} {as : List Act} {ws : WS} {u : Nat} (h : PLs S0 S st cl A W c as ws u) (k : SK (DS' st cl) S S') (n1 : A ≠ st ∧ A ≠ cl) (n2 : W ≠ st ∧ W ≠ cl) : PLs S0 S' st cl A W c as ws u :=
  ⟨h.sk.trans k, k _ _ (nDR n1) h.hA, k _ _ (nDR n2) h.hW, h.pl, fun w hw => ⟨k _ _ (nDR (h.it w hw).2.1) (h.it w hw).1, (h.it w hw).2⟩⟩
theorem PLs.keepG {S0 S S' : Sto} {st cl A W : Addr} {c : Nat} {as : List Act} {ws : WS} {u : Nat} (h : PLs S0 S st cl A W c as ws u) (k : SG S S') : PLs S0 S' st cl A W c as ws u :=
  ⟨h.sk.trans k.sk, k _ _ (fun z => z) h.hA, k _ _ (fun z => z) h.hW, h.pl, fun w hw => ⟨k _ _ (fun z => z) (h.it w hw).1, (h.it w hw).2⟩⟩
theorem w_planK {st cl : Addr} {n c many : Nat} {S0 : Sto} {R : DK} (h : Dr st cl n S0) (h9 : n + 200 ≤ 1000000) (c1 : 1 ≤ c) (c6 : c ≤ 6) (m6 : many ≤ 40)
    (k : ∀ (as : List Act) (o : List (Int × Int)) (u : Nat) S', Plan c as o u → as.length = many → Dr st cl (n + 3 * many) S' → SK (DS' st cl) S0 S' → R (.tup (as.map actD)) S') : dFn 11 B_law_plan_4754 [.ref st, .int (c : Int), .int (many : Int)] S0 R := by
  refine ⟨rfl, fun A nA => ⟨rfl, fun W nW => ⟨rfl, _, rfl, .inl (.inl rfl), _, _, rfl, _, _, rfl, _, _, rfl, rfl, ?_⟩⟩⟩
  have AW : A ≠ W := fun z => by rw [← z, Sto.same] at nW; cases nW
  have nW0 : S0 W = none := by rw [Sto.ne (Ne.symm AW)] at nW; exact nW
  have Ad := h.fresh nA
  have Wd := h.fresh nW0
  have sg0 : SG S0 ((S0.put A (.lst [])).put W (.lst [])) := (SK.new nA).trans (.new nW)
  have v0 : PLs S0 ((S0.put A (.lst [])).put W (.lst [])) st cl A W c [] [] 0 := ⟨sg0.sk, (Sto.ne AW).trans Sto.same, Sto.same, .nil, fun w hw => (nomatch hw)⟩
  have D0 := h.keep sg0
  generalize (S0.put A (.lst [])).put W (.lst []) = S1 at v0 D0 ⊢
  refine ⟨_, rfl, _, rfl, by omega, by omega, ?_⟩
  refine ⟨fun i env S => i ≤ many ∧ ∃ (as : List Act) (ws : WS) (u : Nat) (x6 x7 x8 x9 x10 : Option D), env = [some (.ref st), some (.int (c : Int)), some (.int (many : Int)), some (.ref A), some (.ref W), some (.int (u : Int)), x6, x7, x8, x9, x10] ∧ Dr st cl (n + 3 * i) S ∧ PLs S0 S st cl A W c as ws u ∧ as.length = i,
    ⟨Nat.zero_le _, _, _, 0, _, _, _, _, _, rfl, D0, v0, rfl⟩, fun _ _ _ _ _ => True.intro, ?_, ?_⟩
  · rintro i d env S2 hd ⟨hi0, as, ws, u, x6, x7, x8, x9, x10, rfl, D2, v2, al⟩
    obtain ⟨hi', hd'⟩ := rg_at hd
    have hi : i < many := by omega
    rw [Int.zero_add] at hd'
    subst hd'
    have wl : ws.length ≤ 24 := by have := v2.pl.olen; have := v2.pl.u24; rw [List.length_map] at *; omega
    refine ⟨_, rfl, rfl, w_drawK D2 (by omega) (by decide) (by decide) fun way S3 hway D3 k3 => ?_⟩
    refine ⟨_, rfl, _, rfl, rfl, w_drawK D3 (by omega) (by omega) (by omega) fun p S4 hp D4 k4 => ?_⟩
    have v4 := (v2.keep k3 Ad Wd).keep k4 Ad Wd
    have hpc : p < c := by omega
    refine ⟨rfl, _, rfl, .inl (.inl rfl), _, _, rfl, _, _, rfl, rfl, ?_⟩
    refine ⟨_, rfl, _, ⟨_, v4.hW, rfl⟩, lc_mapE ws (fun w => D.ref w.1) rfl (fun x => if decide (x.2.2 = (p : Int)) = true then none else some (D.ref x.1)) (by omega) (fun S' sg => sg _ _ (fun z => z) v4.hW) (fun x hx S11 sg K Kn hk hn => turn_n ⟨_, rfl, _, 1, _, seqOf_lst (sg _ _ (fun z => z) (v4.it x hx).1), rfl, rfl, _, rfl, _, rfl, iteB (fun e => ⟨_, rfl, hk _ ?_ _ (.refl _)⟩) (fun e => hn ?_ _ (.refl _))⟩) fun y S5 ny sg5 hy => ?_⟩
    · rw [xor_tt, Bool.not_eq_true'] at e
      show (if decide (x.2.2 = (p : Int)) = true then none else some (D.ref x.1)) = _
      rw [e, if_neg Bool.false_ne_true]
    · rw [xor_tt, Bool.not_eq_false'] at e
      show (if decide (x.2.2 = (p : Int)) = true then none else some (D.ref x.1)) = _
      rw [e, if_pos rfl]
    rw [fm_not (fun w : Addr × Int × Int => D.ref w.1) (fun x : Addr × Int × Int => decide (x.2.2 = (p : Int)))] at hy
    generalize hcn : ws.filter (fun x => !decide (x.2.2 = (p : Int))) = can at hy
    have v5 := v4.keepG sg5
    have D5 := D4.keep sg5
    have y5 := D4.fresh ny
    have canm : ∀ x ∈ can, x ∈ ws ∧ x.2.2 ≠ (p : Int) := fun x hx => by
      rw [← hcn, List.mem_filter] at hx
      exact ⟨hx.1, fun z => by rw [decide_eq_true z] at hx; exact Bool.noConfusion hx.2⟩
    dsimp only [dgName]
    have hy : S5 y = some (.lst (wsD can)) := hy
    refine dIfS_by (fun b S' => Dr st cl (n + 3 * i + 2) S' ∧ PLs S0 S' st cl A W c as ws u ∧ S' y = some (.lst (wsD can)) ∧ (b = true → can ≠ [])) (fun K hK => ?_) (fun S' ⟨D6, v6, hy6, hne⟩ => ?_) (fun S' ⟨D6, v6, hy6, _⟩ => ?_)
    · refine ⟨_, rfl, _, rfl, iteB (fun _ => ⟨_, rfl, rfl, fun q nq => ?_⟩) (fun _ => hK _ _ ⟨D5.mono (by omega), v5, hy, (fun z => nomatch z)⟩)⟩
      have sgq : SG S5 (S5.put q (.lst [])) := .new nq
      refine ⟨_, _, .lst (sgq _ _ (fun z => z) hy) (pys_ws can fun w hw => sgq _ _ (fun z => z) (v5.it w (canm w hw).1).1), .lst Sto.same .nil, shaped_lists _, by decide +kernel, _, rfl, ?_⟩
      refine hK _ _ ⟨(D5.keep sgq).mono (by omega), v5.keepG sgq, sgq _ _ (fun z => z) hy, fun e z => ?_⟩
      rw [eqv_nil, xor_tt, z] at e
      cases e
    · -- a receipt
      have hne := hne rfl
      refine ⟨_, rfl, _, rfl, rfl, w_oneK D6 (by omega) (fun S' sk => seqOf_lst (sk _ _ (nDR y5) hy6)) (by unfold wsD; exact fun z => hne (List.map_eq_nil_iff.mp z)) (by
        unfold wsD
        rw [List.length_map, ← hcn]
        have := List.length_filter_le (fun x : Addr × Int × Int => !decide (x.2.2 = (p : Int))) ws
        omega) fun j x S7 hx D7 k7 => ?_⟩
      have v7 := v6.keep k7 Ad Wd
      unfold wsD at hx
      rw [List.getElem?_map] at hx
      obtain ⟨w, hw, rfl⟩ := Option.map_eq_some_iff.mp hx
      obtain ⟨hwm, hwq⟩ := canm w (List.mem_of_getElem? hw)
      obtain ⟨hwS, _⟩ := v7.it w hwm
      obtain ⟨j', hj1, hj2⟩ := place_ofL (o := ws.map (·.2)) (p := w.2) (List.mem_map_of_mem hwm)
      refine ⟨_, rfl, ⟨rfl, _, seqOf_lst v7.hW, noTup _⟩, _, rfl, W, _, _, _, _, j', rfl, rfl, v7.hW, pys_ws ws (fun w hw => (v7.it w hw).1), .lst hwS (.cons (.int _) (.cons (.int _) .nil)), pL_plain _, rfl, by simp [PyData.depth, PyData.depthAll], hj1, ?_⟩
      have hA8 : (S7.put W (.lst ((wsD ws).eraseIdx j'))) A = _ := (Sto.ne AW).trans v7.hA
      have hw8 : (S7.put W (.lst ((wsD ws).eraseIdx j'))) w.1 = _ := (Sto.ne (v7.it w hwm).2.2.2).trans hwS
      refine ⟨_, rfl, ⟨rfl, _, seqOf_lst hA8, noTup _⟩, _, rfl, _, rfl, _, 0, _, seqOf_lst hw8, rfl, rfl, rfl, A, _, _, rfl, rfl, hA8, by rw [List.length_map]; omega, ?_⟩
      refine ⟨hi, as ++ [.recv p w.2.1], ws.eraseIdx j', u, _, _, _, _, _, rfl, ((D7.put Wd).put Ad).mono (by omega), ⟨?_, ?_, ?_, ?_, ?_⟩, by rw [List.length_append, al]; rfl⟩
      · exact (v7.sk.own nW0).own nA
      · rw [Sto.same, List.map_append]; rfl
      · rw [Sto.ne (Ne.symm AW), Sto.same]; unfold wsD; rw [eraseIdx_map']
      · have e : (ws.eraseIdx j').map (·.2) = (ws.map (·.2)).eraseIdx j' := (eraseIdx_map' _ ws j').symm
        rw [e]
        exact .recv v7.pl hpc hj2 hwq
      · intro z hz
        have hz := List.mem_of_mem_eraseIdx hz
        obtain ⟨z1, z2, z3, z4⟩ := v7.it z hz
        exact ⟨(Sto.ne z3).trans ((Sto.ne z4).trans z1), z2, z3, z4⟩
    · refine dIfS_by (fun b S' => S' = S' ∧ Dr st cl (n + 3 * i + 2) S' ∧ PLs S0 S' st cl A W c as ws u ∧ (b = true → u < 24)) (fun K hK => ?_) (fun S' ⟨_, D7, v7, hu⟩ => ?_) (fun S' ⟨_, D7, v7, _⟩ => ?_)
      · refine ⟨_, rfl, _, rfl, iteB (fun _ => ⟨_, rfl, _, rfl, hK _ _ ⟨rfl, D6, v6, fun e => ?_⟩⟩) (fun _ => hK _ _ ⟨rfl, D6, v6, (fun z => nomatch z)⟩)⟩
        have e := of_decide_eq_true (show decide ((u : Int) < 24) = true from e)
        omega
      · -- a sending
        have hu := hu rfl
        refine ⟨_, rfl, _, rfl, ⟨rfl, _, seqOf_lst v7.hW, noTup _⟩, _, rfl, _, rfl, rfl, fun q nq => ?_⟩
        have sgq : SG S' (S'.put q (.lst [D.int ((u : Int) + 1), .int (p : Int)])) := .new nq
        have v8 := v7.keepG sgq
        have D8 := D7.keep sgq
        have q7 := D7.fresh nq
        have hq8 : (S'.put q (.lst [D.int ((u : Int) + 1), .int (p : Int)])) q = _ := Sto.same
        have qA : q ≠ A := fun z => by rw [z, v7.hA] at nq; cases nq
        have qW : q ≠ W := fun z => by rw [z, v7.hW] at nq; cases nq
        generalize S'.put q (.lst [D.int ((u : Int) + 1), .int (p : Int)]) = S8 at v8 D8 hq8 ⊢
        refine ⟨W, _, _, rfl, rfl, v8.hW, by unfold wsD; rw [List.length_map]; omega, ?_⟩
        have hA9 : (S8.put W (.lst (wsD ws ++ [D.ref q]))) A = _ := (Sto.ne AW).trans v8.hA
        refine ⟨_, rfl, ⟨rfl, _, seqOf_lst hA9, noTup _⟩, _, rfl, rfl, A, _, _, rfl, rfl, hA9, by rw [List.length_map]; omega, ?_⟩
        refine ⟨hi, as ++ [.send p], ws ++ [(q, (u : Int) + 1, (p : Int))], u + 1, _, _, _, _, _, rfl, ((D8.put Wd).put Ad).mono (by omega), ⟨?_, ?_, ?_, ?_, ?_⟩, by rw [List.length_append, al]; rfl⟩
        · exact (v8.sk.own nW0).own nA
        · rw [Sto.same, List.map_append]; rfl
        · rw [Sto.ne (Ne.symm AW), Sto.same]; unfold wsD; rw [List.map_append]; rfl
        · rw [List.map_append]
          exact .send v8.pl hpc hu
        · intro z hz
          rcases List.mem_append.mp hz with hz | hz
          · obtain ⟨z1, z2, z3, z4⟩ := v8.it z hz
            exact ⟨(Sto.ne z3).trans ((Sto.ne z4).trans z1), z2, z3, z4⟩
          · rw [List.mem_singleton.mp hz]
            exact ⟨(Sto.ne qA).trans ((Sto.ne qW).trans hq8), q7, qA, qW⟩
      · -- a save
        refine ⟨_, rfl, ⟨rfl, _, seqOf_lst v7.hA, noTup _⟩, _, rfl, rfl, A, _, _, rfl, rfl, v7.hA, by rw [List.length_map]; omega, ?_⟩
        refine ⟨hi, as ++ [.save p], ws, u, _, _, _, _, _, rfl, (D7.put Ad).mono (by omega), ⟨?_, ?_, ?_, ?_, ?_⟩, by rw [List.length_append, al]; rfl⟩
        · exact v7.sk.own nA
        · rw [Sto.same, List.map_append]; rfl
        · exact (Sto.ne (Ne.symm AW)).trans v7.hW
        · exact .save v7.pl hpc
        · intro z hz
          obtain ⟨z1, z2, z3, z4⟩ := v7.it z hz
          exact ⟨(Sto.ne z3).trans z1, z2, z3, z4⟩
  · rintro env S2 ⟨_, as, ws, u, x6, x7, x8, x9, x10, rfl, D2, v2, al⟩
    have hlen : (rgD 0 (many : Int).toNat).length = many := by rw [rg_len]; omega
    rw [show (⟨rgD 0 (many : Int).toNat, fun _ => True⟩ : Src).items.length = many from hlen] at D2 al
    refine ⟨_, rfl, _, _, rfl, seqOf_lst v2.hA, (noTup _).2, k as _ u S2 v2.pl al D2 v2.sk⟩
end Sv
set_option maxHeartbeats 1000000
set_option autoImplicit false
namespace Sv
open PySem PySem.Spec PyProof.Rows L2
inductive RK where
  | none | sent | always | rounds
/-- what a rule knows: how often it wanted a save, who is busy, the numbers -/
structure RSt where
  w : Nat
  bs : List Bool
  ns : List Int
def RSt.ok (st : RSt) (c : Nat) : Prop := st.bs.length = c ∧ st.ns.length = c
def rst0 (c : Nat) : RSt := ⟨0, List.replicate c false, List.replicate c 0⟩
theorem rst0_ok (c : Nat) : (rst0 c).ok c := ⟨List.length_replicate .., List.length_replicate ..⟩
def saveK : RK → Nat → RSt → RSt
  | .none, _, st => st
  | .sent, q, st => { st with bs := st.bs.set q false }
  | .always, q, st => { st with bs := st.bs.set q false }
  | .rounds, q, st => { st with ns := st.ns.set q (st.ns.getD q 0 + 1) }
def sendK : RK → Nat → RSt → RSt
  | .none, _, st => st
  | .sent, q, st => { st with bs := st.bs.set q true }
  | .always, q, st => { st with bs := st.bs.set q true }
  | .rounds, _, st => st
def noteK : RK → Nat → RSt → Option Int
  | .rounds, q, st => some (st.ns.getD q 0)
  | _, _, _ => none
def mustK : RK → Nat → Option Int → RSt → Bool
  | .none, _, _, _ => false
  | .sent, q, _, st => st.bs.getD q false
  | .always, q, _, st => st.bs.getD q false
  | .rounds, q, n, st => decide (st.ns.getD q 0 < n.getD 0)
def recvK : RK → Nat → Option Int → RSt → RSt
  | .none, _, _, st => st
  | .sent, q, _, st => if st.bs.getD q false = true then { st with w := st.w + 1, bs := st.bs.set q false } else st
  | .always, q, _, st => if st.bs.getD q false = true then { st with w := st.w + 1, bs := (st.bs.set q false).set q true } else { st with bs := st.bs.set q true }
  | .rounds, q, n, st => if st.ns.getD q 0 < n.getD 0 then { st with w := st.w + 1, ns := st.ns.set q (n.getD 0) } else st
def noteD : Option Int → D
  | none => .non
  | some i => .int i
theorem saveK_ok {k : RK} {q c : Nat} {st : RSt} (h : st.ok c) : (saveK k q st).ok c := by
  cases k <;> first | exact h | exact ⟨(List.length_set ..).trans h.1, h.2⟩ | exact ⟨h.1, (List.length_set ..).trans h.2⟩
theorem sendK_ok {k : RK} {q c : Nat} {st : RSt} (h : st.ok c) : (sendK k q st).ok c := by
  cases k <;> first | exact h | exact ⟨(List.length_set ..).trans h.1, h.2⟩
theorem ite_ok {P : Prop} [Decidable P] {a b : RSt} {c : Nat} (ha : a.ok c) (hb : b.ok c) : (if P then a else b).ok c := by split <;> assumption
theorem recvK_ok {k : RK} {q c : Nat} {n : Option Int} {st : RSt} (h : st.ok c) : (recvK k q n st).ok c := by
  cases k with
  | none => exact h
  | sent => exact ite_ok ⟨(List.length_set ..).trans h.1, h.2⟩ h
  | always => exact ite_ok ⟨(List.length_set ..).trans ((List.length_set ..).trans h.1), h.2⟩ ⟨(List.length_set ..).trans h.1, h.2⟩
  | rounds => exact ite_ok ⟨h.1, (List.length_set ..).trans h.2⟩ h
def BusyAt (S : Sto) (p b : Addr) (cn : Str) (c w : Nat) (bs : List Bool) : Prop := p ≠ b ∧ S p = some (.ins cn [("processes", .int (c : Nat)), ("wanted", .int (w : Nat)), ("busy", .ref b)]) ∧ S b = some (.lst (bs.map D.bl))
def NumAt (S : Sto) (p b : Addr) (c w : Nat) (ns : List Int) : Prop := p ≠ b ∧ S p = some (.ins "Rounds" [("processes", .int (c : Nat)), ("wanted", .int (w : Nat)), ("numbers", .ref b)]) ∧ S b = some (.lst (intsD ns))
def RuleAt (S : Sto) (p b : Addr) (c : Nat) : RK → RSt → Prop
  | .none, st => p = b ∧ S p = some (.ins "Rule" [("processes", .int (c : Nat)), ("wanted", .int (st.w : Nat))])
  | .sent, st => BusyAt S p b "SaveAfterSend" c st.w st.bs
  | .always, st => BusyAt S p b "SaveAlways" c st.w st.bs
  | .rounds, st => NumAt S p b c st.w st.ns
abbrev RP (p b : Addr) : Addr → Prop := fun a => a = p ∨ a = b
theorem BusyAt.keep {S S' : Sto} {P : Addr → Prop} {p b : Addr} {cn : Str} {c w : Nat} {bs : List Bool} (h : BusyAt S p b cn c w bs) (k : SK P S S') (n1 : ¬ P p) (n2 : ¬ P b) : BusyAt S' p b cn c w bs := ⟨h.1, k _ _ n1 h.2.1, k _ _ n2 h.2.2⟩
theorem NumAt.keep {S S' : Sto} {P : Addr → Prop} {p b : Addr} {c w : Nat} {bs : List Int} (h : NumAt S p b c w bs) (k : SK P S S') (n1 : ¬ P p) (n2 : ¬ P b) : NumAt S' p b c w bs := ⟨h.1, k _ _ n1 h.2.1, k _ _ n2 h.2.2⟩
theorem RuleAt.keep {S S' : Sto} {P : Addr → Prop} {p b : Addr} {c : Nat} {kk : RK} {st : RSt} (h : RuleAt S p b c kk st) (k : SK P S S') (n1 : ¬ P p) (n2 : ¬ P b) : RuleAt S' p b c kk st := by
  cases kk with
  | none => exact ⟨h.1, k _ _ n1 h.2⟩
  | sent => exact BusyAt.keep h k n1 n2
  | always => exact BusyAt.keep h k n1 n2
  | rounds => exact NumAt.keep h k n1 n2
theorem RuleAt.ex {S : Sto} {p b : Addr} {c : Nat} {kk : RK} {st : RSt} (h : RuleAt S p b c kk st) : ∃ cn fs, S p = some (.ins cn fs) := by
  cases kk with
  | none => exact ⟨_, _, h.2⟩
  | sent => exact ⟨_, _, h.2.1⟩
  | always => exact ⟨_, _, h.2.1⟩
  | rounds => exact ⟨_, _, h.2.1⟩
theorem RuleAt.b {S : Sto} {p b : Addr} {c : Nat} {kk : RK} {st : RSt} (h : RuleAt S p b c kk st) : ∃ o, S b = some o := by
  cases kk with
  | none => exact ⟨_, h.1 ▸ h.2⟩
  | sent => exact ⟨_, h.2.2⟩
  | always => exact ⟨_, h.2.2⟩
  | rounds => exact ⟨_, h.2.2⟩
theorem RuleAt.proc {S : Sto} {p b : Addr} {c : Nat} {kk : RK} {st : RSt} (h : RuleAt S p b c kk st) : ∃ cn fs, S p = some (.ins cn fs) ∧ cn ∈ (["Rule", "SaveAfterSend", "SaveAlways", "Rounds"] : List Str) ∧ fs.lookup ("processes" : Str) = some (.int (c : Nat)) := by
  cases kk with
  | none => exact ⟨_, _, h.2, .head _, rfl⟩
  | sent => exact ⟨_, _, h.2.1, .tail _ (.head _), rfl⟩
  | always => exact ⟨_, _, h.2.1, .tail _ (.tail _ (.head _)), rfl⟩
  | rounds => exact ⟨_, _, h.2.1, .tail _ (.tail _ (.tail _ (.head _))), rfl⟩
theorem bls_at {bs : List Bool} {q : Nat} (h : q < bs.length) : (bs.map D.bl)[q]? = some (.bl (bs.getD q false)) := by
  rw [List.getElem?_map, List.getElem?_eq_getElem h]
  show some (D.bl bs[q]) = _
  rw [List.getD_eq_getElem?_getD, List.getElem?_eq_getElem h]
  rfl
theorem ns_at {ns : List Int} {q : Nat} (h : q < ns.length) : (intsD ns)[q]? = some (.int (ns.getD q 0)) := by
  rw [List.getD_eq_getElem?_getD, List.getElem?_eq_getElem h]
  exact intsD_at (List.getElem?_eq_getElem h)
theorem bls_set (bs : List Bool) (q : Nat) (c : Bool) : (bs.map D.bl).set q (.bl c) = (bs.set q c).map D.bl := by rw [List.map_set]
theorem putW (a x v : D) (r : List (Str × D)) : putFD "wanted" v ((("processes" : Str), a) :: (("wanted" : Str), x) :: r) = (("processes" : Str), a) :: (("wanted" : Str), v) :: r := by
  unfold putFD
  rw [if_neg (by decide)]
  unfold putFD
  rw [if_pos rfl]
section
variable {S : Sto} {p b : Addr} {cn : Str} {c w q : Nat} {bs : List Bool} {R : DK}
theorem BusyAt.put (h : BusyAt S p b cn c w bs) (bs' : List Bool) : BusyAt (S.put b (.lst (bs'.map D.bl))) p b cn c w bs' := ⟨h.1, (Sto.ne h.1).trans h.2.1, Sto.same⟩
theorem w_sasSave (h : BusyAt S p b cn c w bs) (hm : cn ∈ (["SaveAfterSend", "SaveAlways"] : List Str)) (hq : q < bs.length) (k : ∀ S', BusyAt S' p b cn c w (bs.set q false) → SK (RP p b) S S' → R .non S') : dFn 2 B_SaveAfterSend__save_1876 [.ref p, .int (q : Nat)] S R := by
  refine ⟨_, rfl, p, cn, _, .ref b, rfl, h.2.1, hm, rfl, _, rfl, b, _, (q : Int), q, rfl, rfl, h.2.2, ixnN' (by rw [List.length_map]; exact hq), ?_⟩
  rw [bls_set]
  exact k _ (h.put _) (.put (.inr rfl))
theorem w_sasSend (h : BusyAt S p b cn c w bs) (hm : cn ∈ (["SaveAfterSend", "SaveAlways"] : List Str)) (hq : q < bs.length) (k : ∀ S', BusyAt S' p b cn c w (bs.set q true) → SK (RP p b) S S' → R .non S') : dFn 2 B_SaveAfterSend__send_b8d5 [.ref p, .int (q : Nat)] S R := by
  refine ⟨_, rfl, p, cn, _, .ref b, rfl, h.2.1, hm, rfl, _, rfl, b, _, (q : Int), q, rfl, rfl, h.2.2, ixnN' (by rw [List.length_map]; exact hq), ?_⟩
  rw [bls_set]
  exact k _ (h.put _) (.put (.inr rfl))
theorem w_sasRecv {nt : D} (h : BusyAt S p b cn c w bs) (hm : cn ∈ (["SaveAfterSend", "SaveAlways"] : List Str)) (hq : q < bs.length) (kt : bs.getD q false = true → ∀ S', BusyAt S' p b cn c (w + 1) (bs.set q false) → SK (RP p b) S S' → R (.bl true) S') (kf : bs.getD q false = false → R (.bl false) S) :
    dFn 4 B_SaveAfterSend__receive_3625 [.ref p, .int (q : Nat), nt] S R := by
  have hm4 : cn ∈ (["SaveAfterSend", "SaveAlways"] : List Str) := hm
  refine ⟨_, rfl, p, cn, _, .ref b, rfl, h.2.1, hm, rfl, _, rfl, _, (q : Int), _, seqOf_lst h.2.2, rfl, atI_nat (bls_at hq), ?_⟩
  refine ⟨_, rfl, _, rfl, iteB (fun e => ?_) (fun e => ?_)⟩
  · refine ⟨_, rfl, p, cn, _, (w : Int), rfl, h.2.1, hm, rfl, (1 : Int), _, rfl, h.2.1, rfl, ?_⟩
    have h2 : BusyAt (S.put p (.ins cn [("processes", .int (c : Nat)), ("wanted", .int ((w + 1 : Nat) : Int)), ("busy", .ref b)])) p b cn c (w + 1) bs := ⟨h.1, Sto.same, (Sto.ne (Ne.symm h.1)).trans h.2.2⟩
    have sk2 : SK (RP p b) S (S.put p (.ins cn [("processes", .int (c : Nat)), ("wanted", .int ((w + 1 : Nat) : Int)), ("busy", .ref b)])) := .put (.inl rfl)
    rw [putW]
    have e1 : (w : Int) + 1 = ((w + 1 : Nat) : Int) := by omega
    dsimp only
    rw [e1]
    generalize S.put p (.ins cn [("processes", .int (c : Nat)), ("wanted", .int ((w + 1 : Nat) : Int)), ("busy", .ref b)]) = S2 at h2 sk2 ⊢
    refine ⟨_, rfl, p, cn, _, .ref b, rfl, h2.2.1, hm, rfl, _, rfl, b, _, (q : Int), q, rfl, rfl, h2.2.2, ixnN' (by rw [List.length_map]; exact hq), ?_⟩
    rw [bls_set]
    refine ⟨_, rfl, ?_⟩
    rw [e]
    exact kt e _ (h2.put _) (sk2.trans (.put (.inr rfl)))
  · refine ⟨_, rfl, ?_⟩
    rw [e]
    exact kf e
end
end Sv
set_option maxHeartbeats 1000000
set_option autoImplicit false
namespace Sv
open PySem PySem.Spec PyProof.Rows L2
section
variable {S : Sto} {p b : Addr} {c w q : Nat} {bs : List Bool} {ns : List Int} {R : DK} {st : RSt}
theorem mS1 : ("SaveAfterSend" : Str) ∈ (["SaveAfterSend", "SaveAlways"] : List Str) := .head _
theorem mS2 : ("SaveAlways" : Str) ∈ (["SaveAfterSend", "SaveAlways"] : List Str) := .tail _ (.head _)
theorem w_alSave (h : BusyAt S p b "SaveAlways" c w bs) (hq : q < bs.length) (k : ∀ S', BusyAt S' p b "SaveAlways" c w (bs.set q false) → SK (RP p b) S S' → R .non S') : dFn 3 B_SaveAlways__save_ec49 [.ref p, .int (q : Nat)] S R := by
  refine ⟨p, _, _, rfl, h.2.1, .head _, _, rfl, rfl, w_sasSave h mS2 hq fun S' h' k' => ?_⟩
  exact k S' h' k'
theorem w_alSend (h : BusyAt S p b "SaveAlways" c w bs) (hq : q < bs.length) (k : ∀ S', BusyAt S' p b "SaveAlways" c w (bs.set q true) → SK (RP p b) S S' → R .non S') : dFn 3 B_SaveAlways__send_496d [.ref p, .int (q : Nat)] S R := by
  refine ⟨p, _, _, rfl, h.2.1, .head _, _, rfl, rfl, w_sasSend h mS2 hq fun S' h' k' => ?_⟩
  exact k S' h' k'
theorem w_alRecv {nt : D} (h : BusyAt S p b "SaveAlways" c w bs) (hq : q < bs.length) (kt : bs.getD q false = true → ∀ S', BusyAt S' p b "SaveAlways" c (w + 1) ((bs.set q false).set q true) → SK (RP p b) S S' → R (.bl true) S') (kf : bs.getD q false = false → ∀ S', BusyAt S' p b "SaveAlways" c w (bs.set q true) → SK (RP p b) S S' → R (.bl false) S') :
    dFn 5 B_SaveAlways__receive_2317 [.ref p, .int (q : Nat), nt] S R := by
  refine ⟨p, _, _, rfl, h.2.1, .head _, _, rfl, _, rfl, rfl, w_sasRecv h mS2 hq (fun e S' h' k' => ?_) fun e => ?_⟩
  · refine ⟨_, rfl, p, _, _, .ref b, rfl, h'.2.1, .head _, rfl, _, rfl, b, _, (q : Int), q, rfl, rfl, h'.2.2, ixnN' (by rw [List.length_map, List.length_set]; exact hq), ?_⟩
    rw [bls_set]
    exact ⟨_, rfl, kt e _ (h'.put _) (k'.trans (.put (.inr rfl)))⟩
  · refine ⟨_, rfl, p, _, _, .ref b, rfl, h.2.1, .head _, rfl, _, rfl, b, _, (q : Int), q, rfl, rfl, h.2.2, ixnN' (by rw [List.length_map]; exact hq), ?_⟩
    rw [bls_set]
    exact ⟨_, rfl, kf e _ (h.put _) (.put (.inr rfl))⟩
theorem NumAt.put (h : NumAt S p b c w ns) (ns' : List Int) : NumAt (S.put b (.lst (intsD ns'))) p b c w ns' := ⟨h.1, (Sto.ne h.1).trans h.2.1, Sto.same⟩
theorem w_roSave (h : NumAt S p b c w ns) (hq : q < ns.length) (k : ∀ S', NumAt S' p b c w (ns.set q (ns.getD q 0 + 1)) → SK (RP p b) S S' → R .non S') : dFn 2 B_Rounds__save_512a [.ref p, .int (q : Nat)] S R := by
  refine ⟨_, rfl, p, _, _, .ref b, rfl, h.2.1, .head _, rfl, _, rfl, b, _, q, _, rfl, rfl, h.2.2, ns_at hq, _, _, rfl, h.2.2, by rw [intsD_len]; exact hq, ?_⟩
  rw [intsD_set]
  exact k _ (h.put _) (.put (.inr rfl))
theorem w_roSend (h : NumAt S p b c w ns) (hq : q < ns.length) (k : R (.int (ns.getD q 0)) S) : dFn 2 B_Rounds__send_2628 [.ref p, .int (q : Nat)] S R := by
  exact ⟨_, rfl, p, _, _, .ref b, rfl, h.2.1, .head _, rfl, _, rfl, _, (q : Int), _, seqOf_lst h.2.2, rfl, atI_nat (ns_at hq), k⟩
theorem w_roRecv {n : Int} (h : NumAt S p b c w ns) (hq : q < ns.length) (kt : ns.getD q 0 < n → ∀ S', NumAt S' p b c (w + 1) (ns.set q n) → SK (RP p b) S S' → R (.bl true) S') (kf : ¬ ns.getD q 0 < n → R (.bl false) S) :
    dFn 4 B_Rounds__receive_9908 [.ref p, .int (q : Nat), .int n] S R := by
  refine ⟨_, rfl, _, rfl, p, _, _, .ref b, rfl, h.2.1, .head _, rfl, _, rfl, _, (q : Int), _, seqOf_lst h.2.2, rfl, atI_nat (ns_at hq), ?_⟩
  refine ⟨_, rfl, _, rfl, iteB (fun e => ?_) (fun e => ?_)⟩
  · have e' := of_decide_eq_true (show decide (ns.getD q 0 < n) = true from e)
    refine ⟨_, rfl, p, _, _, (w : Int), rfl, h.2.1, .head _, rfl, (1 : Int), _, rfl, h.2.1, rfl, ?_⟩
    have h2 : NumAt (S.put p (.ins "Rounds" [("processes", .int (c : Nat)), ("wanted", .int ((w + 1 : Nat) : Int)), ("numbers", .ref b)])) p b c (w + 1) ns := ⟨h.1, Sto.same, (Sto.ne (Ne.symm h.1)).trans h.2.2⟩
    have sk2 : SK (RP p b) S (S.put p (.ins "Rounds" [("processes", .int (c : Nat)), ("wanted", .int ((w + 1 : Nat) : Int)), ("numbers", .ref b)])) := .put (.inl rfl)
    rw [putW]
    have e1 : (w : Int) + 1 = ((w + 1 : Nat) : Int) := by omega
    dsimp only
    rw [e1]
    generalize S.put p (.ins "Rounds" [("processes", .int (c : Nat)), ("wanted", .int ((w + 1 : Nat) : Int)), ("numbers", .ref b)]) = S2 at h2 sk2 ⊢
    refine ⟨_, rfl, _, rfl, p, _, _, .ref b, rfl, h2.2.1, .head _, rfl, _, rfl, b, _, (q : Int), q, rfl, rfl, h2.2.2, ixnN' (by rw [intsD_len]; exact hq), ?_⟩
    rw [intsD_set]
    have ee : (decide (ns.getD q 0 < n)) = true := e
    refine ⟨_, rfl, ?_⟩
    show R (.bl (decide (ns.getD q 0 < n))) _
    rw [ee]
    exact kt e' _ (h2.put _) (sk2.trans (.put (.inr rfl)))
  · have ee : (decide (ns.getD q 0 < n)) = false := e
    refine ⟨_, rfl, ?_⟩
    show R (.bl (decide (ns.getD q 0 < n))) _
    rw [ee]
    exact kf (of_decide_eq_false ee)
abbrev Msave : List (Str × DRC) := [("Rule", dFn 2 B_Rule__save_1a8c), ("SaveAfterSend", dFn 2 B_SaveAfterSend__save_1876), ("SaveAlways", dFn 3 B_SaveAlways__save_ec49), ("Rounds", dFn 2 B_Rounds__save_512a)]
abbrev Msend : List (Str × DRC) := [("Rule", dFn 2 B_Rule__send_4f02), ("SaveAfterSend", dFn 2 B_SaveAfterSend__send_b8d5), ("SaveAlways", dFn 3 B_SaveAlways__send_496d), ("Rounds", dFn 2 B_Rounds__send_2628)]
abbrev Mrecv : List (Str × DRC) := [("Rule", dFn 3 B_Rule__receive_a200), ("SaveAfterSend", dFn 4 B_SaveAfterSend__receive_3625), ("SaveAlways", dFn 5 B_SaveAlways__receive_2317), ("Rounds", dFn 4 B_Rounds__receive_9908)]
theorem w_saveM {kk : RK} (h : RuleAt S p b c kk st) (ok : st.ok c) (hq : q < c) (k : ∀ S', RuleAt S' p b c kk (saveK kk q st) → SK (RP p b) S S' → R .non S') :
    ∃ cn r, (cn, r) ∈ Msave ∧ ∃ fs, S p = some (.ins cn fs) ∧ fs.lookup ("save" : Str) = none ∧ r [.ref p, .int (q : Nat)] S R := by
  cases kk with
  | none => exact ⟨_, _, .head _, _, h.2, rfl, k S h (.refl S)⟩
  | sent => exact ⟨_, _, .tail _ (.head _), _, h.2.1, rfl, w_sasSave h mS1 (by rw [ok.1]; exact hq) k⟩
  | always => exact ⟨_, _, .tail _ (.tail _ (.head _)), _, h.2.1, rfl, w_alSave h (by rw [ok.1]; exact hq) k⟩
  | rounds => exact ⟨_, _, .tail _ (.tail _ (.tail _ (.head _))), _, h.2.1, rfl, w_roSave h (by rw [ok.2]; exact hq) k⟩
theorem w_sendM {kk : RK} (h : RuleAt S p b c kk st) (ok : st.ok c) (hq : q < c) (k : ∀ S', RuleAt S' p b c kk (sendK kk q st) → SK (RP p b) S S' → R (noteD (noteK kk q st)) S') :
    ∃ cn r, (cn, r) ∈ Msend ∧ ∃ fs, S p = some (.ins cn fs) ∧ fs.lookup ("send" : Str) = none ∧ r [.ref p, .int (q : Nat)] S R := by
  cases kk with
  | none => exact ⟨_, _, .head _, _, h.2, rfl, k S h (.refl S)⟩
  | sent => exact ⟨_, _, .tail _ (.head _), _, h.2.1, rfl, w_sasSend h mS1 (by rw [ok.1]; exact hq) k⟩
  | always => exact ⟨_, _, .tail _ (.tail _ (.head _)), _, h.2.1, rfl, w_alSend h (by rw [ok.1]; exact hq) k⟩
  | rounds => exact ⟨_, _, .tail _ (.tail _ (.tail _ (.head _))), _, h.2.1, rfl, w_roSend h (by rw [ok.2]; exact hq) (k S h (.refl S))⟩
/-- what the note must be for the rule: a number for Rounds -/
def NoteOk : RK → Option Int → Prop
  | .rounds, n => n.isSome = true
  | _, _ => True
theorem w_recvM {kk : RK} {n : Option Int} (h : RuleAt S p b c kk st) (ok : st.ok c) (hq : q < c) (hn : NoteOk kk n) (k : ∀ S', RuleAt S' p b c kk (recvK kk q n st) → SK (RP p b) S S' → R (.bl (mustK kk q n st)) S') :
    ∃ cn r, (cn, r) ∈ Mrecv ∧ ∃ fs, S p = some (.ins cn fs) ∧ fs.lookup ("receive" : Str) = none ∧ r [.ref p, .int (q : Nat), noteD n] S R := by
  cases kk with
  | none => exact ⟨_, _, .head _, _, h.2, rfl, k S h (.refl S)⟩
  | sent =>
    refine ⟨_, _, .tail _ (.head _), _, h.2.1, rfl, w_sasRecv h mS1 (by rw [ok.1]; exact hq) (fun e S' h' k' => ?_) fun e => ?_⟩
    · have z := k S'
      unfold recvK mustK at z
      dsimp only at z
      rw [e, if_pos rfl] at z
      exact z h' k'
    · have z := k S
      unfold recvK mustK at z
      dsimp only at z
      rw [e, if_neg Bool.false_ne_true] at z
      exact z h (.refl S)
  | always =>
    refine ⟨_, _, .tail _ (.tail _ (.head _)), _, h.2.1, rfl, w_alRecv h (by rw [ok.1]; exact hq) (fun e S' h' k' => ?_) fun e S' h' k' => ?_⟩
    · have z := k S'
      unfold recvK mustK at z
      dsimp only at z
      rw [e, if_pos rfl] at z
      exact z h' k'
    · have z := k S'
      unfold recvK mustK at z
      dsimp only at z
      rw [e, if_neg Bool.false_ne_true] at z
      exact z h' k'
  | rounds =>
    obtain ⟨i, rfl⟩ := Option.isSome_iff_exists.mp hn
    refine ⟨_, _, .tail _ (.tail _ (.tail _ (.head _))), _, h.2.1, rfl, w_roRecv h (by rw [ok.2]; exact hq) (fun e S' h' k' => ?_) fun e => ?_⟩
    · have z := k S'
      unfold recvK mustK at z
      dsimp only at z
      rw [if_pos (show st.ns.getD q 0 < (some i).getD 0 from e), decide_eq_true (show st.ns.getD q 0 < (some i).getD 0 from e)] at z
      exact z h' k'
    · have z := k S
      unfold recvK mustK at z
      dsimp only at z
      rw [if_neg (show ¬ st.ns.getD q 0 < (some i).getD 0 from e), decide_eq_false (show ¬ st.ns.getD q 0 < (some i).getD 0 from e)] at z
      exact z h (.refl S)
theorem w_ruleInit {cn : Str} (hm : cn ∈ (["Rule", "SaveAfterSend", "SaveAlways", "Rounds"] : List Str)) (h : S p = some (.ins cn [])) (k : ∀ S', S' p = some (.ins cn [("processes", .int (c : Nat)), ("wanted", .int ((0 : Nat) : Int))]) → SK (fun a => a = p) S S' → R .non S') :
    dFn 2 B_Rule____init___2563 [.ref p, .int (c : Nat)] S R := by
  refine ⟨_, rfl, _, rfl, p, cn, _, rfl, h, hm, rfl, ?_⟩
  refine ⟨_, rfl, p, cn, _, rfl, Sto.same, hm, rfl, k _ ?_ ((SK.put (P := fun a => a = p) rfl).trans (SK.put (P := fun a => a = p) rfl))⟩
  rw [Sto.same]
  rfl
theorem putB (a x v : D) : putFD "busy" v [(("processes" : Str), a), (("wanted" : Str), x)] = [(("processes" : Str), a), (("wanted" : Str), x), (("busy" : Str), v)] := by
  unfold putFD
  rw [if_neg (by decide)]
  unfold putFD
  rw [if_neg (by decide)]
  rfl
theorem putN (a x v : D) : putFD "numbers" v [(("processes" : Str), a), (("wanted" : Str), x)] = [(("processes" : Str), a), (("wanted" : Str), x), (("numbers" : Str), v)] := by
  unfold putFD
  rw [if_neg (by decide)]
  unfold putFD
  rw [if_neg (by decide)]
  rfl
theorem w_sasInit {cn : Str} (hm : cn ∈ (["SaveAfterSend", "SaveAlways"] : List Str)) (c9 : c ≤ 1000) (h : S p = some (.ins cn [])) (k : ∀ b S', BusyAt S' p b cn c 0 (List.replicate c false) → SK (fun a => a = p) S S' → S b = none → R .non S') :
    dFn 3 B_SaveAfterSend____init___fcad [.ref p, .int (c : Nat)] S R := by
  have hm4 : cn ∈ (["Rule", "SaveAfterSend", "SaveAlways", "Rounds"] : List Str) := by
    cases hm with
    | head => exact .tail _ (.head _)
    | tail _ z => cases z with
      | head => exact .tail _ (.tail _ (.head _))
      | tail _ z => cases z
  refine ⟨p, cn, _, rfl, h, hm, _, rfl, rfl, w_ruleInit hm4 h fun S1 h1 k1 => ?_⟩
  refine ⟨rfl, fun q nq => ⟨_, rfl, _, Sto.same, by omega, by omega, by decide, fun b nb => ?_⟩⟩
  have pq : p ≠ q := fun z => by rw [← z, h1] at nq; cases nq
  have pb : p ≠ b := fun z => by rw [← z, Sto.ne pq, h1] at nb; cases nb
  have er : (List.replicate ((c : Nat) : Int).toNat [D.bl false]).flatten = (List.replicate c false).map D.bl := by
    rw [Int.toNat_natCast, flat_rep, List.map_replicate]
  rw [er]
  have h3 : ((S1.put q (.lst [D.bl false])).put b (.lst ((List.replicate c false).map D.bl))) p = _ := (Sto.ne pb).trans ((Sto.ne pq).trans h1)
  refine ⟨_, rfl, p, cn, _, rfl, h3, hm, rfl, ?_⟩
  rw [putB]
  have nbS : S1 b = none := by
    by_cases z : b = q
    · rw [z]; exact nq
    · rw [Sto.ne z] at nb; exact nb
  have nbS0 : S b = none := by
    cases z : S b with
    | none => rfl
    | some o => rw [k1 _ _ (Ne.symm pb) z] at nbS; cases nbS
  refine k b _ ⟨pb, Sto.same, (Sto.ne (Ne.symm pb)).trans Sto.same⟩ (k1.trans ((SK.new nq).trans ((SK.new nb).trans (.put rfl)))) nbS0
theorem w_roInit (c9 : c ≤ 1000) (h : S p = some (.ins "Rounds" [])) (k : ∀ b S', NumAt S' p b c 0 (List.replicate c 0) → SK (fun a => a = p) S S' → S b = none → R .non S') :
    dFn 3 B_Rounds____init___8e81 [.ref p, .int (c : Nat)] S R := by
  refine ⟨p, _, _, rfl, h, .head _, _, rfl, rfl, w_ruleInit (.tail _ (.tail _ (.tail _ (.head _)))) h fun S1 h1 k1 => ?_⟩
  refine ⟨rfl, fun q nq => ⟨_, rfl, _, Sto.same, by omega, by omega, by decide, fun b nb => ?_⟩⟩
  have pq : p ≠ q := fun z => by rw [← z, h1] at nq; cases nq
  have pb : p ≠ b := fun z => by rw [← z, Sto.ne pq, h1] at nb; cases nb
  have er : (List.replicate ((c : Nat) : Int).toNat [D.int 0]).flatten = intsD (List.replicate c 0) := by
    rw [Int.toNat_natCast, flat_rep]
    unfold intsD
    rw [List.map_replicate]
  rw [er]
  have h3 : ((S1.put q (.lst [D.int 0])).put b (.lst (intsD (List.replicate c 0)))) p = _ := (Sto.ne pb).trans ((Sto.ne pq).trans h1)
  refine ⟨_, rfl, p, _, _, rfl, h3, .head _, rfl, ?_⟩
  rw [putN]
  have nbS : S1 b = none := by
    by_cases z : b = q
    · rw [z]; exact nq
    · rw [Sto.ne z] at nb; exact nb
  have nbS0 : S b = none := by
    cases z : S b with
    | none => rfl
    | some o => rw [k1 _ _ (Ne.symm pb) z] at nbS; cases nbS
  refine k b _ ⟨pb, Sto.same, (Sto.ne (Ne.symm pb)).trans Sto.same⟩ (k1.trans ((SK.new nq).trans ((SK.new nb).trans (.put rfl)))) nbS0
def RK.name : RK → Str
  | .none => "none"
  | .sent => "sent"
  | .always => "always"
  | .rounds => "rounds"
/-- SK at a place that is new -/
theorem SK.newP {S S' : Sto} {p : Addr} {o : Ob} (np : S p = none) (k : SK (fun a => a = p) (S.put p o) S') : SG S S' := fun a u _ e => by
  have ap : a ≠ p := fun z => by rw [z, np] at e; cases e
  exact k a u ap ((Sto.ne ap).trans e)
theorem w_lawRule {kk : RK} (c9 : c ≤ 1000) (k : ∀ p b S', RuleAt S' p b c kk (rst0 c) → SG S S' → S p = none → S b = none → R (.ref p) S') : dFn 2 B_law_rule_b694 [.str kk.name, .int (c : Nat)] S R := by
  have nb : ∀ {p b : Addr} {o : Ob}, (S.put p o) b = none → S b = none := fun {p b o} h => by
    by_cases z : b = p
    · rw [z, Sto.same] at h; cases h
    · rw [Sto.ne z] at h; exact h
  cases kk with
  | none =>
    refine ⟨_, rfl, _, rfl, goT ⟨_, rfl, rfl, fun p np => w_ruleInit (.head _) Sto.same fun S' h' k' => ⟨rfl, k p p S' ⟨rfl, h'⟩ (SK.newP np k') np np⟩⟩⟩
  | sent =>
    refine ⟨_, rfl, _, rfl, goF ⟨_, rfl, _, rfl, goT ⟨_, rfl, rfl, fun p np => w_sasInit mS1 c9 Sto.same fun b S' h' k' nb' => ⟨rfl, k p b S' h' (SK.newP np k') np (nb nb')⟩⟩⟩⟩
  | always =>
    refine ⟨_, rfl, _, rfl, goF ⟨_, rfl, _, rfl, goF ⟨_, rfl, _, rfl, goT ⟨_, rfl, rfl, fun p np => w_sasInit mS2 c9 Sto.same fun b S' h' k' nb' => ⟨rfl, k p b S' h' (SK.newP np k') np (nb nb')⟩⟩⟩⟩⟩
  | rounds =>
    refine ⟨_, rfl, _, rfl, goF ⟨_, rfl, _, rfl, goF ⟨_, rfl, _, rfl, goF ⟨_, rfl, rfl, fun p np => w_roInit c9 Sto.same fun b S' h' k' nb' => ⟨rfl, k p b S' h' (SK.newP np k') np (nb nb')⟩⟩⟩⟩⟩
end
end Sv
set_option maxHeartbeats 1000000
set_option autoImplicit false
namespace Sv
open PySem PySem.Spec PyProof.Rows L2
/-- what stands after some steps -/
structure Run where
  st : RSt
  rows : List (List Int)
  notes : List (Option Int)
def app (rows : List (List Int)) (p : Nat) (vs : List Int) : List (List Int) := rows.set p (rows.getD p [] ++ vs)
def noteAt (r : Run) (m : Int) : Option Int := r.notes.getD (m - 1).toNat none
def stepK (k : RK) (r : Run) : Act → Run
  | .save p => ⟨saveK k p r.st, app r.rows p [0], r.notes⟩
  | .send p => ⟨sendK k p r.st, app r.rows p [((r.notes.length + 1 : Nat) : Int)], r.notes ++ [noteK k p r.st]⟩
  | .recv p m => ⟨recvK k p (noteAt r m) r.st, app r.rows p ((if mustK k p (noteAt r m) r.st = true then [0] else []) ++ [0 - m]), r.notes⟩
def run0 (c : Nat) : Run := ⟨rst0 c, List.replicate c [], []⟩
def runK (k : RK) (c : Nat) (as : List Act) : Run := as.foldl (stepK k) (run0 c)
theorem runK_snoc (k : RK) (c : Nat) (as : List Act) (a : Act) : runK k c (as ++ [a]) = stepK k (runK k c as) a := by
  unfold runK
  rw [List.foldl_append]
  rfl
theorem app_len (rows : List (List Int)) (p : Nat) (vs : List Int) : (app rows p vs).length = rows.length := List.length_set ..
theorem app_row {rows : List (List Int)} {p : Nat} {row : List Int} (h : rows[p]? = some row) (vs : List Int) : app rows p vs = rows.set p (row ++ vs) := by
  unfold app
  rw [List.getD_eq_getElem?_getD, h]
  rfl
theorem app_app {rows : List (List Int)} {p : Nat} (hp : p < rows.length) (vs ws : List Int) : app (app rows p vs) p ws = app rows p (vs ++ ws) := by
  unfold app
  have e : (rows.set p (rows.getD p [] ++ vs)).getD p [] = rows.getD p [] ++ vs := by
    rw [List.getD_eq_getElem?_getD, List.getElem?_set_self hp]
    rfl
  rw [e, List.set_set, List.append_assoc]
theorem notesOk_mem {kk : RK} {q : Nat} {st : RSt} : NoteOk kk (noteK kk q st) := by cases kk <;> first | rfl | trivial
/-- what a plan leads to -/
structure RunOk (k : RK) (c : Nat) (r : Run) (o : List (Int × Int)) (u n : Nat) : Prop where
  st : r.st.ok c
  nl : r.notes.length = u
  nok : ∀ x ∈ r.notes, NoteOk k x
  gr : ∃ j, j ≤ 2 * n ∧ Grown c names24 r.rows o u j
theorem RunOk.len {k : RK} {c : Nat} {r : Run} {o : List (Int × Int)} {u n : Nat} (h : RunOk k c r o u n) : r.rows.length = c := by
  obtain ⟨j, _, g⟩ := h.gr
  exact g.len
theorem noteAt_ok {k : RK} {c : Nat} {r : Run} {o : List (Int × Int)} {u n : Nat} {m : Int} (h : RunOk k c r o u n) (m1 : 1 ≤ m) (m2 : m ≤ (u : Int)) : r.notes[(m - 1).toNat]? = some (noteAt r m) ∧ NoteOk k (noteAt r m) := by
  have hl : (m - 1).toNat < r.notes.length := by rw [h.nl]; omega
  have e : r.notes[(m - 1).toNat]? = some (noteAt r m) := by
    unfold noteAt
    rw [List.getD_eq_getElem?_getD, List.getElem?_eq_getElem hl]
    rfl
  exact ⟨e, h.nok _ (List.mem_of_getElem? e)⟩
theorem Plan.run {k : RK} {c : Nat} {as : List Act} {o : List (Int × Int)} {u : Nat} (h : Plan c as o u) : RunOk k c (runK k c as) o u as.length := by
  induction h with
  | nil => exact ⟨rst0_ok c, rfl, fun x hx => (nomatch hx), 0, Nat.zero_le _, .start⟩
  | @save as o u p g hp ih =>
    obtain ⟨j, hj, gr⟩ := ih.gr
    have hl := gr.len
    have hr : (runK k c as).rows[p]? = some (runK k c as).rows[p] := List.getElem?_eq_getElem (by omega)
    rw [runK_snoc]
    refine ⟨saveK_ok ih.st, ih.nl, ih.nok, j + 1, by rw [List.length_append]; simp; omega, ?_⟩
    show Grown c names24 (app _ p [0]) o u (j + 1)
    rw [app_row hr]
    exact .save gr hr
  | @send as o u p g hp hu ih =>
    obtain ⟨j, hj, gr⟩ := ih.gr
    have hl := gr.len
    have hr : (runK k c as).rows[p]? = some (runK k c as).rows[p] := List.getElem?_eq_getElem (by omega)
    rw [runK_snoc]
    refine ⟨sendK_ok ih.st, by show ((runK k c as).notes ++ [_]).length = _; rw [List.length_append, ih.nl]; rfl, fun x hx => ?_, j + 1, by rw [List.length_append]; simp; omega, ?_⟩
    · rcases List.mem_append.mp hx with z | z
      · exact ih.nok x z
      · rw [List.mem_singleton.mp z]; exact notesOk_mem
    · show Grown c names24 (app _ p [(((runK k c as).notes.length + 1 : Nat) : Int)]) _ (u + 1) (j + 1)
      rw [app_row hr, ih.nl]
      exact .send gr hr (names24_at hu)
  | @recv as o u p j' m q g hp hj' hq ih =>
    obtain ⟨j, hj, gr⟩ := ih.gr
    have hl := gr.len
    have hpl : p < (runK k c as).rows.length := by omega
    have hr : (runK k c as).rows[p]? = some (runK k c as).rows[p] := List.getElem?_eq_getElem hpl
    rw [runK_snoc]
    refine ⟨recvK_ok ih.st, ih.nl, ih.nok, ?_⟩
    show ∃ j, _ ∧ Grown c names24 (app _ p ((if mustK k p (noteAt (runK k c as) m) (runK k c as).st = true then [0] else []) ++ [0 - m])) _ u j
    by_cases e : mustK k p (noteAt (runK k c as) m) (runK k c as).st = true
    · rw [if_pos e, ← app_app hpl]
      have g2 : Grown c names24 (app (runK k c as).rows p [0]) o u (j + 1) := by rw [app_row hr]; exact .save gr hr
      have hpl2 : p < (app (runK k c as).rows p [0]).length := by rw [app_len]; exact hpl
      have hr2 : (app (runK k c as).rows p [0])[p]? = some (app (runK k c as).rows p [0])[p] := List.getElem?_eq_getElem hpl2
      refine ⟨j + 2, by rw [List.length_append]; simp; omega, ?_⟩
      rw [app_row hr2]
      exact .recv g2 hr2 hj' hq
    · rw [if_neg e, List.nil_append]
      refine ⟨j + 1, by rw [List.length_append]; simp; omega, ?_⟩
      rw [app_row hr]
      exact .recv gr hr hj' hq
theorem Plan.good {k : RK} {c : Nat} {as : List Act} {o : List (Int × Int)} {u many : Nat} (h : Plan c as o u) (c1 : 1 ≤ c) (cm : c ≤ many) : Good many (2 * as.length) (runK k c as).rows := by
  obtain ⟨j, hj, gr⟩ := (h.run (k := k)).gr
  exact ⟨c, names24, o, u, j, c1, cm, .refl _, gr, hj⟩
theorem meth1 {ms : List (Str × DRC)} {m : Str} {i j : Nat} {env : Env} {S : Sto} {R : DK} {p : Addr} {x : D} (h0 : env[i]? = some (some (.ref p))) (h1 : env[j]? = some (some x))
    (h : ∃ cn r, (cn, r) ∈ ms ∧ ∃ fs, S p = some (.ins cn fs) ∧ fs.lookup m = none ∧ r [.ref p, x] S R) : dMeth ms m 2 (dVar i) (dCons (dVar j) dNil) env S R := by
  obtain ⟨cn, r, hm, fs, hS, hl, hr⟩ := h
  exact ⟨cn, r, hm, _, h0, p, fs, rfl, hS, hl, _, h1, rfl, hr⟩
theorem meth2 {ms : List (Str × DRC)} {m : Str} {i : Nat} {env : Env} {S : Sto} {R : DK} {p : Addr} {x y : D} {t : DTA} (h0 : env[i]? = some (some (.ref p))) (ht : ∀ K : List D → Sto → Prop, K [x, y] S → t env S K)
    (h : ∃ cn r, (cn, r) ∈ ms ∧ ∃ fs, S p = some (.ins cn fs) ∧ fs.lookup m = none ∧ r [.ref p, x, y] S R) : dMeth ms m 3 (dVar i) t env S R := by
  obtain ⟨cn, r, hm, fs, hS, hl, hr⟩ := h
  exact ⟨cn, r, hm, _, h0, p, fs, rfl, hS, hl, ht _ ⟨rfl, hr⟩⟩
structure RunAt (S0 S : Sto) (p b r N : Addr) (as : List Addr) (k : RK) (c : Nat) (run : Run) : Prop where
  sk : SK (RP p b) S0 S
  ru : RuleAt S p b c k run.st
  ra : RAt S r as run.rows
  hN : S N = some (.lst (run.notes.map noteD))
/-- an append to a row -/
theorem app_go {S : Sto} {r : Addr} {as : List Addr} {rows : List (List Int)} {q : Nat} {e : DTE} {v : Int} {env : Env} {R : DK} (ra : RAt S r as rows) (hq : q < rows.length) (h2 : env[2]? = some (some (.ref r))) (h6 : env[6]? = some (some (.int (q : Nat)))) (he : ∀ K : DK, K (.int v) S → e env S K)
    (hl : ∀ row ∈ rows, row.length ≤ 1000)
    (k : ∀ a, a ∈ as → RAt (S.put a (.lst (intsD (rows.getD q []) ++ [.int v]))) r as (app rows q [v]) → R .non (S.put a (.lst (intsD (rows.getD q []) ++ [.int v])))) :
    dMtq "list" mAppend (dBin rIxq (dVar 2) (dVar 6)) (dCons e dNil) env S R := by
  obtain ⟨a, row, ha, hr, hd, hS, hm⟩ := ra.at hq
  have er : rows.getD q [] = row := by rw [List.getD_eq_getElem?_getD, hr]; rfl
  have hlr := hl row (List.mem_of_getElem? hr)
  refine ⟨_, h2, _, h6, _, (q : Int), _, seqOf_lst ra.lst, rfl, atI_nat hd, ⟨rfl, _, seqOf_lst hS, noTup _⟩, he _ ⟨a, _, _, rfl, rfl, hS, by rw [intsD_len]; omega, ?_⟩⟩
  rw [er] at k
  have h := ra.put ha hr [v]
  have e2 : intsD [v] = [D.int v] := rfl
  rw [e2, ← app_row hr] at h
  exact k a hm h
theorem w_runK {p b : Addr} {kk : RK} {c : Nat} {as : List Act} {o : List (Int × Int)} {u : Nat} {S0 : Sto} {R : DK} (h : RuleAt S0 p b c kk (rst0 c)) (c1 : 1 ≤ c) (c6 : c ≤ 6) (pl : Plan c as o u) (al : as.length ≤ 100)
    (k : ∀ S', RuleAt S' p b c kk (runK kk c as).st → SK (RP p b) S0 S' → R (.tup (rowsD (runK kk c as).rows)) S') : dFn 9 B_run_plan_ed6f [.ref p, .tup (as.map actD)] S0 R := by
  obtain ⟨cn, fs, hp, hcn, hfs⟩ := h.proc
  obtain ⟨ob, hb⟩ := h.b
  refine ⟨_, rfl, p, cn, fs, _, rfl, hp, hcn, hfs, (c : Int), rfl, by omega, by omega, lc_rows (n := c) (by rw [rg_len]; omega) (fun _ => True.intro) (by omega) fun r rs S1 sg1 ra1 nf1 => ?_⟩
  refine ⟨rfl, fun N nN => ?_⟩
  have Nr : N ≠ r := fun z => by rw [z, ra1.lst] at nN; cases nN
  have Ns : N ∉ rs := fun z => by
    obtain ⟨i, hi⟩ := List.mem_iff_getElem?.mp z
    have hl : i < (List.replicate c ([] : List Int)).length := by rw [← ra1.len]; exact (List.getElem?_eq_some_iff.mp hi).1
    have := ra1.row i N _ hi (List.getElem?_eq_getElem hl)
    rw [this] at nN; cases nN
  have nN0 : S0 N = none := by
    cases z : S0 N with
    | none => rfl
    | some o => rw [sg1 _ _ (fun z => z) z] at nN; cases nN
  have nf : ∀ a, a = r ∨ a = N ∨ a ∈ rs → S0 a = none := fun a ha => by
    rcases ha with z | z | z
    · exact nf1 a (.inl z)
    · rw [z]; exact nN0
    · exact nf1 a (.inr z)
  have off : ∀ a, RP p b a → a ≠ r ∧ a ≠ N ∧ a ∉ rs := fun a ha => by
    have hs : ∃ o, S0 a = some o := by rcases ha with rfl | rfl <;> exact ⟨_, by assumption⟩
    obtain ⟨o, hs⟩ := hs
    exact ⟨fun z => (by rw [nf a (.inl z)] at hs; cases hs), fun z => (by rw [nf a (.inr (.inl z))] at hs; cases hs), fun z => (by rw [nf a (.inr (.inr z))] at hs; cases hs)⟩
  have sgN : SG S1 (S1.put N (.lst [])) := .new nN
  have v0 : RunAt S0 (S1.put N (.lst [])) p b r N rs kk c (run0 c) := ⟨SG.sk (sg1.trans sgN), h.keep (sg1.trans sgN) (fun z => z) (fun z => z), ra1.keepG sgN, Sto.same⟩
  generalize S1.put N (.lst []) = S2 at v0 ⊢
  refine ⟨_, rfl, _, rfl, fun i env S => i ≤ as.length ∧ ∃ (x4 x5 x6 x7 : Option D), env = [some (.ref p), some (.tup (as.map actD)), some (.ref r), some (.ref N), x4, x5, x6, x7, none] ∧ RunAt S0 S p b r N rs kk c (runK kk c (as.take i)), ⟨Nat.zero_le _, none, none, none, none, rfl, v0⟩, fun _ _ _ _ _ => True.intro, ?_, ?_⟩
  · rintro i d env S3 hd ⟨hi0, x4, x5, x6, x7, rfl, v3⟩
    have hd : (as.map actD)[i]? = some d := hd
    rw [List.getElem?_map] at hd
    obtain ⟨a, ha, rfl⟩ := Option.map_eq_some_iff.mp hd
    have hi : i < as.length := (List.getElem?_eq_some_iff.mp ha).1
    have ht : as.take (i + 1) = as.take i ++ [a] := by rw [List.take_add_one, ha]; rfl
    obtain ⟨o1, u1, pl1⟩ := pl.take i
    obtain ⟨o2, u2, pl2⟩ := pl.take (i + 1)
    have g1 := pl1.run (k := kk)
    rw [ht] at pl2
    have e3 : runK kk c (as.take (i + 1)) = stepK kk (runK kk c (as.take i)) a := by rw [ht, runK_snoc]
    generalize runK kk c (as.take i) = run at v3 g1 e3
    have rl := g1.len
    have big : ∀ row ∈ run.rows, row.length ≤ 800 := fun row hrow => by
      obtain ⟨j, hj, gr⟩ := g1.gr
      have h1 := gr.events
      obtain ⟨ix, hix⟩ := List.mem_iff_getElem?.mp hrow
      have h2 := len_le_sum hix
      have : (as.take i).length ≤ 100 := by rw [List.length_take]; omega
      omega
    have sto : ∀ {S' : Sto} {run' : Run} {a' : Addr} {ob : Ob}, a' ∈ rs → RunAt S0 S' p b r N rs kk c run' → ∀ rows', RAt (S'.put a' ob) r rs rows' → RunAt S0 (S'.put a' ob) p b r N rs kk c ⟨run'.st, rows', run'.notes⟩ := fun {S' run' a' ob} hm v rows' hra => by
      have na : S0 a' = none := nf a' (.inr (.inr hm))
      refine ⟨v.sk.own na, v.ru.keep (SK.put (P := fun x => x = a') rfl) (fun z => (off p (.inl rfl)).2.2 (z ▸ hm)) (fun z => (off b (.inr rfl)).2.2 (z ▸ hm)), hra, (Sto.ne fun z : N = a' => Ns (by rw [z]; exact hm)).trans v.hN⟩
    have rul : ∀ {S' S'' : Sto} {run' : Run} {st' : RSt}, RunAt S0 S' p b r N rs kk c run' → RuleAt S'' p b c kk st' → SK (RP p b) S' S'' → RunAt S0 S'' p b r N rs kk c ⟨st', run'.rows, run'.notes⟩ := fun {S' S'' run' st'} v hr sk =>
      ⟨v.sk.trans sk, hr, v.ra.keep sk fun a ha => ⟨(off a ha).1, (off a ha).2.2⟩, sk _ _ (fun z => (off N z).2.1 rfl) v.hN⟩
    have key := v3.ru.keep (S' := S3) (P := RP p b) (SK.refl S3)
    cases a with
    | save q =>
      have hq : q < c := by
        generalize hx : as.take i ++ [Act.save q] = xs at pl2
        cases pl2 with
        | nil => simp at hx
        | save g hp => obtain ⟨_, e⟩ := List.append_inj' hx rfl; cases e; exact hp
        | send g hp hu => obtain ⟨_, e⟩ := List.append_inj' hx rfl; cases e
        | recv g hp hj hq => obtain ⟨_, e⟩ := List.append_inj' hx rfl; cases e
      refine ⟨_, rfl, 2, rfl, ?_⟩
      show dUnp 2 _ (.tup (cutD [.str "save", .int (q : Nat)] none (some 2))) _ _ _
      rw [show cutD [D.str "save", .int (q : Nat)] none (some 2) = [.str "save", .int (q : Nat)] from rfl]
      refine ⟨_, rfl, .inl (.inl rfl), _, _, rfl, _, _, rfl, rfl, _, rfl, _, rfl, goT ?_⟩
      refine meth1 (p := p) rfl rfl (w_saveM v3.ru g1.st hq fun S4 h4 k4 => ?_)
      have v4 := rul v3 h4 k4
      refine app_go (v := 0) v4.ra (by rw [rl]; exact hq) rfl rfl (fun K hK => hK) (fun row hr => by have := big row hr; omega) fun a' hm hra => ?_
      refine ⟨hi, _, _, _, _, rfl, ?_⟩
      rw [e3]
      exact sto hm v4 _ hra
    | send q =>
      have hq : q < c := by
        generalize hx : as.take i ++ [Act.send q] = xs at pl2
        cases pl2 with
        | nil => simp at hx
        | save g hp => obtain ⟨_, e⟩ := List.append_inj' hx rfl; cases e
        | send g hp hu => obtain ⟨_, e⟩ := List.append_inj' hx rfl; cases e; exact hp
        | recv g hp hj hq => obtain ⟨_, e⟩ := List.append_inj' hx rfl; cases e
      refine ⟨_, rfl, 2, rfl, ?_⟩
      show dUnp 2 _ (.tup (cutD [.str "send", .int (q : Nat)] none (some 2))) _ _ _
      rw [show cutD [D.str "send", .int (q : Nat)] none (some 2) = [.str "send", .int (q : Nat)] from rfl]
      refine ⟨_, rfl, .inl (.inl rfl), _, _, rfl, _, _, rfl, rfl, _, rfl, _, rfl, goF ⟨_, rfl, _, rfl, goT ?_⟩⟩
      refine ⟨_, rfl, ⟨rfl, _, seqOf_lst v3.hN, noTup _⟩, ?_⟩
      refine meth1 (p := p) rfl rfl (w_sendM v3.ru g1.st hq fun S4 h4 k4 => ?_)
      have v4 := rul v3 h4 k4
      have hu := g1.nl
      have u24 := pl1.u24
      refine ⟨N, _, _, rfl, rfl, v4.hN, by rw [List.length_map]; show run.notes.length < _; omega, ?_⟩
      have v5 : RunAt S0 (S4.put N (.lst (run.notes.map noteD ++ [noteD (noteK kk q run.st)]))) p b r N rs kk c ⟨sendK kk q run.st, run.rows, run.notes ++ [noteK kk q run.st]⟩ := by
        refine ⟨v4.sk.own nN0, v4.ru.keep (SK.put (P := fun x => x = N) rfl) (off p (.inl rfl)).2.1 (off b (.inr rfl)).2.1, v4.ra.putNe Nr Ns, ?_⟩
        rw [Sto.same, List.map_append]
        rfl
      generalize S4.put N (.lst (run.notes.map noteD ++ [noteD (noteK kk q run.st)])) = S5 at v5 ⊢
      refine app_go (v := ((run.notes.length + 1 : Nat) : Int)) v5.ra (by rw [rl]; exact hq) rfl rfl (fun K hK => ⟨_, rfl, _, _, rfl, seqOf_lst v5.hN, ?_⟩) (fun row hr => by have := big row hr; omega) fun a' hm hra => ?_
      · rw [List.length_map, List.length_append]
        exact hK
      refine ⟨hi, _, _, _, _, rfl, ?_⟩
      rw [e3]
      exact sto hm v5 _ hra
    | recv q m =>
      obtain ⟨hq, m1, m2⟩ : q < c ∧ 1 ≤ m ∧ m ≤ (u1 : Int) := by
        have pm : ∀ {o' : List (Int × Int)} {u' : Nat}, Plan c (as.take i) o' u' → u' = u1 := fun {o' u'} g => ((g.run (k := kk)).nl.symm.trans ((pl1.run (k := kk)).nl))
        generalize hx : as.take i ++ [Act.recv q m] = xs at pl2
        cases pl2 with
        | nil => simp at hx
        | save g hp => obtain ⟨_, e⟩ := List.append_inj' hx rfl; cases e
        | send g hp hu => obtain ⟨_, e⟩ := List.append_inj' hx rfl; cases e
        | recv g hp hj hq =>
          obtain ⟨e1, e⟩ := List.append_inj' hx rfl
          cases e
          subst e1
          have := g.mem _ (List.mem_of_getElem? hj)
          rw [pm g] at this
          exact ⟨hp, this⟩
      obtain ⟨hna, hnk⟩ := noteAt_ok g1 m1 m2
      refine ⟨_, rfl, 2, rfl, ?_⟩
      show dUnp 2 _ (.tup (cutD [.str "receive", .int (q : Nat), .int m] none (some 2))) _ _ _
      rw [show cutD [D.str "receive", .int (q : Nat), .int m] none (some 2) = [.str "receive", .int (q : Nat)] from rfl]
      refine ⟨_, rfl, .inl (.inl rfl), _, _, rfl, _, _, rfl, rfl, _, rfl, _, rfl, goF ⟨_, rfl, _, rfl, goF ⟨_, rfl, _, 2, _, rfl, rfl, rfl, ?_⟩⟩⟩
      have hna' : (run.notes.map noteD)[(m - 1).toNat]? = some (noteD (noteAt run m)) := by rw [List.getElem?_map, hna]; rfl
      refine meth2 (p := p) (x := .int (q : Nat)) (y := noteD (noteAt run m)) rfl (fun K hK => ⟨_, rfl, _, rfl, _, rfl, _, m - 1, _, seqOf_lst v3.hN, rfl, ?_, hK⟩) (w_recvM v3.ru g1.st hq hnk fun S4 h4 k4 => ?_)
      · have e : (m - 1 : Int) = (((m - 1).toNat : Nat) : Int) := by omega
        rw [e]
        have e' : ((((m - 1).toNat : Nat) : Int)).toNat = (m - 1).toNat := by omega
        exact atI_nat hna'
      have v4 := rul v3 h4 k4
      refine ⟨_, rfl, iteB (fun e => ?_) (fun e => ?_)⟩
      · refine app_go (v := 0) v4.ra (by rw [rl]; exact hq) rfl rfl (fun K hK => hK) (fun row hr => by have := big row hr; omega) fun a' hm hra => ?_
        have v5 := sto hm v4 _ hra
        generalize S4.put a' (.lst (intsD (run.rows.getD q []) ++ [D.int 0])) = S5 at v5 hra ⊢
        refine app_go (v := 0 - m) v5.ra (by show q < (app run.rows q [0]).length; rw [app_len, rl]; exact hq) rfl rfl (fun K hK => ⟨_, rfl, ?_⟩) (fun row hr => ?_) fun a'' hm' hra' => ?_
        · have e : (0 - m : Int) = -m := by omega
          rw [e] at hK
          exact hK
        · have hr : row ∈ app run.rows q [0] := hr
          unfold app at hr
          rcases List.mem_or_eq_of_mem_set hr with z | z
          · have := big row z; omega
          · rw [z, List.length_append]
            have hql : q < run.rows.length := by omega
            have : (run.rows.getD q []).length ≤ 800 := big _ (by rw [List.getD_eq_getElem?_getD, List.getElem?_eq_getElem hql]; exact List.getElem_mem hql)
            show _ + 1 ≤ 1000
            omega
        refine ⟨hi, _, _, _, _, rfl, ?_⟩
        rw [e3]
        have v6 := sto hm' v5 _ hra'
        have e7 : stepK kk run (.recv q m) = ⟨recvK kk q (noteAt run m) run.st, app (app run.rows q [0]) q [0 - m], run.notes⟩ := by
          unfold stepK
          dsimp only
          rw [if_pos e, app_app (by rw [rl]; exact hq)]
        rw [e7]
        exact v6
      · refine app_go (v := 0 - m) v4.ra (by rw [rl]; exact hq) rfl rfl (fun K hK => ⟨_, rfl, ?_⟩) (fun row hr => by have := big row hr; omega) fun a'' hm' hra' => ?_
        · have e : (0 - m : Int) = -m := by omega
          rw [e] at hK
          exact hK
        refine ⟨hi, _, _, _, _, rfl, ?_⟩
        rw [e3]
        have v6 := sto hm' v4 _ hra'
        have e7 : stepK kk run (.recv q m) = ⟨recvK kk q (noteAt run m) run.st, app run.rows q [0 - m], run.notes⟩ := by
          unfold stepK
          dsimp only
          rw [if_neg (by rw [e]; exact Bool.false_ne_true), List.nil_append]
        rw [e7]
        exact v6
  · rintro env S3 ⟨_, x4, x5, x6, x7, rfl, v3⟩
    have hlen : (⟨as.map actD, fun _ => True⟩ : Src).items.length = as.length := List.length_map ..
    rw [hlen, List.take_length] at v3
    have ra := v3.ra
    have rl := (pl.run (k := kk)).len
    refine ⟨_, rfl, _, ⟨_, ra.lst, rfl⟩, lc_mapE (List.zip rs (runK kk c as).rows) (fun x => D.ref x.1) ?_ (fun x => some (rowD x.2)) (by rw [List.length_zip]; omega) (fun S' sg => sg _ _ (fun z => z) ra.lst) (fun x hx S4 sg K Kn hk hn => ?_) fun y S4 ny sg4 hy => ?_⟩
    · show rs.map D.ref = _
      have e : (List.zip rs (runK kk c as).rows).map (fun x => D.ref x.1) = ((List.zip rs (runK kk c as).rows).map Prod.fst).map D.ref := by rw [List.map_map]; rfl
      rw [e, List.map_fst_zip (by rw [ra.len]; exact Nat.le_refl _)]
    · obtain ⟨ix, hix⟩ := List.mem_iff_getElem?.mp hx
      rw [List.getElem?_zip_eq_some] at hix
      have hrow := ra.row ix x.1 x.2 hix.1 hix.2
      exact turn_y ⟨_, rfl, _, _, rfl, seqOf_lst (sg _ _ (fun z => z) hrow), (noTup _).2, hk _ rfl _ (.refl _)⟩
    · have e : (List.zip rs (runK kk c as).rows).filterMap (fun x => some (rowD x.2)) = rowsD (runK kk c as).rows := by
        rw [fm_map]
        unfold rowsD
        have e : (List.zip rs (runK kk c as).rows).map (fun x => rowD x.2) = ((List.zip rs (runK kk c as).rows).map Prod.snd).map rowD := by rw [List.map_map]; rfl
        rw [e, List.map_snd_zip (by rw [ra.len]; exact Nat.le_refl _)]
      rw [e] at hy
      exact ⟨_, _, rfl, seqOf_lst hy, (noTup _).2, k S4 (v3.ru.keep sg4 (fun z => z) (fun z => z)) (v3.sk.trans sg4.sk)⟩
end Sv
set_option maxHeartbeats 400000
namespace Sv
open PySem L2
/-- the draws' state, at most n mixed draws so far -/
def Df (st big : Addr) (n : Nat) (S : Sto) : Prop := st ≠ big ∧ ∃ (bs : List Int) (a : Int) (t : Nat) (c : Int), t ≤ n ∧ S st = some (.lst [.ref big, .int a, .int (t : Int), .int c]) ∧ S big = some (.lst (intsD bs))
theorem Df.keepP {st big : Addr} {n : Nat} {S S' : Sto} {P : Addr → Prop} (h : Df st big n S) (k : SK P S S') (n1 : ¬ P st) (n2 : ¬ P big) : Df st big n S' := by
  obtain ⟨h1, bs, a, t, c, ht, h2, h3⟩ := h
  exact ⟨h1, bs, a, t, c, ht, k _ _ n1 h2, k _ _ n2 h3⟩
theorem Df.keep {st big : Addr} {n : Nat} {S S' : Sto} (h : Df st big n S) (k : SG S S') : Df st big n S' := h.keepP k (fun z => z) (fun z => z)
theorem Df.mono {st big : Addr} {n m : Nat} {S : Sto} (h : Df st big n S) (e : n ≤ m) : Df st big m S := by
  obtain ⟨h1, bs, a, t, c, ht, h2, h3⟩ := h
  exact ⟨h1, bs, a, t, c, by omega, h2, h3⟩
theorem Df.fresh {st big : Addr} {n : Nat} {S : Sto} (h : Df st big n S) {p : Addr} (z : S p = none) : p ≠ st ∧ p ≠ big := by
  obtain ⟨h1, bs, a, t, c, ht, h2, h3⟩ := h
  exact ⟨fun e => (by rw [e, h2] at z; cases z), fun e => (by rw [e, h3] at z; cases z)⟩
theorem Df.put {st big : Addr} {n : Nat} {S : Sto} (h : Df st big n S) {p : Addr} {o : Ob} (z : p ≠ st ∧ p ≠ big) : Df st big n (S.put p o) := by
  obtain ⟨h1, bs, a, t, c, ht, h2, h3⟩ := h
  exact ⟨h1, bs, a, t, c, ht, (Sto.ne (Ne.symm z.1)).trans h2, (Sto.ne (Ne.symm z.2)).trans h3⟩
theorem Df.free {st big : Addr} {n : Nat} {S0 S : Sto} (D : Df st big n S) (k : SK (DP st big) S0 S) {a : Addr} (z : S a = none) : S0 a = none := SK.free k z fun q => q.elim (D.fresh z).1 (D.fresh z).2
/-- a list whose items are tuples is none of the draws' own -/
theorem Df.off {st big : Addr} {n : Nat} {S : Sto} (h : Df st big n S) {p : Addr} {ds : List D} (e : S p = some (.lst ds)) (ht : ∀ d ∈ ds, ∃ xs, d = D.tup xs) (ne : ds ≠ []) : p ≠ st ∧ p ≠ big := by
  obtain ⟨h1, bs, a, t, c, _, h2, h3⟩ := h
  refine ⟨fun z => ?_, fun z => ?_⟩
  · subst z
    rw [h2] at e
    have e := (Ob.lst.inj (Option.some.inj e)).symm
    subst e
    obtain ⟨xs, hx⟩ := ht _ List.mem_cons_self
    cases hx
  · subst z
    rw [h3] at e
    have e := (Ob.lst.inj (Option.some.inj e)).symm
    subst e
    cases bs with
    | nil => exact ne rfl
    | cons b r =>
      obtain ⟨xs, hx⟩ := ht _ List.mem_cons_self
      cases hx
end Sv
set_option maxHeartbeats 1000000
namespace Sv
open PySem L2
structure RWf (S0 S : Sto) (st big r N W : Addr) (nm : List Int) (rows : List (List Int)) (o : List (Int × Int)) (u : Nat) : Prop where
  sk : SK (DP st big) S0 S
  hr : S r = some (.lst (rowsD rows))
  hN : S N = some (.lst (intsD (nm.drop u).reverse))
  hW : S W = some (.lst (o.map pairD))
theorem RWf.keep {S0 S S' : Sto} {st big r N W : Addr} {nm : List Int} {rows : List (List Int)} {o : List (Int × Int)} {u : Nat} (h : RWf S0 S st big r N W nm rows o u) (k : SK (DP st big) S S') (nd : ∀ a, a = r ∨ a = N ∨ a = W → a ≠ st ∧ a ≠ big) : RWf S0 S' st big r N W nm rows o u := by
  have nq : ∀ a, a = r ∨ a = N ∨ a = W → ¬ DP st big a := fun a ha => nDP (nd a ha)
  exact ⟨h.sk.trans k, k _ _ (nq _ (.inl rfl)) h.hr, k _ _ (nq _ (.inr (.inl rfl))) h.hN, k _ _ (nq _ (.inr (.inr rfl))) h.hW⟩
theorem RWf.keepG {S0 S S' : Sto} {st big r N W : Addr} {nm : List Int} {rows : List (List Int)} {o : List (Int × Int)} {u : Nat} (h : RWf S0 S st big r N W nm rows o u) (k : SG S S') : RWf S0 S' st big r N W nm rows o u :=
  ⟨h.sk.trans k.sk, k _ _ (fun z => z) h.hr, k _ _ (fun z => z) h.hN, k _ _ (fun z => z) h.hW⟩
end Sv
set_option maxHeartbeats 800000
set_option autoImplicit false
set_option maxHeartbeats 1000000
namespace Sv
open PySem L2
/-- before each receipt that stands where g tells so a save; b: a sending stands before without a save behind it -/
def insF (g : Bool → Bool) : Bool → List Int → List Int
  | _, [] => []
  | b, e :: r => (if decide (e < 0) && g b then [0] else []) ++ e :: insF g (decide (0 < e)) r
def lastF : Bool → List Int → Bool
  | b, [] => b
  | _, e :: r => lastF (decide (0 < e)) r
theorem insF_snoc (g : Bool → Bool) (e : Int) : ∀ (b : Bool) (r : List Int), insF g b (r ++ [e]) = insF g b r ++ (if decide (e < 0) && g (lastF b r) then [0] else []) ++ [e]
  | b, [] => by
    show (if decide (e < 0) && g b then [0] else []) ++ e :: [] = [] ++ (if decide (e < 0) && g b then [0] else []) ++ [e]
    rw [List.nil_append]
  | b, x :: r => by
    show (if decide (x < 0) && g b then [0] else []) ++ x :: insF g (decide (0 < x)) (r ++ [e]) = ((if decide (x < 0) && g b then [0] else []) ++ x :: insF g (decide (0 < x)) r) ++ (if decide (e < 0) && g (lastF (decide (0 < x)) r) then [0] else []) ++ [e]
    rw [insF_snoc g e (decide (0 < x)) r]
    simp only [List.append_assoc, List.cons_append]
def insR (g : Bool → Bool) (rows : List (List Int)) : List (List Int) := rows.map (insF g false)
theorem insR_at {g : Bool → Bool} {rows : List (List Int)} {p : Nat} {row : List Int} (h : rows[p]? = some row) : (insR g rows)[p]? = some (insF g false row) := by
  unfold insR
  rw [List.getElem?_map, h]
  rfl
theorem insR_set {g : Bool → Bool} {rows : List (List Int)} {p : Nat} {row : List Int} : insR g (rows.set p row) = (insR g rows).set p (insF g false row) := by
  unfold insR
  rw [List.map_set]
theorem Grown.opens_u {c : Nat} {nm : List Int} {r : List (List Int)} {o : List (Int × Int)} {u k : Nat} (h : Grown c nm r o u k) : o.length ≤ u ∧ 2 * u ≤ k + o.length := by
  induction h with
  | start => exact ⟨Nat.le_refl _, Nat.le_refl _⟩
  | skip _ ih => exact ⟨ih.1, by omega⟩
  | save _ _ ih => exact ⟨ih.1, by omega⟩
  | send _ _ _ ih =>
    rw [List.length_append]
    show _ + 1 ≤ _ ∧ 2 * (_ + 1) ≤ _ + (_ + 1)
    exact ⟨by omega, by omega⟩
  | recv _ _ hj _ ih =>
    have := (List.getElem?_eq_some_iff.mp hj).1
    rw [List.length_eraseIdx, if_pos this]
    exact ⟨by omega, by omega⟩
theorem Grown.ins (g : Bool → Bool) {c : Nat} {nm : List Int} {r : List (List Int)} {o : List (Int × Int)} {u k : Nat} (hp : nm.Perm names24) (h : Grown c nm r o u k) : ∃ k', k' + o.length ≤ k + u ∧ Grown c nm (insR g r) o u k' := by
  induction h with
  | start =>
    refine ⟨0, Nat.le_refl _, ?_⟩
    have : insR g (List.replicate c []) = List.replicate c [] := by
      unfold insR
      rw [List.map_replicate]
      rfl
    rw [this]
    exact .start
  | skip h ih =>
    obtain ⟨k', h1, h2⟩ := ih
    exact ⟨k', by omega, h2⟩
  | @save r o u k p row h hr ih =>
    obtain ⟨k', h1, h2⟩ := ih
    refine ⟨k' + 1, by omega, ?_⟩
    rw [insR_set, insF_snoc, decide_eq_false (by decide : ¬ (0 : Int) < 0), Bool.false_and, if_neg Bool.false_ne_true, List.append_nil]
    exact .save h2 (insR_at hr)
  | @send r o u k p row m h hr hm ih =>
    obtain ⟨k', h1, h2⟩ := ih
    have m1 := name_pos hp (List.mem_of_getElem? hm)
    refine ⟨k' + 1, by rw [List.length_append]; show k' + 1 + (o.length + 1) ≤ _; omega, ?_⟩
    rw [insR_set, insF_snoc, decide_eq_false (by omega : ¬ m < 0), Bool.false_and, if_neg Bool.false_ne_true, List.append_nil]
    exact .send h2 (insR_at hr) hm
  | @recv r o u k row j m q p h hr hj hq ih =>
    obtain ⟨k', h1, h2⟩ := ih
    have hjl := (List.getElem?_eq_some_iff.mp hj).1
    have hpl := (List.getElem?_eq_some_iff.mp hr).1
    rw [insR_set, insF_snoc]
    cases hb : (decide (0 - m < 0) && g (lastF false row)) with
    | false =>
      rw [if_neg Bool.false_ne_true, List.append_nil]
      exact ⟨k' + 1, by rw [List.length_eraseIdx, if_pos hjl]; omega, .recv h2 (insR_at hr) hj hq⟩
    | true =>
      rw [if_pos rfl]
      refine ⟨k' + 1 + 1, by rw [List.length_eraseIdx, if_pos hjl]; omega, ?_⟩
      have g1 := Grown.save h2 (insR_at hr)
      have hr2 : ((insR g r).set p (insF g false row ++ [0]))[p]? = some (insF g false row ++ [0]) := List.getElem?_set_self (by unfold insR; rw [List.length_map]; exact hpl)
      have g2 := Grown.recv g1 hr2 hj hq
      rw [List.set_set] at g2
      exact g2
theorem Good.ins {many most : Nat} {rows : List (List Int)} (h : Good many most rows) (g : Bool → Bool) : Good many (most + most / 2) (insR g rows) := by
  obtain ⟨c, nm, o, u, k, h1, h2, h3, h4, h5⟩ := h
  obtain ⟨k', g1, g2⟩ := h4.ins g h3
  have := h4.opens_u
  exact ⟨c, nm, o, u, k', h1, h2, h3, g2, by omega⟩
end Sv
set_option maxHeartbeats 400000
set_option autoImplicit false
namespace Sv
open PySem PySem.Spec PyProof.Rows L2
/-- in this row m is received and t stands behind the receipt -/
def cau1 (m t : Int) (row : List Int) : Bool := decide (-m ∈ row) && decide (t ∈ row.drop (row.idxOf (-m)))
def cauB (rows : List (List Int)) (m t : Int) : Bool := (rows.map (cau1 m t)).any id
theorem w_recvF {rows : List (List Int)} {many most : Nat} {m t : Int} {S : Sto} {R : DK} (hG : Good many most rows) (h6 : many ≤ 6) (h60 : most ≤ 60) (q : ∀ S', SG S S' → R (.bl (cauB rows m t)) S') : dFn 4 B_is_received_first_4360 [.tup (rowsD rows), .int m, .int t] S R := by
  have rl := hG.len
  have r60 := hG.row60 h60
  refine ⟨_, rfl, _, rfl, lc_mapE rows rowD rfl (fun row => some (D.bl (cau1 m t row))) (by omega) (fun _ _ => True.intro) (fun row hr S1 sg K Kn hk _ => turn_y ?_) fun b S1 nb sg1 hb => ?_⟩
  · have r6 := r60 _ hr
    have hk := hk (D.bl (cau1 m t row)) rfl
    refine ⟨_, rfl, _, rfl, _, _, .int _, .inr (.tup (pys_ints row)), rfl, shaped_tup row, shaped_ints row, ?_⟩
    rw [any_intR, xor_ff]
    refine ⟨_, rfl, iteB (fun e => ?_) (fun e => ?_)⟩
    · have hm := of_decide_eq_true e
      have hix := List.idxOf_lt_length_iff.mpr hm
      refine ⟨_, rfl, _, rfl, _, rfl, ⟨_, rfl⟩, _, rfl, row, (-m), rfl, rfl, hm, _, rfl, ?_⟩
      dsimp only [rSlq, rowD, dNoP]
      rw [cutI_from (by omega)]
      refine ⟨_, _, .int _, .inr (.tup (pys_ints _)), rfl, shaped_tup _, shaped_ints _, ?_⟩
      rw [any_intR, xor_ff]
      have : cau1 m t row = decide (t ∈ row.drop (row.idxOf (-m))) := by
        unfold cau1
        rw [e, Bool.true_and]
      rw [this] at hk
      exact hk _ (.refl _)
    · have : cau1 m t row = false := by
        unfold cau1
        rw [e, Bool.false_and]
      rw [this] at hk
      exact hk _ (.refl _)
  · rw [fm_map] at hb
    exact ⟨b, rows.map (cau1 m t), rfl, by rw [hb, List.map_map]; rfl, q S1 sg1⟩
theorem w_causal {rows : List (List Int)} {many most : Nat} {S : Sto} {R : DK} (hG : Good many most rows) (h6 : many ≤ 6) (h60 : most ≤ 60) (q : ∀ kvs S', SG S S' → StepsAt S' kvs rows (cauB rows) → R (.dct kvs) S') : dFn 4 B_causal_steps_ab7d [.tup (rowsD rows), tripsD rows] S R := by
  have rlen := recvL_len rows
  refine ⟨_, rfl, _, rfl, fun p np => ⟨fun i S' => i ≤ (recvL rows).length ∧ SG S S' ∧ ∃ as : List Addr, as.length = i ∧ S' p = some (.dK (((recvL rows).zip as).map fun x => ((Sum.inl x.1 : Key), D.ref x.2))) ∧ ∀ (j : Nat) (m : Int) (a : Addr), (recvL rows)[j]? = some m → as[j]? = some a → a ≠ p ∧ S' a = some (.lst (intsD (nxG rows (cauB rows) m))), ⟨Nat.zero_le _, .new np, [], rfl, ?_, fun j m a _ h => nomatch h⟩, fun _ _ _ _ => True.intro, ?_, ?_⟩⟩
  · rw [Sto.same, List.zip_nil_right]
    rfl
  · rintro i d S1 hd ⟨hi0, sg1, as, la, hp, has⟩
    have hd : (((recvL rows).map fun m => ((Sum.inl m : Key), tripD rows m)).map fun kv => kD kv.1)[i]? = some d := hd
    rw [trips_keys, List.getElem?_map] at hd
    obtain ⟨m, hm, rfl⟩ := Option.map_eq_some_iff.mp hd
    have hi := (List.getElem?_eq_some_iff.mp hm).1
    have hmem := List.mem_of_getElem? hm
    dsimp only [dgName, dYes]
    refine goT ?_
    refine ⟨_, rfl, _, rfl, _, rfl, lc_mapE (recvL rows) D.int (trips_keys rows) (fun t => if cauB rows m t = true then some (D.int t) else none) (by omega) (fun _ _ => True.intro) (fun t ht S2 sg K Kn hk hn => turn_n ⟨_, rfl, _, rfl, _, rfl, rfl, w_recvF hG h6 h60 fun S9 sg9 => ⟨_, rfl, iteB (fun e => ⟨_, rfl, hk _ (if_pos e) _ sg9⟩) (fun e => hn ?_ _ sg9)⟩⟩) fun a S2 na sg2 ha => ?_⟩
    · have e : cauB rows m t = false := e
      show (if cauB rows m t = true then _ else _) = _
      rw [e]
      rfl
    · rw [fm_iteB] at ha
      have hp2 := sg2 _ _ (fun z => z) hp
      have nap : a ≠ p := fun z => by rw [z, hp] at na; cases na
      have lz : ((recvL rows).zip as) = ((recvL rows).take i).zip as := by
        have e1 : (recvL rows) = (recvL rows).take i ++ (recvL rows).drop i := (List.take_append_drop i _).symm
        have e2 : as = as ++ [] := (List.append_nil _).symm
        conv => lhs; rw [e1, e2]
        rw [List.zip_append (by rw [List.length_take, la]; omega), List.zip_nil_right, List.append_nil]
      refine ⟨_, Sum.inl m, rfl, hp2, ?_, hi, SG.keepP np sg1 sg2, as ++ [a], by rw [List.length_append, la]; rfl, ?_, ?_⟩
      · rw [List.length_map, List.length_zip]
        omega
      · rw [Sto.same, putD_new]
        · have e1 : (recvL rows) = (recvL rows).take i ++ (recvL rows).drop i := (List.take_append_drop i _).symm
          have e3 : (recvL rows).drop i = m :: (recvL rows).drop (i + 1) := by
            rw [List.drop_eq_getElem_cons hi]
            rw [(List.getElem?_eq_some_iff.mp hm).2]
          have e4 : (recvL rows).zip (as ++ [a]) = ((recvL rows).take i).zip as ++ [(m, a)] := by
            conv => lhs; rw [e1, e3]
            rw [List.zip_append (by rw [List.length_take, la]; omega), List.zip_cons_cons, List.zip_nil_right]
          rw [e4, lz, List.map_append]
          rfl
        · rw [lz, List.map_map]
          intro z
          obtain ⟨x, hx, e⟩ := List.mem_map.mp z
          have e : x.1 = m := Sum.inl.inj e
          obtain ⟨j, hj⟩ := List.getElem?_of_mem hx
          obtain ⟨h1, _⟩ := List.getElem?_zip_eq_some.mp hj
          rw [e, List.getElem?_take] at h1
          split at h1
          · rename_i hji
            obtain ⟨g1, g2⟩ := List.getElem?_eq_some_iff.mp h1
            obtain ⟨g3, g4⟩ := List.getElem?_eq_some_iff.mp hm
            have := (List.getElem_inj (h₀ := g1) (h₁ := g3) (recvL_nodup rows)).mp (g2.trans g4.symm)
            omega
          · cases h1
      · intro j m' a' h1 h2
        by_cases z : j < as.length
        · rw [List.getElem?_append_left z] at h2
          obtain ⟨n1, n2⟩ := has j m' a' h1 h2
          exact ⟨n1, (Sto.ne n1).trans (sg2 _ _ (fun z => z) n2)⟩
        · rw [List.getElem?_append_right (by omega)] at h2
          have hj0 : j - as.length = 0 := by
            have := (List.getElem?_eq_some_iff.mp h2).1
            simp at this
            omega
          rw [hj0] at h2
          cases h2
          have : j = i := by omega
          subst this
          obtain rfl := Option.some.inj (hm.symm.trans h1)
          refine ⟨nap, (Sto.ne nap).trans ?_⟩
          rw [ha]
          rfl
  · rintro S1 ⟨hi0, sg1, as, la, hp, has⟩
    have hlen : as.length = (recvL rows).length := by
      rw [la]
      show (((recvL rows).map fun m => ((Sum.inl m : Key), tripD rows m)).map fun kv => kD kv.1).length = _
      rw [List.length_map, List.length_map]
    refine ⟨_, hp, q _ _ (SG.rem (p := p) sg1 (by exact np)) fun m hm => ?_⟩
    obtain ⟨j, hj⟩ := List.getElem?_of_mem hm
    have hjl := (List.getElem?_eq_some_iff.mp hj).1
    have ha := List.getElem?_eq_getElem (l := as) (i := j) (by omega)
    obtain ⟨n1, n2⟩ := has j m _ hj ha
    refine ⟨as[j]'(by omega), ?_, ?_⟩
    · refine getD_map (κ := fun x : Int × Addr => (Sum.inl x.1 : Key)) (v := fun x => D.ref x.2) (x := (m, as[j]'(by omega))) ?_ (List.mem_of_getElem? (List.getElem?_zip_eq_some.mpr ⟨hj, ha⟩))
      have : ((recvL rows).zip as).map (fun x : Int × Addr => (Sum.inl x.1 : Key)) = (recvL rows).map (Sum.inl : Int → Key) := by
        have h2 : ((recvL rows).zip as).map Prod.fst = recvL rows := List.map_fst_zip (by omega)
        conv => rhs; rw [← h2]
        rw [List.map_map]
        rfl
      rw [this]
      exact recv_ndK rows
    · unfold Sto.rem
      rw [if_neg n1]
      exact n2
end Sv
set_option maxHeartbeats 400000
set_option autoImplicit false
namespace Sv
open PySem PySem.Spec PyProof.Rows L2
/-- for each process the number of its first state from which no way leads -/
def IsAp (rows : List (List Int)) (nx : Int → Int → Bool) (s : Nat × Nat) (ap : List Nat) : Prop :=
  ap.length = rows.length ∧ ∀ (p n x : Nat), ap[p]? = some x → (n < x ↔ ∃ (m : Int) (k c : Nat), Dz rows nx (rbB rows s) c m ∧ hap rows m = some (p, k) ∧ n ≤ k)
theorem IsAp.unique {rows : List (List Int)} {nx : Int → Int → Bool} {s : Nat × Nat} {a b : List Nat} (h : IsAp rows nx s a) (g : IsAp rows nx s b) : a = b := by
  refine List.ext_getElem (h.1.trans g.1.symm) fun i h1 h2 => ?_
  have e1 := List.getElem?_eq_getElem h1
  have e2 := List.getElem?_eq_getElem h2
  generalize a[i] = x at e1
  generalize b[i] = y at e2
  have key : ∀ n, n < x ↔ n < y := fun n => (h.2 i n x e1).trans (g.2 i n y e2).symm
  have k1 := key x
  have k2 := key y
  omega
open Classical in
noncomputable def apL (rows : List (List Int)) (nx : Int → Int → Bool) (s : Nat × Nat) : List Nat := if h : ∃ a, IsAp rows nx s a then Classical.choose h else []
theorem apL_eq {rows : List (List Int)} {nx : Int → Int → Bool} {s : Nat × Nat} {a : List Nat} (h : IsAp rows nx s a) : apL rows nx s = a := by
  have e : ∃ a, IsAp rows nx s a := ⟨a, h⟩
  unfold apL
  rw [dif_pos e]
  exact (Classical.choose_spec e).unique h
def apS (rows : List (List Int)) (a : List Nat) (m : Int) : List Nat := match hap rows m with
  | some (p, k) => a.set p (max (a.getD p 0) (k + 1))
  | none => a
theorem apS_len (rows : List (List Int)) : ∀ (ms : List Int) (a : List Nat), (ms.foldl (apS rows) a).length = a.length
  | [], _ => rfl
  | m :: ms, a => by
    rw [List.foldl_cons, apS_len rows ms]
    unfold apS
    cases hap rows m with
    | none => rfl
    | some x => exact List.length_set ..
theorem ap_fold (rows : List (List Int)) : ∀ (ms : List Int) (a : List Nat) (p n x y : Nat), (ms.foldl (apS rows) a)[p]? = some x → a[p]? = some y → (n < x ↔ n < y ∨ ∃ m ∈ ms, ∃ k, hap rows m = some (p, k) ∧ n ≤ k)
  | [], a, p, n, x, y, h1, h2 => by
    rw [List.foldl_nil, h2] at h1
    cases h1
    exact ⟨.inl, fun h => h.elim id fun ⟨m, hm, _⟩ => nomatch hm⟩
  | m :: ms, a, p, n, x, y, h1, h2 => by
    rw [List.foldl_cons] at h1
    have hp := (List.getElem?_eq_some_iff.mp h2).1
    cases hh : hap rows m with
    | none =>
      have ea : apS rows a m = a := by unfold apS; rw [hh]
      rw [ea] at h1
      rw [ap_fold rows ms a p n x y h1 h2]
      constructor
      · rintro (h | ⟨m', hm', r⟩)
        · exact .inl h
        · exact .inr ⟨m', List.mem_cons_of_mem _ hm', r⟩
      · rintro (h | ⟨m', hm', k, r, rk⟩)
        · exact .inl h
        · rcases List.mem_cons.mp hm' with rfl | hm'
          · rw [hh] at r; cases r
          · exact .inr ⟨m', hm', k, r, rk⟩
    | some u =>
      obtain ⟨q, j⟩ := u
      have ea : apS rows a m = a.set q (max (a.getD q 0) (j + 1)) := by unfold apS; rw [hh]
      rw [ea] at h1
      by_cases e : q = p
      · subst e
        have h3 : (a.set q (max (a.getD q 0) (j + 1)))[q]? = some (max y (j + 1)) := by rw [List.getElem?_set_self hp, getD_of h2]
        rw [ap_fold rows ms _ q n x _ h1 h3]
        constructor
        · rintro (h | ⟨m', hm', r⟩)
          · by_cases hy : n < y
            · exact .inl hy
            · exact .inr ⟨m, List.mem_cons_self, j, hh, by omega⟩
          · exact .inr ⟨m', List.mem_cons_of_mem _ hm', r⟩
        · rintro (h | ⟨m', hm', k, r, rk⟩)
          · exact .inl (by omega)
          · rcases List.mem_cons.mp hm' with rfl | hm'
            · rw [hh] at r
              cases r
              exact .inl (by omega)
            · exact .inr ⟨m', hm', k, r, rk⟩
      · have h3 : (a.set q (max (a.getD q 0) (j + 1)))[p]? = some y := by rw [List.getElem?_set_ne e, h2]
        rw [ap_fold rows ms _ p n x _ h1 h3]
        constructor
        · rintro (h | ⟨m', hm', r⟩)
          · exact .inl h
          · exact .inr ⟨m', List.mem_cons_of_mem _ hm', r⟩
        · rintro (h | ⟨m', hm', k, r, rk⟩)
          · exact .inl h
          · rcases List.mem_cons.mp hm' with rfl | hm'
            · rw [hh] at r
              cases r
              exact absurd rfl e
            · exact .inr ⟨m', hm', k, r, rk⟩
theorem ap_of {rows : List (List Int)} {nx : Int → Int → Bool} {s : Nat × Nat} {L : List (Int × Nat)} (hD : Dist rows nx (rbB rows s) L) : IsAp rows nx s ((L.map (·.1)).foldl (apS rows) (List.replicate rows.length 0)) := by
  refine ⟨by rw [apS_len, List.length_replicate], fun p n x h => ?_⟩
  have hp := (List.getElem?_eq_some_iff.mp h).1
  rw [apS_len, List.length_replicate] at hp
  rw [ap_fold rows _ _ p n x 0 h (List.getElem?_replicate_of_lt hp)]
  constructor
  · rintro (h | ⟨m, hm, k, hk, hn⟩)
    · exact absurd h (Nat.not_lt_zero _)
    · obtain ⟨⟨m', c⟩, h1, rfl⟩ := List.mem_map.mp hm
      exact ⟨m', k, c, ((hD.mem _ _).mp h1).1, hk, hn⟩
  · rintro ⟨m, k, c, hd, hk, hn⟩
    obtain ⟨c', _, hl⟩ := hd.least
    exact .inr ⟨m, List.mem_map.mpr ⟨(m, c'), (hD.mem _ _).mpr hl, rfl⟩, k, hk, hn⟩
theorem w_apart {rows : List (List Int)} {many most : Nat} {nx : Int → Int → Bool} {kvs : List (Key × D)} {s : Nat × Nat} {S : Sto} {R : DK} (hG : Good many most rows) (h6 : many ≤ 6) (h60 : most ≤ 60) (hS : StepsAt S kvs rows nx)
    (q : ∀ l S', SG S S' → S l = none → S' l = some (.lst (natD (apL rows nx s))) → IsAp rows nx s (apL rows nx s) → R (.ref l) S') : dFn 9 B_first_apart_5683 [.tup (rowsD rows), tripsD rows, .dct kvs, stD s] S R := by
  have rl := hG.len
  have q : ∀ a l S', SG S S' → S l = none → S' l = some (.lst (natD a)) → IsAp rows nx s a → R (.ref l) S' := fun a l S' sg nl hl h => by
    have := q l S' sg nl
    rw [apL_eq h] at this
    exact this hl h
  refine ⟨_, rfl, _, rfl, lc_mapE rows rowD rfl (fun _ => some (D.int 0)) (by omega) (fun _ _ => True.intro) (fun row hr S1 sg K Kn hk _ => turn_y (hk _ rfl _ (.refl _))) fun l S1 nl sg1 hl => ?_⟩
  have e0 : (rows.filterMap fun _ => some (D.int 0)) = natD (List.replicate rows.length 0) := by
    rw [fm_map]
    unfold natD
    rw [List.map_replicate, List.map_const']
    rfl
  rw [e0] at hl
  refine ⟨_, rfl, _, rfl, _, rfl, rfl, w_dists (s := s) hG (hS.keep sg1) fun d L S2 sg2 nd hd hD => ⟨d, kvD L, rfl, hd, ?_⟩⟩
  have dl : l ≠ d := fun z => by rw [z, nd] at hl; cases hl
  have sg3 : SG S (S2.rem d) := sg1.trans (SG.rem sg2 nd)
  have hl3 : (S2.rem d) l = some (.lst (natD (List.replicate rows.length 0))) := by
    unfold Sto.rem
    rw [if_neg dl]
    exact sg2 _ _ (fun z => z) hl
  generalize S2.rem d = S3 at sg3 hl3 ⊢
  have hkeys : (kvD L).map (fun kv => kD kv.1) = (L.map (·.1)).map D.int := by
    unfold kvD
    rw [List.map_map, List.map_map]
    rfl
  have hrecv : ∀ m ∈ L.map (·.1), m ∈ recvL rows := fun m hm => by
    obtain ⟨⟨m', n⟩, h1, rfl⟩ := List.mem_map.mp hm
    exact ((hD.mem _ _).mp h1).1.mem
  have hap' := ap_of hD
  generalize L.map (·.1) = ms at hkeys hrecv hap'
  refine ⟨kvD L, rfl, fun i env S' => i ≤ ms.length ∧ ∃ x5 x6 x7 : Option D, env = [some (.tup (rowsD rows)), some (tripsD rows), some (.dct kvs), some (stD s), some (.ref l), x5, x6, x7, none] ∧ SG S S' ∧ S' l = some (.lst (natD ((ms.take i).foldl (apS rows) (List.replicate rows.length 0)))), ⟨Nat.zero_le _, _, _, _, rfl, sg3, hl3⟩, fun _ _ _ _ _ => True.intro, ?_, ?_⟩
  · rintro i e env S4 he ⟨hi0, x5, x6, x7, rfl, sg4, hl4⟩
    have he : ((kvD L).map fun kv => kD kv.1)[i]? = some e := he
    rw [hkeys, List.getElem?_map] at he
    obtain ⟨m, hm, rfl⟩ := Option.map_eq_some_iff.mp he
    have hi := (List.getElem?_eq_some_iff.mp hm).1
    have hmem := hrecv m (List.mem_of_getElem? hm)
    obtain ⟨m1, p, k, p', k', a5, a6, et⟩ := hap_trip hG hmem
    have tk := take_map hm
    have hlen : ((ms.take i).foldl (apS rows) (List.replicate rows.length 0)).length = rows.length := by rw [apS_len, List.length_replicate]
    have es : (ms.take (i + 1)).foldl (apS rows) (List.replicate rows.length 0) = ((ms.take i).foldl (apS rows) (List.replicate rows.length 0)).set p (max (((ms.take i).foldl (apS rows) (List.replicate rows.length 0)).getD p 0) (k + 1)) := by
      rw [tk, List.foldl_append]
      show apS rows _ m = _
      unfold apS
      rw [a5]
    generalize (ms.take i).foldl (apS rows) (List.replicate rows.length 0) = A at hl4 hlen es
    have hp : p < A.length := by rw [hlen]; exact Good.hap_lt a5
    have hA := List.getElem?_eq_getElem hp
    generalize A[p] = v at hA
    refine ⟨_, rfl, _, rfl, _, Sum.inl m, _, rfl, rfl, trips_get hmem, ?_⟩
    rw [et]
    refine ⟨_, 0, _, rfl, rfl, rfl, _, rfl, .inl (.inl rfl), _, _, rfl, _, _, rfl, rfl, ?_⟩
    refine ⟨_, rfl, _, rfl, _, (p : Int), _, seqOf_lst hl4, rfl, atI_nat (natD_at hA), _, rfl, _, _, rfl, _, rfl, _, rfl, l, _, (p : Int), p, rfl, rfl, hl4, by rw [natD_len]; exact ixnN' hp, ?_⟩
    have ev : (natD A).set p (.int (if (k : Int) + 1 > (v : Int) then (k : Int) + 1 else (v : Int))) = natD ((ms.take (i + 1)).foldl (apS rows) (List.replicate rows.length 0)) := by
      rw [es, getD_of hA]
      have : (if (k : Int) + 1 > (v : Int) then (k : Int) + 1 else (v : Int)) = ((max v (k + 1) : Nat) : Int) := by split <;> omega
      rw [this]
      unfold natD
      rw [List.map_set]
    rw [ev]
    exact ⟨hi, _, _, _, rfl, SG.keepP nl sg4 (.refl _), Sto.same⟩
  · rintro env S4 ⟨hi0, x5, x6, x7, rfl, sg4, hl4⟩
    have hl4 : S4 l = some (.lst (natD ((ms.take ((kvD L).map fun kv => kD kv.1).length).foldl (apS rows) (List.replicate rows.length 0)))) := hl4
    rw [hkeys, List.length_map, List.take_length] at hl4
    exact ⟨_, rfl, q _ l S4 sg4 nl hl4 hap'⟩
noncomputable def vecL (rows : List (List Int)) (nx : Int → Int → Bool) (s : Nat × Nat) : List Nat := (apL rows nx s).set s.1 s.2
theorem natD_app (a b : List Nat) : natD a ++ natD b = natD (a ++ b) := by
  unfold natD
  rw [List.map_append]
theorem cutN_to {cs : List Nat} {i : Nat} (h : i ≤ cs.length) : cutD (natD cs) none (some (i : Int)) = natD (cs.take i) := by
  rw [cutD_to (by rw [natD_len]; exact h)]
  unfold natD
  rw [List.map_take]
theorem cutN_from {cs : List Nat} {i : Nat} (h : i ≤ cs.length) : cutD (natD cs) (some (i : Int)) none = natD (cs.drop i) := by
  rw [cutD_from (by rw [natD_len]; exact h)]
  unfold natD
  rw [List.map_drop]
theorem set_cut {cs : List Nat} {p x : Nat} (h : p < cs.length) : cs.set p x = cs.take p ++ [x] ++ cs.drop (p + 1) := by
  rw [List.set_eq_take_append_cons_drop, if_pos h, List.append_assoc]
  rfl
theorem w_vector {rows : List (List Int)} {many most : Nat} {nx : Int → Int → Bool} {kvs : List (Key × D)} {s : Nat × Nat} {S : Sto} {R : DK} (hG : Good many most rows) (h6 : many ≤ 6) (h60 : most ≤ 60) (hs : s.1 < rows.length) (hS : StepsAt S kvs rows nx)
    (q : ∀ S', SG S S' → IsAp rows nx s (apL rows nx s) → R (.tup (natD (vecL rows nx s))) S') : dFn 7 B_vector_by_c0de [.tup (rowsD rows), tripsD rows, .dct kvs, stD s] S R := by
  have rl := hG.len
  refine ⟨_, rfl, _, rfl, .inl (.inl rfl), _, _, rfl, _, _, rfl, rfl, ?_⟩
  refine ⟨_, rfl, _, rfl, _, rfl, _, rfl, rfl, w_apart (s := s) hG h6 h60 hS fun l S1 sg1 nl hl hA => ?_⟩
  have al := hA.1
  refine ⟨_, rfl, _, rfl, _, rfl, _, hl, fun a na => ?_⟩
  rw [cutN_to (by omega)]
  have sga : SG S1 (S1.put a (.lst (natD ((apL rows nx s).take s.1)))) := .new na
  have hla := sga _ _ (fun z => z) hl
  have haa : (S1.put a (.lst (natD ((apL rows nx s).take s.1)))) a = _ := Sto.same
  generalize S1.put a (.lst (natD ((apL rows nx s).take s.1))) = S2 at sga hla haa ⊢
  refine ⟨_, rfl, rfl, fun b nb => ⟨_, _, (SK.new nb : SG _ _) _ _ (fun z => z) haa, Sto.same, ?_, fun c nc => ?_⟩⟩
  · rw [natD_len, List.length_take]
    show min s.1 _ + 1 ≤ 100000
    omega
  have sgc : SG S2 ((S2.put b (.lst [.int (s.2 : Int)])).put c (.lst (natD ((apL rows nx s).take s.1) ++ [.int (s.2 : Int)]))) := (SK.new nb : SG _ _).trans (.new nc)
  have hlc := sgc _ _ (fun z => z) hla
  have hcc : ((S2.put b (.lst [.int (s.2 : Int)])).put c (.lst (natD ((apL rows nx s).take s.1) ++ [.int (s.2 : Int)]))) c = some (.lst (natD ((apL rows nx s).take s.1 ++ [s.2]))) := by
    rw [Sto.same, ← natD_app]
    rfl
  have e1 : (s.1 : Int) + 1 = ((s.1 + 1 : Nat) : Int) := by omega
  generalize (S2.put b (.lst [.int (s.2 : Int)])).put c (.lst (natD ((apL rows nx s).take s.1) ++ [.int (s.2 : Int)])) = S3 at sgc hlc hcc ⊢
  refine ⟨_, rfl, _, rfl, _, rfl, _, hlc, fun d nd => ?_⟩
  rw [e1, cutN_from (by omega)]
  have sgd : SG S3 (S3.put d (.lst (natD ((apL rows nx s).drop (s.1 + 1))))) := .new nd
  refine ⟨_, _, sgd _ _ (fun z => z) hcc, Sto.same, ?_, fun e ne => ?_⟩
  · rw [natD_len, natD_len, List.length_append, List.length_take, List.length_drop]
    show min s.1 _ + 1 + _ ≤ 100000
    omega
  refine ⟨_, _, rfl, seqOf_lst Sto.same, fun ys z => (nomatch z), ?_⟩
  have := q _ ((((sg1.trans sga).trans sgc).trans sgd).trans (.new (o := .lst (natD ((apL rows nx s).take s.1 ++ [s.2]) ++ natD ((apL rows nx s).drop (s.1 + 1)))) ne)) hA
  unfold vecL at this
  rw [set_cut (by omega), ← natD_app] at this
  exact this
end Sv
set_option maxHeartbeats 400000
set_option autoImplicit false
namespace Sv
open PySem PySem.Spec PyProof.Rows L2
/-- a pair that find_untracked looks at: the first state of a process that does not come before b, but from which a zigzag leads to b -/
def Untr (rows : List (List Int)) (a b : Nat × Nat) : Prop :=
  b.1 < rows.length ∧ (∀ x, (prs rows)[b.1]? = some x → b.2 ≤ x) ∧ (vecL rows (cauB rows) b)[a.1]? = some a.2 ∧ ∃ x, (apL rows (stepB rows) b)[a.1]? = some x ∧ a.2 < x
abbrev Pr2 := (Nat × Nat) × (Nat × Nat)
def prpD (x : Pr2) : D := .tup [stD x.1, stD x.2]
def prpP (x : Pr2) : PyData := .tuple [pD ((x.1.1 : Int), (x.1.2 : Int)), pD ((x.2.1 : Int), (x.2.2 : Int))]
theorem pys_prp {S : Sto} : ∀ l : List Pr2, Pys S (l.map prpD) (l.map prpP)
  | [] => .nil
  | x :: l => .cons (.tup (.cons (py_pair _) (.cons (py_pair _) .nil))) (pys_prp l)
theorem prp_alike (x y : Pr2) : PySem.W.alike (prpP x) (prpP y) = true := by
  simp [prpP, pD, PySem.W.alike, PySem.W.alikeAll]
theorem prp_depth : ∀ l : List Pr2, PyData.depthAll (l.map prpP) ≤ 2
  | [] => by simp [PyData.depthAll]
  | x :: l => by
    have := prp_depth l
    simp only [List.map_cons, PyData.depthAll, prpP, pD, PyData.depth]
    omega
noncomputable def uOf (rows : List (List Int)) (b : Nat × Nat) : List Pr2 :=
  (((vecL rows (cauB rows) b).mapIdx fun p n => (p, n)).filter fun a => decide (a.2 < (apL rows (stepB rows) b).getD a.1 0)).map fun a => (a, b)
noncomputable def untU (rows : List (List Int)) (i : Nat) : List Pr2 := ((allU rows rows.length).take i).flatMap fun x => uOf rows (stN x)
theorem mem_pairsQ {α : Type} {cs : List α} {x : Nat × α} (h : x ∈ cs.mapIdx fun i c => (i, c)) : cs[x.1]? = some x.2 := by
  obtain ⟨i, hi⟩ := List.getElem?_of_mem h
  rw [List.getElem?_mapIdx] at hi
  obtain ⟨c, hc, e⟩ := Option.map_eq_some_iff.mp hi
  obtain ⟨e1, e2⟩ := Prod.mk.inj e
  rw [← e1, ← e2]
  exact hc
theorem vec_len {rows : List (List Int)} {nx : Int → Int → Bool} {s : Nat × Nat} (h : IsAp rows nx s (apL rows nx s)) : (vecL rows nx s).length = rows.length := by
  unfold vecL
  rw [List.length_set]
  exact h.1
theorem uOf_mem {rows : List (List Int)} {a b b' : Nat × Nat} (hz : IsAp rows (stepB rows) b (apL rows (stepB rows) b)) (hc : IsAp rows (cauB rows) b (apL rows (cauB rows) b)) : (a, b') ∈ uOf rows b ↔ b' = b ∧ (vecL rows (cauB rows) b)[a.1]? = some a.2 ∧ ∃ x, (apL rows (stepB rows) b)[a.1]? = some x ∧ a.2 < x := by
  unfold uOf
  rw [List.mem_map]
  have l1 := vec_len hc
  have l2 := hz.1
  constructor
  · rintro ⟨y, hy, e⟩
    obtain ⟨e1, e2⟩ := Prod.mk.inj e
    subst e1 e2
    obtain ⟨h1, h2⟩ := List.mem_filter.mp hy
    have h1 := mem_pairsQ h1
    have hp := (List.getElem?_eq_some_iff.mp h1).1
    have hx := List.getElem?_eq_getElem (l := apL rows (stepB rows) b) (i := y.1) (by omega)
    rw [getD_of hx] at h2
    exact ⟨rfl, h1, _, hx, of_decide_eq_true h2⟩
  · rintro ⟨rfl, h1, x, hx, hlt⟩
    refine ⟨a, List.mem_filter.mpr ⟨?_, by rw [getD_of hx]; exact decide_eq_true hlt⟩, rfl⟩
    refine List.mem_of_getElem? (i := a.1) ?_
    rw [List.getElem?_mapIdx, h1]
    rfl
theorem uOf_len {rows : List (List Int)} {b : Nat × Nat} (hc : IsAp rows (cauB rows) b (apL rows (cauB rows) b)) : (uOf rows b).length ≤ rows.length := by
  unfold uOf
  rw [List.length_map]
  refine Nat.le_trans (List.length_filter_le ..) ?_
  rw [List.length_mapIdx, vec_len hc]
  exact Nat.le_refl _
def LtR (y x : Pr2) : Prop := y.1.1 < x.1.1 ∨ (y.1.1 = x.1.1 ∧ (y.1.2 < x.1.2 ∨ (y.1.2 = x.1.2 ∧ (y.2.1 < x.2.1 ∨ (y.2.1 = x.2.1 ∧ y.2.2 < x.2.2)))))
theorem lt_prp (y x : Pr2) : PySem.W.dataLt (prpP y) (prpP x) = true ↔ LtR y x := by
  have al : ∀ a b : Int × Int, PySem.W.alike (pD a) (pD b) = true := fun a b => by simp [pD, PySem.W.alike, PySem.W.alikeAll]
  unfold prpP LtR
  rw [PySem.W.dataLt_tuple]
  by_cases h : (((y.1.1 : Nat) : Int), ((y.1.2 : Nat) : Int)) = (((x.1.1 : Nat) : Int), ((x.1.2 : Nat) : Int))
  · rw [PySem.W.dataLt_all_yes (al _ _) (by rw [pD_eqv]; exact decide_eq_true h)]
    obtain ⟨h1, h2⟩ := Prod.mk.inj h
    by_cases g : (((y.2.1 : Nat) : Int), ((y.2.2 : Nat) : Int)) = (((x.2.1 : Nat) : Int), ((x.2.2 : Nat) : Int))
    · rw [PySem.W.dataLt_all_yes (al _ _) (by rw [pD_eqv]; exact decide_eq_true g)]
      obtain ⟨g1, g2⟩ := Prod.mk.inj g
      constructor
      · intro z
        simp [PySem.W.keyToksAll, PyProof.Rows.lexLt, PyProof.Rows.itemLt] at z
      · intro z
        omega
    · rw [PySem.W.dataLt_all_no (al _ _) (by rw [pD_eqv]; exact decide_eq_false g), dataLt_pair, ltP_iff]
      show ((y.2.1 : Nat) : Int) < _ ∨ (((y.2.1 : Nat) : Int) = ((x.2.1 : Nat) : Int) ∧ ((y.2.2 : Nat) : Int) < ((x.2.2 : Nat) : Int)) ↔ _
      omega
  · rw [PySem.W.dataLt_all_no (al _ _) (by rw [pD_eqv]; exact decide_eq_false h), dataLt_pair, ltP_iff]
    have h' : ¬ (y.1.1 = x.1.1 ∧ y.1.2 = x.1.2) := fun z => h (by rw [z.1, z.2])
    show ((y.1.1 : Nat) : Int) < _ ∨ (((y.1.1 : Nat) : Int) = ((x.1.1 : Nat) : Int) ∧ ((y.1.2 : Nat) : Int) < ((x.1.2 : Nat) : Int)) ↔ _
    omega
theorem minD_prp : ∀ (r : List Pr2) (x : Pr2), ∃ m ∈ x :: r, PySem.W.minD (prpP x) (r.map prpP) = prpP m ∧ ∀ y ∈ x :: r, ¬ LtR y m
  | [], x => ⟨x, List.mem_cons_self, rfl, fun y hy => by rw [List.mem_singleton.mp hy]; unfold LtR; omega⟩
  | z :: r, x => by
    have e : PySem.W.minD (prpP x) ((z :: r).map prpP) = PySem.W.minD (if PySem.W.dataLt (prpP z) (prpP x) = true then prpP z else prpP x) (r.map prpP) := by
      unfold PySem.W.minD
      rw [List.map_cons, List.foldl_cons]
    by_cases c : PySem.W.dataLt (prpP z) (prpP x) = true
    · rw [if_pos c] at e
      obtain ⟨m, h1, h2, h3⟩ := minD_prp r z
      refine ⟨m, List.mem_cons_of_mem _ h1, e.trans h2, fun y hy => ?_⟩
      rcases List.mem_cons.mp hy with rfl | hy
      · have h4 := h3 z List.mem_cons_self
        have h5 := (lt_prp _ _).mp c
        unfold LtR at h4 h5 ⊢
        omega
      · exact h3 y hy
    · rw [if_neg c] at e
      obtain ⟨m, h1, h2, h3⟩ := minD_prp r x
      have hx := h3 x List.mem_cons_self
      refine ⟨m, ?_, e.trans h2, fun y hy => ?_⟩
      · rcases List.mem_cons.mp h1 with rfl | h1
        · exact List.mem_cons_self
        · exact List.mem_cons_of_mem _ (List.mem_cons_of_mem _ h1)
      · rcases List.mem_cons.mp hy with rfl | hy
        · exact h3 _ List.mem_cons_self
        · rcases List.mem_cons.mp hy with rfl | hy
          · have h5 : ¬ LtR y x := fun w => c ((lt_prp _ _).mpr w)
            unfold LtR at hx h5 ⊢
            omega
          · exact h3 y (List.mem_cons_of_mem _ hy)
theorem prpP_inj {x y : Pr2} (h : prpP x = prpP y) : x = y := by
  unfold prpP pD at h
  simp only [PyData.tuple.injEq, List.cons.injEq, PyData.int.injEq, Int.natCast_inj, and_true] at h
  exact Prod.ext (Prod.ext h.1.1 h.1.2) (Prod.ext h.2.1 h.2.2)
theorem w_untrM {rows : List (List Int)} {many most : Nat} {S : Sto} {R : DK} (hG : Good many most rows) (h6 : many ≤ 6) (h60 : most ≤ 60)
    (q1 : ∀ S', SG S S' → (∀ a b, ¬ Untr rows a b) → R .non S') (q2 : ∀ a b S', SG S S' → Untr rows a b → (∀ a' b', Untr rows a' b' → ¬ LtR (a', b') (a, b)) → R (prpD (a, b)) S') : dFn 10 B_find_untracked_6494 [.tup (rowsD rows)] S R := by
  have rl := hG.len
  have r60 := hG.row60 h60
  have al : (allU rows rows.length).length ≤ 372 := by
    have h2 := allU_len r60 rows.length
    have h3 : 62 * rows.length ≤ 62 * 6 := Nat.mul_le_mul_left _ (by omega)
    omega
  refine ⟨_, rfl, rfl, w_trips hG h6 h60 fun S1 sg1 => ?_⟩
  refine ⟨_, rfl, rfl, w_steps hG fun kz S2 sg2 hz => ⟨_, rfl, _, rfl, rfl, w_causal hG h6 h60 fun kc S3 sg3 hc => ⟨rfl, _, rfl, .inl (.inl rfl), _, _, rfl, _, _, rfl, rfl, ?_⟩⟩⟩
  have hz3 := hz.keep sg3
  have sg03 := (sg1.trans sg2).trans sg3
  refine ⟨rfl, fun f nf => ?_⟩
  have nfS : S f = none := by
    cases z : S f with
    | none => rfl
    | some o => rw [sg03 _ _ (fun z => z) z] at nf; cases nf
  have sgf : SG S3 (S3.put f (.lst [])) := .new nf
  have hf4 : (S3.put f (.lst [])) f = some (.lst ((untU rows 0).map prpD)) := Sto.same
  have hz4 := hz3.keep sgf
  have hc4 := hc.keep sgf
  have sg04 := sg03.trans sgf
  generalize S3.put f (.lst []) = S4 at sgf hf4 hz4 hc4 sg04 ⊢
  refine ⟨_, rfl, rfl, w_all (by omega) r60 fun t S5 sg5 ht => ⟨_, ⟨_, ht, rfl⟩, ?_⟩⟩
  have nft : f ≠ t := fun z => by
    have hh := sg5 _ _ (fun z => z) hf4
    rw [z, ht] at hh
    have e := congrArg List.length (Ob.lst.inj (Option.some.inj hh))
    rw [List.length_map, List.length_map] at e
    have e : (allU rows rows.length).length = 0 := e
    have h0 : 0 < rows.length := by omega
    have hm : (((0 : Nat) : Int), ((0 : Nat) : Int)) ∈ allU rows rows.length := by
      unfold allU
      refine List.mem_flatMap.mpr ⟨0, List.mem_range.mpr h0, ?_⟩
      unfold rowU
      exact List.mem_map.mpr ⟨0, List.mem_range.mpr (by omega), rfl⟩
    rw [List.eq_nil_of_length_eq_zero e] at hm
    exact nomatch hm
  refine ⟨fun i env S' => i ≤ (allU rows rows.length).length ∧ ∃ x5 x6 x7 : Option D, env = [some (.tup (rowsD rows)), some (tripsD rows), some (.dct kz), some (.dct kc), some (.ref f), x5, x6, x7, none, none] ∧ SG S S' ∧ SG S3 S' ∧ S' t = some (.lst ((allU rows rows.length).map prD)) ∧ S' f = some (.lst ((untU rows i).map prpD)) ∧ (untU rows i).length ≤ 6 * i ∧ ∀ a b, (a, b) ∈ untU rows i ↔ Untr rows a b ∧ (((b.1 : Nat) : Int), ((b.2 : Nat) : Int)) ∈ (allU rows rows.length).take i,
    ⟨Nat.zero_le _, _, _, _, rfl, sg04.trans sg5, sgf.trans sg5, ht, sg5 _ _ (fun z => z) hf4, Nat.le_refl _, fun a b => ⟨(fun h => nomatch h), (fun h => nomatch h.2)⟩⟩, fun i env S' _ h => ?_, ?_, ?_⟩
  · obtain ⟨_, _, _, _, _, _, _, h, _⟩ := h
    exact h
  · rintro i d env S6 hd ⟨hi0, x5, x6, x7, rfl, sg6, sg36, ht6, hf6, hlen, hmem⟩
    have hd : ((allU rows rows.length).map prD)[i]? = some d := hd
    rw [List.getElem?_map] at hd
    obtain ⟨x, hx, rfl⟩ := Option.map_eq_some_iff.mp hd
    have hi := (List.getElem?_eq_some_iff.mp hx).1
    have tk := take_map hx
    have hxm := List.mem_of_getElem? hx
    obtain ⟨p, n, hp, rfl⟩ := allU_mem hxm
    have hn : ∀ y, (prs rows)[p]? = some y → n ≤ y := by
      intro y hy
      unfold allU at hxm
      obtain ⟨q, hq, hm⟩ := List.mem_flatMap.mp hxm
      unfold rowU at hm
      obtain ⟨k, hk, e⟩ := List.mem_map.mp hm
      have hk := List.mem_range.mp hk
      obtain ⟨e1, e2⟩ := Prod.mk.inj e
      have e1 : q = p := Int.ofNat.inj e1
      have e2 : k = n := Int.ofNat.inj e2
      subst e1
      subst e2
      rw [hy] at hk
      have hk : k < y + 1 := hk
      omega
    have hz6 := hz3.keep sg36
    have hc6 := hc.keep sg36
    refine ⟨_, rfl, _, rfl, _, rfl, _, rfl, rfl, w_vector (s := (p, n)) hG h6 h60 hp hc6 fun S7 sg7 hAc => ?_⟩
    refine ⟨_, rfl, _, rfl, _, rfl, _, rfl, rfl, w_apart (s := (p, n)) hG h6 h60 (hz6.keep sg7) fun l S8 sg8 nl hl hAz => ?_⟩
    have hf8 := sg8 _ _ (fun z => z) (sg7 _ _ (fun z => z) hf6)
    have ht8 := sg8 _ _ (fun z => z) (sg7 _ _ (fun z => z) ht6)
    have vl := vec_len hAc
    have um := uOf_len hAc
    refine ⟨_, rfl, ⟨rfl, _, seqOf_lst hf8, noTup _⟩, _, rfl, _, _, rfl, rfl, lc_mapE ((vecL rows (cauB rows) (p, n)).mapIdx fun i c => (i, c)) (fun x => .tup [.int ((x.1 : Nat) : Int), .int ((x.2 : Nat) : Int)]) (enD_map (fun c : Nat => D.int (c : Int)) _)
      (fun x => if decide (x.2 < (apL rows (stepB rows) (p, n)).getD x.1 0) = true then some (prpD (x, (p, n))) else none) (by rw [List.length_mapIdx]; omega) (fun _ _ => True.intro) (fun x hx S9 sg K Kn hk hn => ?_) fun g S9 ng sg9 hg => ?_⟩
    · have hx1 := mem_pairsQ hx
      have hxp := (List.getElem?_eq_some_iff.mp hx1).1
      obtain ⟨v, hv⟩ : ∃ v, (apL rows (stepB rows) (p, n))[x.1]? = some v := ⟨_, List.getElem?_eq_getElem (by rw [hAz.1, ← vl]; exact hxp)⟩
      rw [getD_of hv] at hn
      have hk := hk (prpD (x, (p, n)))
      rw [getD_of hv] at hk
      refine ⟨_, rfl, .inl (.inl rfl), _, _, rfl, _, _, rfl, rfl, ?_⟩
      refine ⟨_, rfl, _, rfl, _, rfl, _, (x.1 : Int), _, seqOf_lst (sg _ _ (fun z => z) hl), rfl, atI_nat (natD_at hv), _, rfl, iteB (fun e => ?_) (fun e => ?_)⟩
      · have e : decide ((x.2 : Int) < (v : Int)) = true := e
        have e := of_decide_eq_true e
        exact ⟨_, rfl, _, rfl, rfl, _, rfl, rfl, hk (if_pos (decide_eq_true (by omega))) _ (.refl _)⟩
      · have e : decide ((x.2 : Int) < (v : Int)) = false := e
        have e := of_decide_eq_false e
        exact hn (by show (if _ = true then _ else _) = _; rw [decide_eq_false (by omega)]; rfl) _ (.refl _)
    · rw [fm_iteB] at hg
      have hg : S9 g = some (.lst ((uOf rows (p, n)).map prpD)) := by
        rw [hg]
        unfold uOf
        rw [List.map_map]
        rfl
      have hf9 := sg9 _ _ (fun z => z) hf8
      have eu : untU rows (i + 1) = untU rows i ++ uOf rows (p, n) := by
        unfold untU
        rw [tk, List.flatMap_append]
        show _ ++ (uOf rows (stN ((p : Int), (n : Int))) ++ []) = _
        rw [List.append_nil]
        rfl
      refine ⟨f, g, _, _, rfl, rfl, hf9, hg, by rw [List.length_map, List.length_map]; omega, hi, _, _, _, rfl, SG.keepP nfS (((sg6.trans sg7).trans sg8).trans sg9) (.refl _), SG.keepP nf (((sg36.trans sg7).trans sg8).trans sg9) (.refl _), (Sto.ne (Ne.symm nft)).trans (sg9 _ _ (fun z => z) ht8), ?_, ?_, fun a b => ?_⟩
      · rw [Sto.same, eu, List.map_append]
      · rw [eu, List.length_append]
        omega
      · rw [eu, List.mem_append, hmem, uOf_mem hAz hAc, tk, List.mem_append, List.mem_singleton]
        constructor
        · rintro (⟨h1, h2⟩ | ⟨rfl, h1, h2⟩)
          · exact ⟨h1, .inl h2⟩
          · exact ⟨⟨hp, hn, h1, h2⟩, .inr rfl⟩
        · rintro ⟨h1, h2 | h2⟩
          · exact .inl ⟨h1, h2⟩
          · have e1 : b.1 = p := Int.ofNat.inj (Prod.mk.inj h2).1
            have e2 : b.2 = n := Int.ofNat.inj (Prod.mk.inj h2).2
            have e3 : b = (p, n) := Prod.ext e1 e2
            rw [e3] at h1
            exact .inr ⟨e3, h1.2.2.1, h1.2.2.2⟩
  · rintro env S6 ⟨hi0, x5, x6, x7, rfl, sg6, sg36, ht6, hf6, hlen, hmem⟩
    have el : ((allU rows rows.length).map prD).length = (allU rows rows.length).length := List.length_map ..
    have hmem : ∀ a b, (a, b) ∈ untU rows ((allU rows rows.length).map prD).length ↔ Untr rows a b ∧ (((b.1 : Nat) : Int), ((b.2 : Nat) : Int)) ∈ (allU rows rows.length).take ((allU rows rows.length).map prD).length := hmem
    have hf6 : S6 f = some (.lst ((untU rows ((allU rows rows.length).map prD).length).map prpD)) := hf6
    rw [el] at hf6 hmem
    rw [List.take_length] at hmem
    generalize untU rows (allU rows rows.length).length = U at hf6 hmem
    refine ⟨_, rfl, rfl, f, _, _, rfl, hf6, pys_prp U, ⟨fun x hx y hy => ?_, fun x hx => ?_⟩, Nat.le_trans (prp_depth U) (by decide), fun h0 => ?_, fun p qs hpq j d hj hmin => ?_⟩
    · obtain ⟨x', _, rfl⟩ := List.mem_map.mp hx
      obtain ⟨y', _, rfl⟩ := List.mem_map.mp hy
      exact prp_alike x' y'
    · obtain ⟨x', _, rfl⟩ := List.mem_map.mp hx
      exact fun z => nomatch z
    · refine q1 _ sg6 fun a b h => ?_
      have hin : (((b.1 : Nat) : Int), ((b.2 : Nat) : Int)) ∈ allU rows rows.length := by
        unfold allU
        refine List.mem_flatMap.mpr ⟨b.1, List.mem_range.mpr h.1, ?_⟩
        have hpr := prsA (List.getElem?_eq_getElem h.1)
        have := h.2.1 _ hpr
        unfold rowU
        refine List.mem_map.mpr ⟨b.2, List.mem_range.mpr ?_, rfl⟩
        rw [hpr]
        show b.2 < _ + 1 + 1
        omega
      have := (hmem a b).mpr ⟨h, hin⟩
      rw [List.map_eq_nil_iff.mp h0] at this
      exact nomatch this
    · rw [List.getElem?_map] at hj
      obtain ⟨⟨a, b⟩, hab, rfl⟩ := Option.map_eq_some_iff.mp hj
      have hab2 : (U.map prpP)[j]? = some (prpP (a, b)) := by rw [List.getElem?_map, hab]; rfl
      rw [← hpq, hab2] at hmin
      have hin : ∀ a b, Untr rows a b → (a, b) ∈ U := fun a b h => by
        refine (hmem a b).mpr ⟨h, ?_⟩
        unfold allU
        refine List.mem_flatMap.mpr ⟨b.1, List.mem_range.mpr h.1, ?_⟩
        have hpr := prsA (List.getElem?_eq_getElem h.1)
        have := h.2.1 _ hpr
        unfold rowU
        refine List.mem_map.mpr ⟨b.2, List.mem_range.mpr ?_, rfl⟩
        rw [hpr]
        show b.2 < _ + 1 + 1
        omega
      refine q2 a b _ sg6 ((hmem a b).mp (List.mem_of_getElem? hab)).1 fun a' b' h' => ?_
      cases U with
      | nil => cases hab
      | cons u0 ur =>
        rw [List.map_cons] at hpq
        obtain ⟨rfl, rfl⟩ := List.cons.inj hpq
        obtain ⟨m, h1, h2, h3⟩ := minD_prp ur u0
        rw [h2] at hmin
        rw [prpP_inj (Option.some.inj hmin)]
        exact h3 _ (hin _ _ h')
theorem w_untr {rows : List (List Int)} {many most : Nat} {S : Sto} {R : DK} (hG : Good many most rows) (h6 : many ≤ 6) (h60 : most ≤ 60)
    (q1 : ∀ S', SG S S' → (∀ a b, ¬ Untr rows a b) → R .non S') (q2 : ∀ a b S', SG S S' → Untr rows a b → R (prpD (a, b)) S') : dFn 10 B_find_untracked_6494 [.tup (rowsD rows)] S R :=
  w_untrM hG h6 h60 q1 fun a b S' sg h _ => q2 a b S' sg h
open Classical in
/-- whether a history is tracked -/
noncomputable def trkB (rows : List (List Int)) : Bool := decide (∀ a b, ¬ Untr rows a b)
theorem trk_iff {rows : List (List Int)} : trkB rows = true ↔ ∀ a b, ¬ Untr rows a b := by
  classical
  unfold trkB
  exact decide_eq_true_iff
theorem w_tracked {rows : List (List Int)} {many most : Nat} {S : Sto} {R : DK} (hG : Good many most rows) (h6 : many ≤ 6) (h60 : most ≤ 60) (q : ∀ S', SG S S' → R (.bl (trkB rows)) S') : dFn 1 B_is_tracked_a4d2 [.tup (rowsD rows)] S R := by
  refine ⟨_, rfl, rfl, w_untr hG h6 h60 (fun S1 sg1 h => ?_) fun a b S1 sg1 h => ?_⟩
  · have := q S1 sg1
    rw [trk_iff.mpr h] at this
    exact this
  · have := q S1 sg1
    have e : trkB rows = false := by
      cases hb : trkB rows with
      | false => rfl
      | true => exact absurd h (trk_iff.mp hb a b)
    rw [e] at this
    exact this
end Sv
set_option maxHeartbeats 400000
set_option autoImplicit false
namespace Sv
open PySem PySem.Spec PyProof.Rows L2
theorem cnt_mono (row : List Int) {i j : Nat} (h : i ≤ j) : (row.take i).count 0 ≤ (row.take j).count 0 := by
  have : row.take i = (row.take j).take i := by rw [List.take_take, Nat.min_eq_left h]
  rw [this]
  exact List.Sublist.count_le _ (List.take_sublist _ _)
theorem cau_at {rows : List (List Int)} {m t : Int} (h : cauB rows m t = true) : ∃ (q i j : Nat) (row : List Int), rows[q]? = some row ∧ row[i]? = some (-m) ∧ row[j]? = some t ∧ i ≤ j ∧ i = row.idxOf (-m) := by
  unfold cauB at h
  rw [List.any_map, List.any_eq_true] at h
  obtain ⟨row, hr, h⟩ := h
  have h : cau1 m t row = true := h
  unfold cau1 at h
  rw [Bool.and_eq_true, decide_eq_true_iff, decide_eq_true_iff] at h
  obtain ⟨q, hq⟩ := List.getElem?_of_mem hr
  have hi := List.idxOf_lt_length_iff.mpr h.1
  obtain ⟨j, hj⟩ := List.getElem?_of_mem h.2
  rw [List.getElem?_drop] at hj
  exact ⟨q, _, _, row, hq, by rw [List.getElem?_eq_getElem hi, List.getElem_idxOf hi], hj, Nat.le_add_right _ _, rfl⟩
/-- a causal step is a step -/
theorem cau_step {rows : List (List Int)} {many most : Nat} (hG : Good many most rows) {m t : Int} (hm : m ∈ recvL rows) (ht : t ∈ recvL rows) (h : cauB rows m t = true) : stepB rows m t = true := by
  obtain ⟨q, i, j, row, hq, hi, hj, hij, _⟩ := cau_at h
  have m1 := names_mem.mp (List.mem_filter.mp hm).1
  have t1 := names_mem.mp (List.mem_filter.mp ht).1
  have e1 := hG.hap_at hq hi (by omega)
  have e2 := hG.hap_at hq hj (by omega)
  have e1 : hap rows (0 - m) = some (q, (row.take i).count 0) := by rw [Int.zero_sub]; exact e1
  rw [step_at e1]
  unfold sbB
  rw [e2]
  show (decide (q = q) && decide ((row.take i).count 0 ≤ (row.take j).count 0)) = true
  rw [decide_eq_true rfl, decide_eq_true (cnt_mono row hij)]
  rfl
theorem cau_dz {rows : List (List Int)} {many most : Nat} (hG : Good many most rows) {base : Int → Bool} {n : Nat} {m : Int} (h : Dz rows (cauB rows) base n m) : Dz rows (stepB rows) base n m := by
  induction h with
  | base h1 h2 => exact .base h1 h2
  | step h1 h2 h3 ih => exact .step h1 (cau_step hG h1 h3.mem h2) ih
theorem vec_own {rows : List (List Int)} {nx : Int → Int → Bool} {s : Nat × Nat} (hA : IsAp rows nx s (apL rows nx s)) (hs : s.1 < rows.length) : (vecL rows nx s)[s.1]? = some s.2 := by
  unfold vecL
  exact List.getElem?_set_self (by rw [hA.1]; exact hs)
theorem vec_ne {rows : List (List Int)} {nx : Int → Int → Bool} {s : Nat × Nat} {p : Nat} (h : p ≠ s.1) : (vecL rows nx s)[p]? = (apL rows nx s)[p]? := by
  unfold vecL
  exact List.getElem?_set_ne (Ne.symm h)
theorem ap_ex {rows : List (List Int)} {many most : Nat} (hG : Good many most rows) (nx : Int → Int → Bool) (s : Nat × Nat) : IsAp rows nx s (apL rows nx s) := by
  have key : ∃ L, Dist rows nx (rbB rows s) L := by
    have l24 := fun c => lv_len (rows := rows) (nx := nx) (base := rbB rows s) c
    -- levels end at last
    have fin : ∃ c, lvF rows nx (rbB rows s) (lvD rows nx (rbB rows s) c) c = [] := by
      refine Classical.byContradiction fun no => ?_
      have pos : ∀ c, lvF rows nx (rbB rows s) (lvD rows nx (rbB rows s) c) c ≠ [] := fun c z => no ⟨c, z⟩
      have grow : ∀ c, c ≤ (lvD rows nx (rbB rows s) c).length := by
        intro c
        induction c with
        | zero => exact Nat.zero_le _
        | succ c ih =>
          show c + 1 ≤ (lvD rows nx (rbB rows s) c ++ (lvF rows nx (rbB rows s) (lvD rows nx (rbB rows s) c) c).map fun m => (m, c + 1)).length
          rw [List.length_append, List.length_map]
          have := List.length_pos_iff.mpr (pos c)
          omega
      have := grow 25
      have := l24 25
      omega
    obtain ⟨c, hc⟩ := fin
    exact ⟨_, dist_of hc⟩
  obtain ⟨L, hL⟩ := key
  have h := ap_of hL
  rw [apL_eq h]
  exact h
end Sv
set_option autoImplicit false
namespace Sv
open PySem PySem.Spec PyProof.Rows L2
def tick (T : Nat → Nat → Nat) (p n N : Nat) : Nat → Nat → Nat := fun q i => if q = p ∧ i = n then N else T q i
def At (rows : List (List Int)) (p i : Nat) (e : Int) : Prop := ∃ row, rows[p]? = some row ∧ row[i]? = some e
structure Clock (rows : List (List Int)) (T : Nat → Nat → Nat) : Prop where
  incr : ∀ (p i i' : Nat) (row : List Int), rows[p]? = some row → i < i' → i' < row.length → T p i < T p i'
  msg : ∀ (m : Int) (p i q j : Nat), 0 < m → At rows p i m → At rows q j (0 - m) → T p i < T q j
theorem at_push {r : List (List Int)} {p : Nat} {row : List Int} {v : Int} (h : r[p]? = some row) {q i : Nat} {e : Int} (ha : At (r.set p (row ++ [v])) q i e) : At r q i e ∨ (q = p ∧ i = row.length ∧ e = v) := by
  obtain ⟨row', h1, h2⟩ := ha
  rw [List.getElem?_set] at h1
  split at h1
  · rename_i e1
    subst e1
    split at h1
    · rw [← Option.some.inj h1] at h2
      by_cases hi : i < row.length
      · rw [List.getElem?_append_left hi] at h2
        exact .inl ⟨row, h, h2⟩
      · rw [List.getElem?_append_right (by omega)] at h2
        have hz : i - row.length = 0 := by
          have := (List.getElem?_eq_some_iff.mp h2).1
          simp at this
          omega
        rw [hz] at h2
        exact .inr ⟨rfl, by omega, (Option.some.inj h2).symm⟩
    · cases h1
  · exact .inl ⟨row', h1, h2⟩
theorem push_at {r : List (List Int)} {p : Nat} {row : List Int} {v : Int} (h : r[p]? = some row) {q i : Nat} {e : Int} (ha : At r q i e) : At (r.set p (row ++ [v])) q i e := by
  obtain ⟨row', h1, h2⟩ := ha
  by_cases e1 : p = q
  · subst e1
    rw [h] at h1
    obtain rfl := Option.some.inj h1
    refine ⟨row ++ [v], List.getElem?_set_self (List.getElem?_eq_some_iff.mp h).1, ?_⟩
    rw [List.getElem?_append_left (List.getElem?_eq_some_iff.mp h2).1]
    exact h2
  · exact ⟨row', by rw [List.getElem?_set_ne e1]; exact h1, h2⟩
/-- a new event at the end of a row; no pair of events of a message has the new one first -/
theorem Clock.push {r : List (List Int)} {T : Nat → Nat → Nat} {N p : Nat} {row : List Int} {v : Int} (c : Clock r T) (hN : ∀ (q i : Nat) (row' : List Int), r[q]? = some row' → i < row'.length → T q i < N) (h : r[p]? = some row)
    (hv : ∀ (q j : Nat), At (r.set p (row ++ [v])) q j (0 - v) → 0 < v → False) : Clock (r.set p (row ++ [v])) (tick T p row.length N) ∧ ∀ (q i : Nat) (row' : List Int), (r.set p (row ++ [v]))[q]? = some row' → i < row'.length → tick T p row.length N q i < N + 1 := by
  have old : ∀ {q i : Nat} {e : Int}, At r q i e → tick T p row.length N q i = T q i := fun {q i e} ha => by
    obtain ⟨row', h1, h2⟩ := ha
    unfold tick
    rw [if_neg]
    rintro ⟨rfl, rfl⟩
    rw [h] at h1
    obtain rfl := Option.some.inj h1
    have := (List.getElem?_eq_some_iff.mp h2).1
    omega
  have new : tick T p row.length N p row.length = N := if_pos ⟨rfl, rfl⟩
  have lt : ∀ {q i : Nat} {e : Int}, At r q i e → T q i < N := fun {q i e} ⟨row', h1, h2⟩ => hN q i row' h1 (List.getElem?_eq_some_iff.mp h2).1
  refine ⟨⟨fun q i i' row' h1 hlt hl => ?_, fun m q i q' j hm h1 h2 => ?_⟩, fun q i row' h1 hl => ?_⟩
  · have a1 : At (r.set p (row ++ [v])) q i row'[i] := ⟨row', h1, List.getElem?_eq_getElem (by omega)⟩
    have a2 : At (r.set p (row ++ [v])) q i' row'[i'] := ⟨row', h1, List.getElem?_eq_getElem hl⟩
    rcases at_push h a1 with b1 | ⟨b1, b2, _⟩
    · rcases at_push h a2 with b3 | ⟨b3, b4, _⟩
      · rw [old b1, old b3]
        obtain ⟨row2, c1, c2⟩ := b3
        exact c.incr q i i' row2 c1 hlt (List.getElem?_eq_some_iff.mp c2).1
      · rw [old b1, b3, b4, new]
        exact b3 ▸ lt b1
    · rcases at_push h a2 with ⟨row2, c1, c2⟩ | ⟨b3, b4, _⟩
      · rw [b1, h] at c1
        obtain rfl := Option.some.inj c1
        have := (List.getElem?_eq_some_iff.mp c2).1
        omega
      · omega
  · rcases at_push h h2 with b3 | ⟨b3, b4, b5⟩
    · rcases at_push h h1 with b1 | ⟨b1, b2, b6⟩
      · rw [old b1, old b3]
        exact c.msg m q i q' j hm b1 b3
      · subst b6
        exact (hv q' j (push_at h b3) hm).elim
    · rcases at_push h h1 with b1 | ⟨b1, b2, b6⟩
      · rw [old b1, b3, b4, new]
        exact lt b1
      · omega
  · have a1 : At (r.set p (row ++ [v])) q i row'[i] := ⟨row', h1, List.getElem?_eq_getElem hl⟩
    rcases at_push h a1 with b1 | ⟨b1, b2, _⟩
    · rw [old b1]
      exact Nat.lt_succ_of_lt (lt b1)
    · rw [b1, b2, new]
      exact Nat.lt_succ_self _
theorem Good.sent_of {many most : Nat} {rows : List (List Int)} (h : Good many most rows) {q j : Nat} {m : Int} (hm : 0 < m) (h1 : At rows q j (0 - m)) : ∃ p i, At rows p i m := by
  obtain ⟨c, nm, o, u, k, _, _, hp, g, _⟩ := h
  obtain ⟨row, h2, h3⟩ := h1
  have h4 : (0 - m) ∈ rows.flatten := List.mem_flatten.mpr ⟨row, List.mem_of_getElem? h2, List.mem_of_getElem? h3⟩
  have h5 : m ∈ negs rows.flatten := List.mem_map.mpr ⟨0 - m, List.mem_filter.mpr ⟨h4, decide_eq_true (by omega)⟩, by omega⟩
  have h6 := (g.once hp).2.mem_iff.mp (List.mem_append_left _ h5)
  have h7 := (g.once hp).1.mem_iff.mpr h6
  obtain ⟨r, hr, hmr⟩ := List.mem_flatten.mp (List.mem_filter.mp h7).1
  obtain ⟨p, hp1⟩ := List.getElem?_of_mem hr
  obtain ⟨i, hi⟩ := List.getElem?_of_mem hmr
  exact ⟨p, i, r, hp1, hi⟩
theorem Good.at_once {many most : Nat} {rows : List (List Int)} (h : Good many most rows) {p i p' i' : Nat} {e : Int} (he : e ≠ 0) (h1 : At rows p i e) (h2 : At rows p' i' e) : p = p' ∧ i = i' := by
  obtain ⟨c, nm, o, u, k, _, _, hp, g, _⟩ := h
  have hc := g.count hp he
  obtain ⟨r, a1, a2⟩ := h1
  obtain ⟨r', b1, b2⟩ := h2
  have m1 := List.mem_of_getElem? a2
  have m2 := List.mem_of_getElem? b2
  have e1 : p = p' := by
    rcases Nat.lt_trichotomy p p' with z | z | z
    · have := count_two z a1 b1 m1 m2; omega
    · exact z
    · have := count_two z b1 a1 m2 m1; omega
  subst e1
  obtain rfl : r = r' := Option.some.inj (a1.symm.trans b1)
  have hle := Nat.le_trans (count_at a1) hc
  exact ⟨rfl, (idx_once a2 hle).symm.trans (idx_once b2 hle)⟩
theorem Grown.clock {c : Nat} {nm : List Int} {r : List (List Int)} {o : List (Int × Int)} {u k : Nat} (hp : nm.Perm names24) (h : Grown c nm r o u k) : ∃ T N, Clock r T ∧ ∀ (q i : Nat) (row : List Int), r[q]? = some row → i < row.length → T q i < N := by
  induction h with
  | start =>
    have no : ∀ {q i : Nat} {e : Int}, ¬ At (List.replicate c []) q i e := fun {q i e} ⟨row, h1, h2⟩ => by
      rw [(List.mem_replicate.mp (List.mem_of_getElem? h1)).2] at h2
      cases h2
    refine ⟨fun _ _ => 0, 0, ⟨fun p i i' row h1 hlt hl => ?_, fun m p i q j _ h1 _ => (no h1).elim⟩, fun q i row h1 hl => ?_⟩
    · exact (no ⟨row, h1, List.getElem?_eq_getElem hl⟩).elim
    · exact (no ⟨row, h1, List.getElem?_eq_getElem hl⟩).elim
  | skip _ ih => exact ih
  | save g hr ih =>
    obtain ⟨T, N, c1, c2⟩ := ih
    obtain ⟨d1, d2⟩ := c1.push c2 hr (v := 0) fun q j _ z => by omega
    exact ⟨_, _, d1, d2⟩
  | @send r o u k p row m g hr hm ih =>
    obtain ⟨T, N, c1, c2⟩ := ih
    obtain ⟨d1, d2⟩ := c1.push c2 hr (v := m) fun q j ha hm0 => by
      have hc : 1 ≤ c := by
        have := g.len
        have := (List.getElem?_eq_some_iff.mp hr).1
        omega
      have G1 : Good c k r := ⟨c, nm, o, u, k, hc, Nat.le_refl _, hp, g, Nat.le_refl _⟩
      have G2 : Good c (k + 1) (r.set p (row ++ [m])) := ⟨c, nm, _, _, _, hc, Nat.le_refl _, hp, .send g hr hm, Nat.le_refl _⟩
      rcases at_push hr ha with b | ⟨_, _, b⟩
      · obtain ⟨p0, i0, s0⟩ := G1.sent_of hm0 b
        have n1 : At (r.set p (row ++ [m])) p row.length m := ⟨row ++ [m], List.getElem?_set_self (List.getElem?_eq_some_iff.mp hr).1, by rw [List.getElem?_append_right (Nat.le_refl _), Nat.sub_self]; rfl⟩
        obtain ⟨e1, e2⟩ := G2.at_once (by omega) (push_at hr s0) n1
        obtain ⟨row0, f1, f2⟩ := s0
        rw [e1, hr] at f1
        obtain rfl := Option.some.inj f1
        have := (List.getElem?_eq_some_iff.mp f2).1
        omega
      · omega
    exact ⟨_, _, d1, d2⟩
  | @recv r o u k row j m q p g hr ho hq ih =>
    obtain ⟨T, N, c1, c2⟩ := ih
    have h0 := (g.small hp).2 (m, q) (List.mem_of_getElem? ho)
    obtain ⟨d1, d2⟩ := c1.push c2 hr (v := 0 - m) fun q' j' ha hm0 => by
      have h1 : 1 ≤ m := h0.1
      omega
    exact ⟨_, _, d1, d2⟩
theorem Good.clock {many most : Nat} {rows : List (List Int)} (h : Good many most rows) : ∃ T, Clock rows T := by
  obtain ⟨c, nm, o, u, k, _, _, hp, g, _⟩ := h
  obtain ⟨T, N, c1, _⟩ := g.clock hp
  exact ⟨T, c1⟩
end Sv
set_option maxHeartbeats 400000
set_option autoImplicit false
namespace Sv
open PySem PySem.Spec PyProof.Rows L2
theorem hap_AtQ {rows : List (List Int)} {e : Int} {p k : Nat} (h : hap rows e = some (p, k)) : ∃ row i, rows[p]? = some row ∧ row[i]? = some e ∧ k = (row.take i).count 0 ∧ At rows p i e := by
  obtain ⟨row, i, h1, h2, h3⟩ := hap_inv h
  exact ⟨row, i, h1, h2, h3, row, h1, h2⟩
theorem dz_clock {rows : List (List Int)} {many most : Nat} (hG : Good many most rows) {T : Nat → Nat → Nat} (c : Clock rows T) {t : Nat × Nat} {n : Nat} {m : Int} (h : Dz rows (cauB rows) (rbB rows t) n m) :
    ∀ (p i : Nat), At rows p i m → ∃ (j : Nat) (row : List Int), rows[t.1]? = some row ∧ j < row.length ∧ (row.take j).count 0 < t.2 ∧ T p i < T t.1 j := by
  induction h with
  | @base m h1 h2 =>
    intro p i ha
    have m1 := names_mem.mp (List.mem_filter.mp h1).1
    obtain ⟨u, hu⟩ := recv_hap h1
    obtain ⟨e1, e2⟩ := (rb_iff hu).mp h2
    obtain ⟨row, j, g1, g2, g3, g4⟩ := hap_AtQ (p := u.1) (k := u.2) hu
    rw [e1] at g1 g4
    exact ⟨j, row, g1, (List.getElem?_eq_some_iff.mp g2).1, by omega, c.msg m p i t.1 j (by omega) ha g4⟩
  | @step n m t' h1 h2 h3 ih =>
    intro p i ha
    have m1 := names_mem.mp (List.mem_filter.mp h1).1
    have t1 := names_mem.mp (List.mem_filter.mp h3.mem).1
    obtain ⟨q, a, b, row, hq, hqa, hqb, hab, _⟩ := cau_at h2
    obtain ⟨j, row', g1, g2, g3, g4⟩ := ih q b ⟨row, hq, hqb⟩
    have s1 : T p i < T q a := c.msg m p i q a (by omega) ha ⟨row, hq, by rw [Int.zero_sub]; exact hqa⟩
    have s2 : T q a ≤ T q b := by
      rcases Nat.lt_or_ge a b with z | z
      · exact Nat.le_of_lt (c.incr q a b row hq z (List.getElem?_eq_some_iff.mp hqb).1)
      · have : a = b := by omega
        rw [this]
        exact Nat.le_refl _
    exact ⟨j, row', g1, g2, g3, by omega⟩
/-- no state comes before itself by messages -/
theorem ap_irr {rows : List (List Int)} {many most : Nat} (hG : Good many most rows) {s : Nat × Nat} {ap : List Nat} (hA : IsAp rows (cauB rows) s ap) {x : Nat} (hx : ap[s.1]? = some x) : x ≤ s.2 := by
  refine Nat.le_of_not_lt fun hlt => ?_
  obtain ⟨m, k, c, hd, hk, hn⟩ := (hA.2 s.1 s.2 x hx).mp hlt
  obtain ⟨T, hc⟩ := hG.clock
  obtain ⟨row, i, h1, h2, h3, h4⟩ := hap_AtQ hk
  obtain ⟨j, row', g1, g2, g3, g4⟩ := dz_clock hG hc hd s.1 i h4
  rw [h1] at g1
  cases g1
  have hji : j < i := by
    refine Nat.lt_of_not_le fun z => ?_
    have := cnt_mono row z
    omega
  have := hc.incr s.1 j i row h1 hji (List.getElem?_eq_some_iff.mp h2).1
  omega
theorem ap_vec {rows : List (List Int)} {many most : Nat} (hG : Good many most rows) {s : Nat × Nat} (hs : s.1 < rows.length) {p x v : Nat} (hx : (apL rows (cauB rows) s)[p]? = some x) (hv : (vecL rows (cauB rows) s)[p]? = some v) : x ≤ v := by
  have hA := ap_ex hG (cauB rows) s
  by_cases e : p = s.1
  · subst e
    rw [vec_own hA hs] at hv
    cases hv
    exact ap_irr hG hA hx
  · rw [vec_ne e, hx] at hv
    cases hv
    exact Nat.le_refl _
end Sv
set_option maxHeartbeats 1000000
set_option autoImplicit false
namespace Sv
open PySem PySem.Spec PyProof.Rows L2
def OrdRow (row : List Int) : Prop := ∀ (i j : Nat) (d e : Int), row[i]? = some d → row[j]? = some e → i < j → 0 < d → e < 0 → (row.take i).count 0 < (row.take j).count 0
def OrdR (rows : List (List Int)) : Prop := ∀ row ∈ rows, OrdRow row
theorem ord_cau {rows : List (List Int)} {many most : Nat} (hO : OrdR rows) (hG : Good many most rows) {m t : Int} (hm : m ∈ recvL rows) (ht : t ∈ recvL rows) (h : stepB rows m t = true) : cauB rows m t = true := by
  have m1 := names_mem.mp (List.mem_filter.mp hm).1
  have t1 := names_mem.mp (List.mem_filter.mp ht).1
  obtain ⟨⟨q, j⟩, hu⟩ := recv_hap hm
  rw [step_at hu] at h
  obtain ⟨k, ht2, hjk⟩ := sb_iff.mp h
  obtain ⟨row, a, h1, h2, h3, h4⟩ := hap_AtQ hu
  obtain ⟨row', b, g1, g2, g3, g4⟩ := hap_AtQ ht2
  rw [h1] at g1
  cases g1
  rw [Int.zero_sub] at h2
  have hmem : -m ∈ row := List.mem_of_getElem? h2
  have hix := List.idxOf_lt_length_iff.mpr hmem
  have hia : row.idxOf (-m) = a := by
    have e1 : row[row.idxOf (-m)]? = some (-m) := by rw [List.getElem?_eq_getElem hix, List.getElem_idxOf hix]
    exact (hG.at_once (by omega : -m ≠ 0) ⟨row, h1, e1⟩ ⟨row, h1, h2⟩).2
  have hab : a ≤ b := by
    refine Nat.le_of_not_lt fun z => ?_
    have := hO row (List.mem_of_getElem? h1) b a t (-m) g2 h2 z (by omega) (by omega)
    omega
  unfold cauB
  rw [List.any_map, List.any_eq_true]
  refine ⟨row, List.mem_of_getElem? h1, ?_⟩
  show cau1 m t row = true
  unfold cau1
  rw [decide_eq_true hmem, Bool.true_and, decide_eq_true_iff, hia]
  refine List.mem_of_getElem? (i := b - a) ?_
  rw [List.getElem?_drop, show a + (b - a) = b by omega]
  exact g2
theorem ord_dz {rows : List (List Int)} {many most : Nat} (hO : OrdR rows) (hG : Good many most rows) {base : Int → Bool} {n : Nat} {m : Int} (h : Dz rows (stepB rows) base n m) : Dz rows (cauB rows) base n m := by
  induction h with
  | base h1 h2 => exact .base h1 h2
  | step h1 h2 h3 ih => exact .step h1 (ord_cau hO hG h1 h3.mem h2) ih
/-- such a history is tracked -/
theorem ord_trk {rows : List (List Int)} {many most : Nat} (hO : OrdR rows) (hG : Good many most rows) : ∀ a b, ¬ Untr rows a b := by
  rintro a b ⟨h1, h2, hv, x, hx, hlt⟩
  have hAz := ap_ex hG (stepB rows) b
  have hA : IsAp rows (cauB rows) b (apL rows (stepB rows) b) := ⟨hAz.1, fun p n x hx => (hAz.2 p n x hx).trans ⟨fun ⟨m, k, c, hd, r⟩ => ⟨m, k, c, ord_dz hO hG hd, r⟩, fun ⟨m, k, c, hd, r⟩ => ⟨m, k, c, cau_dz hG hd, r⟩⟩⟩
  have e := apL_eq hA
  rw [← e] at hx
  have := ap_vec hG h1 hx hv
  omega
/-- nothing is sent in the last interval -/
def Quiet (row : List Int) : Prop := ∀ (i : Nat) (d : Int), row[i]? = some d → 0 < d → (row.take i).count 0 < row.count 0
def OrdB (row : List Int) (b : Bool) : Prop := OrdRow row ∧ (b = false → Quiet row)
theorem snoc_at {row : List Int} {v d : Int} {i : Nat} (h : (row ++ [v])[i]? = some d) : (i < row.length ∧ row[i]? = some d) ∨ (i = row.length ∧ d = v) := by
  by_cases z : i < row.length
  · rw [List.getElem?_append_left z] at h
    exact .inl ⟨z, h⟩
  · rw [List.getElem?_append_right (by omega)] at h
    have hi : i - row.length = 0 := by
      rcases Nat.eq_zero_or_pos (i - row.length) with z | z
      · exact z
      · rw [List.getElem?_eq_none (by simp; omega)] at h; cases h
    rw [hi] at h
    exact .inr ⟨by omega, (Option.some.inj h).symm⟩
theorem take_snoc {row : List Int} {v : Int} {i : Nat} (h : i ≤ row.length) : (row ++ [v]).take i = row.take i := List.take_append_of_le_length h
theorem cnt_le (row : List Int) (i : Nat) : (row.take i).count 0 ≤ row.count 0 := (List.take_sublist i row).count_le 0
theorem cnt_snoc (row : List Int) (v : Int) : (row ++ [v]).count 0 = row.count 0 + (if v = 0 then 1 else 0) := by
  rw [List.count_append]
  by_cases z : v = 0
  · subst z; rfl
  · rw [if_neg z]
    have : List.count 0 [v] = 0 := List.count_eq_zero.mpr fun h => z (List.mem_singleton.mp h).symm
    rw [this]
theorem ord_snoc {row : List Int} {v : Int} (h : OrdRow row) (hv : v < 0 → Quiet row) : OrdRow (row ++ [v]) := by
  intro i j d e hi hj hij hd he
  rcases snoc_at hj with ⟨zj, hj⟩ | ⟨zj, rfl⟩
  · rcases snoc_at hi with ⟨zi, hi⟩ | ⟨zi, rfl⟩
    · rw [take_snoc (by omega), take_snoc (by omega)]
      exact h i j d e hi hj hij hd he
    · omega
  · rcases snoc_at hi with ⟨zi, hi⟩ | ⟨zi, rfl⟩
    · rw [take_snoc (by omega), take_snoc (by omega), zj, List.take_length]
      exact hv he i d hi hd
    · omega
theorem quiet_save (row : List Int) : Quiet (row ++ [0]) := by
  intro i d hi hd
  rw [cnt_snoc, if_pos rfl]
  rcases snoc_at hi with ⟨zi, hi⟩ | ⟨zi, rfl⟩
  · rw [take_snoc (by omega)]
    have := cnt_le row i
    omega
  · omega
theorem quiet_recv {row : List Int} (h : Quiet row) {v : Int} (hv : v < 0) : Quiet (row ++ [v]) := by
  intro i d hi hd
  rw [cnt_snoc, if_neg (by omega)]
  rcases snoc_at hi with ⟨zi, hi⟩ | ⟨zi, rfl⟩
  · rw [take_snoc (by omega)]
    exact h i d hi hd
  · omega
theorem ordB_save {row : List Int} {b : Bool} (h : OrdB row b) (b' : Bool) : OrdB (row ++ [0]) b' := ⟨ord_snoc h.1 fun z => by omega, fun _ => quiet_save row⟩
theorem ordB_send {row : List Int} {b : Bool} (h : OrdB row b) {v : Int} (hv : 0 < v) : OrdB (row ++ [v]) true := ⟨ord_snoc h.1 fun z => by omega, fun z => nomatch z⟩
theorem ordB_recv {row : List Int} (h : OrdB row false) {v : Int} (hv : v < 0) (b' : Bool) : OrdB (row ++ [v]) b' := ⟨ord_snoc h.1 fun _ => h.2 rfl, fun _ => quiet_recv (h.2 rfl) hv⟩
/-- rows with who is busy -/
def OrdS (rows : List (List Int)) (bs : List Bool) : Prop := bs.length = rows.length ∧ ∀ (p : Nat) (row : List Int) (b : Bool), rows[p]? = some row → bs[p]? = some b → OrdB row b
theorem OrdS.set {rows : List (List Int)} {bs : List Bool} (h : OrdS rows bs) (p : Nat) {row : List Int} {b : Bool} (hb : OrdB row b) : OrdS (rows.set p row) (bs.set p b) := by
  refine ⟨by rw [List.length_set, List.length_set]; exact h.1, fun q r c h1 h2 => ?_⟩
  by_cases z : p = q
  · subst z
    obtain ⟨i1, e1⟩ := List.getElem?_eq_some_iff.mp h1
    rw [List.getElem?_set_self (by rw [List.length_set] at i1; exact i1)] at h1
    obtain ⟨i2, e2⟩ := List.getElem?_eq_some_iff.mp h2
    rw [List.getElem?_set_self (by rw [List.length_set] at i2; exact i2)] at h2
    cases h1
    cases h2
    exact hb
  · rw [List.getElem?_set_ne z] at h1 h2
    exact h.2 q r c h1 h2
theorem OrdS.at {rows : List (List Int)} {bs : List Bool} (h : OrdS rows bs) {p : Nat} (hp : p < rows.length) : OrdB (rows.getD p []) (bs.getD p false) := by
  have hb : p < bs.length := by rw [h.1]; exact hp
  refine h.2 p _ _ ?_ ?_
  · rw [List.getD_eq_getElem?_getD, List.getElem?_eq_getElem hp]; rfl
  · rw [List.getD_eq_getElem?_getD, List.getElem?_eq_getElem hb]; rfl
theorem set_getD {α : Type} {l : List α} {p : Nat} {d : α} : l.set p (l.getD p d) = l := by
  by_cases h : p < l.length
  · rw [List.getD_eq_getElem?_getD, List.getElem?_eq_getElem h]
    exact List.set_getElem_self h
  · exact List.set_eq_of_length_le (by omega)
def isBusy : RK → Prop
  | .sent => True
  | .always => True
  | _ => False
theorem Plan.ord {k : RK} (hk : isBusy k) {c : Nat} {as : List Act} {o : List (Int × Int)} {u : Nat} (h : Plan c as o u) : OrdS (runK k c as).rows (runK k c as).st.bs := by
  induction h with
  | nil =>
    refine ⟨by show (List.replicate c false).length = (List.replicate c ([] : List Int)).length; rw [List.length_replicate, List.length_replicate], fun p row b h1 h2 => ?_⟩
    have e := List.eq_of_mem_replicate (List.mem_of_getElem? h1)
    subst e
    exact ⟨fun i j d e hi => by simp at hi, fun _ i d hi => by simp at hi⟩
  | @save as o u p g hp ih =>
    have rl := (g.run (k := k)).len
    have h1 := ih.at (by rw [rl]; exact hp)
    rw [runK_snoc]
    cases k with
    | sent => exact ih.set p (ordB_save h1 false)
    | always => exact ih.set p (ordB_save h1 false)
    | _ => exact hk.elim
  | @send as o u p g hp hu ih =>
    have rl := (g.run (k := k)).len
    have h1 := ih.at (by rw [rl]; exact hp)
    rw [runK_snoc]
    cases k with
    | sent => exact ih.set p (ordB_send h1 (by omega))
    | always => exact ih.set p (ordB_send h1 (by omega))
    | _ => exact hk.elim
  | @recv as o u p j m q g hp hj hq ih =>
    have rl := (g.run (k := k)).len
    have hpl : p < (runK k c as).rows.length := by rw [rl]; exact hp
    have h1 := ih.at hpl
    have hm := (g.mem _ (List.mem_of_getElem? hj)).1
    have hm : 0 - m < 0 := by dsimp only at hm; omega
    rw [runK_snoc]
    generalize runK k c as = r at ih rl hpl h1
    cases k with
    | sent =>
      show OrdS (app r.rows p ((if r.st.bs.getD p false = true then [0] else []) ++ [0 - m])) (if r.st.bs.getD p false = true then ({ r.st with w := r.st.w + 1, bs := r.st.bs.set p false } : RSt) else r.st).bs
      by_cases e : r.st.bs.getD p false = true
      · rw [if_pos e, if_pos e]
        unfold app
        rw [← List.append_assoc]
        exact ih.set p (ordB_recv (ordB_save h1 false) hm false)
      · rw [if_neg e, if_neg e, List.nil_append]
        have e' : r.st.bs.getD p false = false := by cases z : r.st.bs.getD p false <;> simp_all
        rw [e'] at h1
        have z := ih.set p (ordB_recv h1 hm (r.st.bs.getD p false))
        rw [set_getD] at z
        exact z
    | always =>
      show OrdS (app r.rows p ((if r.st.bs.getD p false = true then [0] else []) ++ [0 - m])) (if r.st.bs.getD p false = true then ({ r.st with w := r.st.w + 1, bs := (r.st.bs.set p false).set p true } : RSt) else { r.st with bs := r.st.bs.set p true }).bs
      by_cases e : r.st.bs.getD p false = true
      · rw [if_pos e, if_pos e]
        unfold app
        rw [← List.append_assoc, List.set_set]
        exact ih.set p (ordB_recv (ordB_save h1 false) hm true)
      · rw [if_neg e, if_neg e, List.nil_append]
        have e' : r.st.bs.getD p false = false := by cases z : r.st.bs.getD p false <;> simp_all
        rw [e'] at h1
        exact ih.set p (ordB_recv h1 hm true)
    | _ => exact hk.elim
theorem OrdS.ord {rows : List (List Int)} {bs : List Bool} (h : OrdS rows bs) : OrdR rows := fun row hr => by
  obtain ⟨p, hp⟩ := List.mem_iff_getElem?.mp hr
  have hl := (List.getElem?_eq_some_iff.mp hp).1
  exact (h.2 p row _ hp (List.getElem?_eq_getElem (by rw [h.1]; exact hl))).1
end Sv
set_option maxHeartbeats 1000000
set_option autoImplicit false
namespace Sv
open PySem PySem.Spec PyProof.Rows L2
theorem pys_bl7 {S : Sto} : ∀ l : List Bool, Pys S (l.map D.bl) (l.map PyData.bool)
  | [] => .nil
  | b :: l => .cons (.bl b) (pys_bl7 l)
theorem bl7_depth : ∀ l : List Bool, PyData.depthAll (l.map PyData.bool) = 0
  | [] => by simp [PyData.depthAll]
  | b :: l => by simp [PyData.depthAll, PyData.depth, bl7_depth l]
theorem bl7_lay : ∀ l : List Bool, PyData.canLayAll0 (l.map PyData.bool) = true
  | [] => by simp [PyData.canLayAll0]
  | b :: l => by simp [PyData.canLayAll0, PyData.canLay0, bl7_lay l]
theorem bl7_shaped (l : List Bool) : SeqAt.shaped (.list (l.map PyData.bool)) = true ∧ SeqAt.shaped (.tuple (l.map PyData.bool)) = true := by
  have h1 := bl7_lay l
  have h2 := bl7_depth l
  constructor
  · show (PyData.canLay0 (.list (l.map PyData.bool)) && decide (PyData.depth (.list (l.map PyData.bool)) ≤ 64)) = true
    simp only [PyData.canLay0, PyData.depth, h1, h2, Bool.true_and]
    decide
  · show (PyData.canLay0 (.tuple (l.map PyData.bool)) && decide (PyData.depth (.tuple (l.map PyData.bool)) ≤ 64)) = true
    simp only [PyData.canLay0, PyData.depth, h1, h2, Bool.true_and]
    decide
def pStep (ps : List (List Int)) (e : Int) : List (List Int) := if e = 0 then ps ++ [[]] else ps.dropLast ++ [ps.getLast?.getD [] ++ [e]]
def partsR (row : List Int) : List (List Int) := row.foldl pStep [[]]
theorem parts_snoc (row : List Int) (e : Int) : partsR (row ++ [e]) = pStep (partsR row) e := by unfold partsR; rw [List.foldl_append]; rfl
theorem pStep_zero (ps : List (List Int)) : pStep ps 0 = ps ++ [[]] := if_pos rfl
theorem pStep_ev (ini : List (List Int)) (l : List Int) {e : Int} (h : e ≠ 0) : pStep (ini ++ [l]) e = ini ++ [l ++ [e]] := by
  unfold pStep
  rw [if_neg h, List.dropLast_concat, List.getLast?_append]
  rfl
def PG (k : RK) (l : List Int) : Prop := l.Pairwise (fun x y => 0 < x → 0 < y) ∧ (k = .always → (l.map fun x => decide (0 < x)).count false ≤ 1)
def PQ : RK → List Int → Prop
  | .always, l => l = []
  | _, l => ∀ x ∈ l, ¬ 0 < x
def PInv (k : RK) (row : List Int) (b : Bool) : Prop := ∃ ini l, partsR row = ini ++ [l] ∧ (∀ q ∈ ini ++ [l], PG k q) ∧ (b = false → PQ k l)
theorem pg_nil (k : RK) : PG k [] := ⟨.nil, fun _ => Nat.zero_le _⟩
theorem pq_nil (k : RK) : PQ k [] := by cases k <;> first | rfl | exact fun x hx => (nomatch hx)
theorem pinv_save {k : RK} {row : List Int} {b : Bool} (h : PInv k row b) (b' : Bool) : PInv k (row ++ [0]) b' := by
  obtain ⟨ini, l, e, hg, _⟩ := h
  refine ⟨ini ++ [l], [], by rw [parts_snoc, e, pStep_zero], fun q hq => ?_, fun _ => pq_nil k⟩
  rcases List.mem_append.mp hq with z | z
  · exact hg q z
  · rw [List.mem_singleton.mp z]; exact pg_nil k
theorem pw_snoc {l : List Int} {v : Int} (h : l.Pairwise (fun x y => 0 < x → 0 < y)) (hv : ∀ x ∈ l, 0 < x → 0 < v) : (l ++ [v]).Pairwise (fun x y => 0 < x → 0 < y) :=
  List.pairwise_append.mpr ⟨h, List.pairwise_singleton .., fun x hx y hy => by rw [List.mem_singleton.mp hy]; exact hv x hx⟩
theorem pinv_ev {k : RK} {row : List Int} {b b' : Bool} (h : PInv k row b) {v : Int} (v0 : v ≠ 0) (hv : ∀ l, PG k l → (b = false → PQ k l) → PG k (l ++ [v]) ∧ (b' = false → PQ k (l ++ [v]))) : PInv k (row ++ [v]) b' := by
  obtain ⟨ini, l, e, hg, hb⟩ := h
  have hl := hv l (hg l (List.mem_append.mpr (.inr (List.mem_singleton_self _)))) hb
  refine ⟨ini, l ++ [v], by rw [parts_snoc, e, pStep_ev _ _ v0], fun q hq => ?_, hl.2⟩
  rcases List.mem_append.mp hq with z | z
  · exact hg q (List.mem_append.mpr (.inl z))
  · rw [List.mem_singleton.mp z]; exact hl.1
theorem pinv_send {k : RK} {row : List Int} {b : Bool} (h : PInv k row b) {v : Int} (hv : 0 < v) : PInv k (row ++ [v]) true :=
  pinv_ev h (by omega) fun l hg _ => ⟨⟨pw_snoc hg.1 fun _ _ _ => hv, fun ek => by
    rw [List.map_append, List.count_append]
    have : (([v] : List Int).map fun x => decide (0 < x)).count false = 0 := by
      show [decide (0 < v)].count false = 0
      rw [decide_eq_true hv]
      rfl
    rw [this]
    exact hg.2 ek⟩, fun z => nomatch z⟩
theorem pinv_recvS {row : List Int} (h : PInv .sent row false) {v : Int} (hv : v < 0) (b' : Bool) : PInv .sent (row ++ [v]) b' :=
  pinv_ev h (by omega) fun l hg hq => by
    have q : ∀ x ∈ l, ¬ 0 < x := hq rfl
    refine ⟨⟨pw_snoc hg.1 fun x hx z => absurd z (q x hx), fun e => nomatch e⟩, fun _ => ?_⟩
    show ∀ x ∈ l ++ [v], ¬ 0 < x
    intro x hx
    rcases List.mem_append.mp hx with z | z
    · exact q x z
    · rw [List.mem_singleton.mp z]; omega
theorem pinv_recvA {row : List Int} (h : PInv .always row false) {v : Int} (hv : v < 0) : PInv .always (row ++ [v]) true :=
  pinv_ev h (by omega) fun l hg hq => by
    have q : l = [] := hq rfl
    subst q
    refine ⟨⟨List.pairwise_singleton .., fun _ => ?_⟩, fun z => nomatch z⟩
    exact Nat.le_trans List.count_le_length (by show 1 ≤ 1; decide)
def PS (k : RK) (rows : List (List Int)) (bs : List Bool) : Prop := bs.length = rows.length ∧ ∀ (p : Nat) (row : List Int) (b : Bool), rows[p]? = some row → bs[p]? = some b → PInv k row b
theorem PS.set {k : RK} {rows : List (List Int)} {bs : List Bool} (h : PS k rows bs) (p : Nat) {row : List Int} {b : Bool} (hb : PInv k row b) : PS k (rows.set p row) (bs.set p b) := by
  refine ⟨by rw [List.length_set, List.length_set]; exact h.1, fun q r c h1 h2 => ?_⟩
  by_cases z : p = q
  · subst z
    have i1 := (List.getElem?_eq_some_iff.mp h1).1
    have i2 := (List.getElem?_eq_some_iff.mp h2).1
    rw [List.length_set] at i1 i2
    rw [List.getElem?_set_self i1] at h1
    rw [List.getElem?_set_self i2] at h2
    cases h1
    cases h2
    exact hb
  · rw [List.getElem?_set_ne z] at h1 h2
    exact h.2 q r c h1 h2
theorem PS.at {k : RK} {rows : List (List Int)} {bs : List Bool} (h : PS k rows bs) {p : Nat} (hp : p < rows.length) : PInv k (rows.getD p []) (bs.getD p false) := by
  refine h.2 p _ _ ?_ ?_
  · rw [List.getD_eq_getElem?_getD, List.getElem?_eq_getElem hp]; rfl
  · rw [List.getD_eq_getElem?_getD, List.getElem?_eq_getElem (by rw [h.1]; exact hp)]; rfl
theorem Plan.parts {k : RK} (hk : isBusy k) {c : Nat} {as : List Act} {o : List (Int × Int)} {u : Nat} (h : Plan c as o u) : PS k (runK k c as).rows (runK k c as).st.bs := by
  induction h with
  | nil =>
    refine ⟨by show (List.replicate c false).length = (List.replicate c ([] : List Int)).length; rw [List.length_replicate, List.length_replicate], fun p row b h1 h2 => ?_⟩
    have e := List.eq_of_mem_replicate (List.mem_of_getElem? h1)
    subst e
    exact ⟨[], [], rfl, fun q hq => by rw [List.mem_singleton.mp hq]; exact pg_nil k, fun _ => pq_nil k⟩
  | @save as o u p g hp ih =>
    have rl := (g.run (k := k)).len
    have h1 := ih.at (by rw [rl]; exact hp)
    rw [runK_snoc]
    cases k with
    | sent => exact ih.set p (pinv_save h1 false)
    | always => exact ih.set p (pinv_save h1 false)
    | _ => exact hk.elim
  | @send as o u p g hp hu ih =>
    have rl := (g.run (k := k)).len
    have h1 := ih.at (by rw [rl]; exact hp)
    rw [runK_snoc]
    cases k with
    | sent => exact ih.set p (pinv_send h1 (by omega))
    | always => exact ih.set p (pinv_send h1 (by omega))
    | _ => exact hk.elim
  | @recv as o u p j m q g hp hj hq ih =>
    have rl := (g.run (k := k)).len
    have hpl : p < (runK k c as).rows.length := by rw [rl]; exact hp
    have h1 := ih.at hpl
    have hm := (g.mem _ (List.mem_of_getElem? hj)).1
    have hm : 0 - m < 0 := by dsimp only at hm; omega
    rw [runK_snoc]
    generalize runK k c as = r at ih rl hpl h1
    cases k with
    | sent =>
      show PS .sent (app r.rows p ((if r.st.bs.getD p false = true then [0] else []) ++ [0 - m])) (if r.st.bs.getD p false = true then ({ r.st with w := r.st.w + 1, bs := r.st.bs.set p false } : RSt) else r.st).bs
      by_cases e : r.st.bs.getD p false = true
      · rw [if_pos e, if_pos e]
        unfold app
        rw [← List.append_assoc]
        exact ih.set p (pinv_recvS (pinv_save h1 false) hm false)
      · rw [if_neg e, if_neg e, List.nil_append]
        have e' : r.st.bs.getD p false = false := by cases z : r.st.bs.getD p false <;> simp_all
        rw [e'] at h1
        have z := ih.set p (pinv_recvS h1 hm (r.st.bs.getD p false))
        rw [set_getD] at z
        exact z
    | always =>
      show PS .always (app r.rows p ((if r.st.bs.getD p false = true then [0] else []) ++ [0 - m])) (if r.st.bs.getD p false = true then ({ r.st with w := r.st.w + 1, bs := (r.st.bs.set p false).set p true } : RSt) else { r.st with bs := r.st.bs.set p true }).bs
      by_cases e : r.st.bs.getD p false = true
      · rw [if_pos e, if_pos e]
        unfold app
        rw [← List.append_assoc, List.set_set]
        exact ih.set p (pinv_recvA (pinv_save h1 false) hm)
      · rw [if_neg e, if_neg e, List.nil_append]
        have e' : r.st.bs.getD p false = false := by cases z : r.st.bs.getD p false <;> simp_all
        rw [e'] at h1
        exact ih.set p (pinv_recvA h1 hm)
    | _ => exact hk.elim
theorem PS.all {k : RK} {rows : List (List Int)} {bs : List Bool} (h : PS k rows bs) : ∀ row ∈ rows, ∀ l ∈ partsR row, PG k l := fun row hr l hl => by
  obtain ⟨p, hp⟩ := List.mem_iff_getElem?.mp hr
  have hpl := (List.getElem?_eq_some_iff.mp hp).1
  obtain ⟨ini, q, e, hg, _⟩ := h.2 p row _ hp (List.getElem?_eq_getElem (by rw [h.1]; exact hpl))
  rw [e] at hl
  exact hg l hl
theorem parts_ne (row : List Int) : ∃ ini l, partsR row = ini ++ [l] := by
  have : ∀ n, ∀ row : List Int, row.length = n → ∃ ini l, partsR row = ini ++ [l] := by
    intro n
    induction n with
    | zero => intro row h; rw [List.length_eq_zero_iff.mp h]; exact ⟨[], [], rfl⟩
    | succ n ih =>
      intro row h
      have hne : row ≠ [] := fun z => by rw [z] at h; cases h
      obtain ⟨r, e, rfl⟩ : ∃ r e, row = r ++ [e] := ⟨row.dropLast, row.getLast hne, (List.dropLast_concat_getLast hne).symm⟩
      obtain ⟨ini, l, q⟩ := ih r (by rw [List.length_append, List.length_singleton] at h; omega)
      rw [parts_snoc, q]
      by_cases z : e = 0
      · rw [z, pStep_zero]; exact ⟨_, _, rfl⟩
      · rw [pStep_ev _ _ z]; exact ⟨_, _, rfl⟩
  exact this _ row rfl
theorem parts_len (row : List Int) : (partsR row).length ≤ row.length + 1 ∧ ∀ l ∈ partsR row, l.length ≤ row.length := by
  have : ∀ n, ∀ row : List Int, row.length = n → (partsR row).length ≤ row.length + 1 ∧ ∀ l ∈ partsR row, l.length ≤ row.length := by
    intro n
    induction n with
    | zero => intro row h; rw [List.length_eq_zero_iff.mp h]; exact ⟨Nat.le_refl _, fun l hl => by rw [List.mem_singleton.mp hl]; exact Nat.le_refl _⟩
    | succ n ih =>
      intro row h
      have hne : row ≠ [] := fun z => by rw [z] at h; cases h
      obtain ⟨r, e, rfl⟩ : ∃ r e, row = r ++ [e] := ⟨row.dropLast, row.getLast hne, (List.dropLast_concat_getLast hne).symm⟩
      have hr : r.length = n := by rw [List.length_append, List.length_singleton] at h; omega
      obtain ⟨h1, h2⟩ := ih r hr
      obtain ⟨ini, l, q⟩ := parts_ne r
      rw [parts_snoc, List.length_append, List.length_singleton]
      rw [q] at h1 h2 ⊢
      rw [List.length_append, List.length_singleton] at h1
      by_cases z : e = 0
      · rw [z, pStep_zero, List.length_append, List.length_append, List.length_singleton, List.length_singleton]
        refine ⟨by omega, fun x hx => ?_⟩
        rcases List.mem_append.mp hx with y | y
        · have := h2 x y; omega
        · rw [List.mem_singleton.mp y]; exact Nat.zero_le _
      · rw [pStep_ev _ _ z, List.length_append, List.length_singleton]
        refine ⟨by omega, fun x hx => ?_⟩
        rcases List.mem_append.mp hx with y | y
        · have := h2 x (List.mem_append.mpr (.inl y)); omega
        · have := h2 l (List.mem_append.mpr (.inr (List.mem_singleton_self _)))
          rw [List.mem_singleton.mp y, List.length_append, List.length_singleton]
          omega
  exact this _ row rfl
structure LAt (S : Sto) (f : Addr) (zs : List (Addr × List Int)) : Prop where
  lst : S f = some (.lst (zs.map fun z => D.ref z.1))
  row : ∀ z ∈ zs, S z.1 = some (.lst (intsD z.2))
theorem LAt.keep {S S' : Sto} {f : Addr} {zs : List (Addr × List Int)} (h : LAt S f zs) (k : SG S S') : LAt S' f zs := ⟨k _ _ (fun z => z) h.lst, fun z hz => k _ _ (fun z => z) (h.row z hz)⟩
theorem cutD_neg (xs : List D) (d : D) : cutD (xs ++ [d]) none (some (-1)) = xs := by
  have e2 : cutD (xs ++ [d]) none (some (-1)) = cutD (xs ++ [d]) none (some ((xs.length : Nat) : Int)) := by
    unfold cutD HT.sIx
    simp only [List.drop_zero]
    simp
    rw [if_neg (by omega), show (-1 + ((xs.length : Int) + 1)).toNat = xs.length by omega]
  rw [e2, cutD_to (by rw [List.length_append]; omega), List.take_left']
  rfl
theorem w_parts {row : List Int} {S : Sto} {R : DK} (hl : row.length ≤ 1000) (k : ∀ f zs S', SG S S' → LAt S' f zs → zs.map (·.2) = partsR row → R (.ref f) S') : dFn 3 B_law_parts_4773 [.tup (intsD row)] S R := by
  refine ⟨rfl, fun a na => ⟨rfl, fun f nf => ?_⟩⟩
  have sg0 : SG S ((S.put a (.lst [])).put f (.lst [.ref a])) := (SK.new na).trans (.new nf)
  have L0 : LAt ((S.put a (.lst [])).put f (.lst [.ref a])) f [(a, [])] := ⟨Sto.same, fun z hz => by
    rw [List.mem_singleton.mp hz]
    exact (SK.new (P := fun _ => False) nf) _ _ (fun z => z) Sto.same⟩
  generalize (S.put a (.lst [])).put f (.lst [.ref a]) = S0 at sg0 L0 ⊢
  refine ⟨_, rfl, _, rfl, fun i env S' => i ≤ row.length ∧ ∃ (g : Addr) (zs : List (Addr × List Int)) (x2 : Option D), env = [some (.tup (intsD row)), some (.ref g), x2] ∧ LAt S' g zs ∧ zs.map (·.2) = partsR (row.take i) ∧ SG S S', ⟨Nat.zero_le _, f, _, _, rfl, L0, rfl, sg0⟩, fun _ _ _ _ _ => True.intro, ?_, ?_⟩
  · rintro i d env S1 hd ⟨hi0, g, zs, x2, rfl, L1, hz, sg1⟩
    have hd : (intsD row)[i]? = some d := hd
    unfold intsD at hd
    rw [List.getElem?_map] at hd
    obtain ⟨e, he, rfl⟩ := Option.map_eq_some_iff.mp hd
    have hi : i < row.length := (List.getElem?_eq_some_iff.mp he).1
    have ht : row.take (i + 1) = row.take i ++ [e] := by rw [List.take_add_one, he]; rfl
    have pl := parts_len (row.take i)
    rw [← hz, List.length_map, List.length_take] at pl
    refine ⟨_, rfl, _, rfl, iteB (fun h => ?_) (fun h => ?_)⟩
    · have e0 : e = 0 := of_decide_eq_true (show decide (e = 0) = true by rw [← xor_ff (decide (e = 0))]; exact h)
      refine ⟨_, rfl, rfl, fun b nb => ⟨rfl, fun c nc => ?_⟩⟩
      have s2 : SG S1 ((S1.put b (.lst [])).put c (.lst [.ref b])) := (SK.new nb).trans (.new nc)
      have hb : ((S1.put b (.lst [])).put c (.lst [.ref b])) b = some (.lst []) := (SK.new (P := fun _ => False) nc) _ _ (fun z => z) Sto.same
      have hc : ((S1.put b (.lst [])).put c (.lst [.ref b])) c = some (.lst [.ref b]) := Sto.same
      generalize (S1.put b (.lst [])).put c (.lst [.ref b]) = S2 at s2 hb hc ⊢
      have L2 := L1.keep s2
      refine ⟨_, _, L2.lst, hc, by rw [List.length_map]; show _ + 1 ≤ _; omega, fun q nq => ?_⟩
      have s3 := SK.new (P := fun _ => False) (o := .lst ((zs.map fun z => D.ref z.1) ++ [.ref b])) nq
      refine ⟨hi, q, zs ++ [(b, [])], _, rfl, ⟨by rw [Sto.same, List.map_append]; rfl, fun z hz' => ?_⟩, by rw [List.map_append, hz, ht, parts_snoc, e0, pStep_zero]; rfl, (sg1.trans s2).trans s3⟩
      refine s3 _ _ (fun z => z) ?_
      rcases List.mem_append.mp hz' with y | y
      · exact L2.row z y
      · rw [List.mem_singleton.mp y]; exact hb
    · have e0 : e ≠ 0 := of_decide_eq_false (show decide (e = 0) = false by rw [← xor_ff (decide (e = 0))]; exact h)
      obtain ⟨ini, l, hp⟩ := parts_ne (row.take i)
      have zne : zs ≠ [] := fun z => by rw [z, hp] at hz; simp at hz
      obtain ⟨zi, zl, rfl⟩ : ∃ zi zl, zs = zi ++ [zl] := ⟨zs.dropLast, zs.getLast zne, (List.dropLast_concat_getLast zne).symm⟩
      obtain ⟨za, zv⟩ := zl
      rw [List.map_append, List.map_singleton, hp] at hz
      obtain ⟨hz1, hz2⟩ := List.append_inj' hz rfl
      have hz2 : zv = l := List.singleton_inj.mp hz2
      subst hz2
      have hg : S1 g = some (.lst ((zi.map fun z => D.ref z.1) ++ [.ref za])) := by rw [L1.lst, List.map_append]; rfl
      have hzv := L1.row (za, zv) (List.mem_append.mpr (.inr (List.mem_singleton_self _)))
      have pzv := pl.2 zv (by rw [List.map_append, List.map_singleton]; exact List.mem_append.mpr (.inr (List.mem_singleton_self _)))
      rw [List.length_append, List.length_singleton] at pl
      refine ⟨_, rfl, -1, rfl, _, hg, fun q nq => ?_⟩
      rw [cutD_neg]
      have s2 := SK.new (P := fun _ => False) (o := .lst (zi.map fun z => D.ref z.1)) nq
      have hq : (S1.put q (.lst (zi.map fun z => D.ref z.1))) q = _ := Sto.same
      generalize S1.put q (.lst (zi.map fun z => D.ref z.1)) = S2 at s2 hq ⊢
      have hg2 := s2 _ _ (fun z => z) hg
      refine ⟨_, rfl, _, -1, _, seqOf_lst hg2, rfl, atI_last, _, rfl, rfl, fun b nb => ?_⟩
      have s3 := SK.new (P := fun _ => False) (o := .lst [.int e]) nb
      have hb : (S2.put b (.lst [.int e])) b = some (.lst [.int e]) := Sto.same
      generalize S2.put b (.lst [.int e]) = S3 at s3 hb ⊢
      have s13 := s2.trans s3
      refine ⟨_, _, s13 _ _ (fun z => z) hzv, hb, by rw [intsD_len]; show zv.length + 1 ≤ _; omega, fun c nc => ⟨rfl, fun d nd => ?_⟩⟩
      have s4 : SG S3 ((S3.put c (.lst (intsD zv ++ [.int e]))).put d (.lst [.ref c])) := (SK.new nc).trans (.new nd)
      have hc : ((S3.put c (.lst (intsD zv ++ [.int e]))).put d (.lst [.ref c])) c = some (.lst (intsD zv ++ [.int e])) := (SK.new (P := fun _ => False) nd) _ _ (fun z => z) Sto.same
      have hd' : ((S3.put c (.lst (intsD zv ++ [.int e]))).put d (.lst [.ref c])) d = some (.lst [.ref c]) := Sto.same
      generalize (S3.put c (.lst (intsD zv ++ [.int e]))).put d (.lst [.ref c]) = S4 at s4 hc hd' ⊢
      refine ⟨_, _, s4 _ _ (fun z => z) (s3 _ _ (fun z => z) hq), hd', by rw [List.length_map]; show _ + 1 ≤ _; omega, fun h nh => ?_⟩
      have s5 := SK.new (P := fun _ => False) (o := .lst ((zi.map fun z => D.ref z.1) ++ [.ref c])) nh
      have s15 := (s13.trans s4).trans s5
      refine ⟨hi, h, zi ++ [(c, zv ++ [e])], _, rfl, ⟨by rw [Sto.same, List.map_append]; rfl, fun z hz' => ?_⟩, ?_, sg1.trans s15⟩
      · rcases List.mem_append.mp hz' with y | y
        · exact s15 _ _ (fun z => z) (L1.row z (List.mem_append.mpr (.inl y)))
        · rw [List.mem_singleton.mp y]
          refine s5 _ _ (fun z => z) (hc.trans ?_)
          show some (Ob.lst (intsD zv ++ [.int e])) = some (Ob.lst (intsD (zv ++ [e])))
          unfold intsD
          rw [List.map_append]
          rfl
      · rw [List.map_append, hz1, ht, parts_snoc, hp, pStep_ev _ _ e0]
        rfl
  · rintro env S1 ⟨_, g, zs, x2, rfl, L1, hz, sg1⟩
    have e : (⟨intsD row, fun _ => True⟩ : Src).items.length = row.length := intsD_len _
    rw [e, List.take_length] at hz
    exact ⟨_, rfl, k g zs S1 sg1 L1 hz⟩
def sgn (l : List Int) : List Bool := l.map fun e => decide (0 < e)
theorem sgn_sorted {l : List Int} (h : l.Pairwise (fun x y => 0 < x → 0 < y)) : (sgn l).mergeSort (PySem.W.dataLe false PyData.bool) = sgn l := by
  refine List.mergeSort_of_pairwise ?_
  unfold sgn
  rw [List.pairwise_map]
  refine h.imp fun {x y} hxy => ?_
  by_cases z : 0 < x
  · rw [decide_eq_true z, decide_eq_true (hxy z)]; decide +kernel
  · rw [decide_eq_false z]
    cases decide (0 < y) <;> decide +kernel
theorem w_ordered {k : RK} {rows : List (List Int)} {S : Sto} {R : DK} (h6 : rows.length ≤ 1000) (h60 : ∀ r ∈ rows, r.length ≤ 60) (hg : ∀ row ∈ rows, ∀ l ∈ partsR row, PG k l) (kk : ∀ S', SG S S' → R (.bl true) S') :
    dFn 6 B_law_ordered_231a [.str k.name, .tup (rowsD rows)] S R := by
  refine ⟨_, rfl, _, rfl, fun i env S' => ∃ x2 x3 x4 x5 : Option D, env = [some (.str k.name), some (.tup (rowsD rows)), x2, x3, x4, x5] ∧ SG S S', ⟨_, _, _, _, rfl, .refl _⟩, fun _ _ _ _ _ => True.intro, ?_, ?_⟩
  · rintro i d env S1 hd ⟨x2, x3, x4, x5, rfl, sg1⟩
    have hd : (rowsD rows)[i]? = some d := hd
    unfold rowsD at hd
    rw [List.getElem?_map] at hd
    obtain ⟨row, hr, rfl⟩ := Option.map_eq_some_iff.mp hd
    have hm := List.mem_of_getElem? hr
    have r60 := h60 row hm
    have hp := hg row hm
    have pl := parts_len row
    refine ⟨_, rfl, rfl, w_parts (by omega) fun f zs S2 sg2 L2 hz => ?_⟩
    refine ⟨_, ⟨_, L2.lst, rfl⟩, fun j env S' => ∃ x3 x4 x5 : Option D, env = [some (.str k.name), some (.tup (rowsD rows)), some (rowD row), x3, x4, x5] ∧ SG S2 S', ⟨_, _, _, rfl, .refl _⟩, fun j env S' _ h => ?_, ?_, ?_⟩
    · obtain ⟨_, _, _, _, h⟩ := h
      exact h _ _ (fun z => z) L2.lst
    · rintro j d env S3 hd ⟨x3, x4, x5, rfl, sg3⟩
      have hd : (zs.map fun z => D.ref z.1)[j]? = some d := hd
      rw [List.getElem?_map] at hd
      obtain ⟨z, hzj, rfl⟩ := Option.map_eq_some_iff.mp hd
      have hzm := List.mem_of_getElem? hzj
      have hS := (L2.keep sg3).row z hzm
      have hin : z.2 ∈ partsR row := by rw [← hz]; exact List.mem_map_of_mem hzm
      have g := hp z.2 hin
      have ll := pl.2 z.2 hin
      refine ⟨_, rfl, _, ⟨_, hS, rfl⟩, lc_mapE z.2 D.int rfl (fun e => some (D.bl (decide (0 < e)))) (by omega) (fun S' sg => sg _ _ (fun z => z) hS) (fun e _ S4 sg4 K Kn hk _ => turn_y ⟨_, rfl, hk _ rfl _ (.refl _)⟩) fun y S4 ny sg4 hy => ?_⟩
      rw [fm_map (fun e : Int => D.bl (decide (0 < e)))] at hy
      have hy : S4 y = some (.lst ((sgn z.2).map D.bl)) := by rw [hy]; unfold sgn; rw [List.map_map]; rfl
      have sl : (sgn z.2).length ≤ 1000 := by unfold sgn; rw [List.length_map]; omega
      dsimp only [dgName]
      refine ⟨_, rfl, _, rfl, y, sgn z.2, rfl, hy, sl, fun q nq => ?_⟩
      rw [sgn_sorted g.1]
      have sq := SK.new (P := fun _ => False) (o := .lst ((sgn z.2).map D.bl)) nq
      have hq : (S4.put q (.lst ((sgn z.2).map D.bl))) q = some (.lst ((sgn z.2).map D.bl)) := Sto.same
      have hy2 := sq _ _ (fun z => z) hy
      generalize S4.put q (.lst ((sgn z.2).map D.bl)) = S5 at sq hq hy2 ⊢
      refine ⟨_, _, .lst hy2 (pys_bl7 _), .lst hq (pys_bl7 _), (bl7_shaped _).1, (bl7_shaped _).1, _, rfl, ?_⟩
      rw [eqv_shaped (bl7_shaped (sgn z.2)).1]
      refine goF ?_
      refine ⟨_, rfl, _, rfl, iteB (fun e => ?_) fun _ => goF ⟨_, _, _, rfl, (sg3.trans sg4).trans sq⟩⟩
      have ek : k = .always := by
        cases k with
        | always => rfl
        | _ => exact absurd e (by decide +kernel)
      have cnt : (sgn z.2).count false ≤ 1 := g.2 ek
      refine ⟨_, rfl, ⟨rfl, _, seqOf_lst hy2, noTup _⟩, y, sgn z.2, false, rfl, rfl, hy2, _, rfl, ?_⟩
      refine iteB (fun e => absurd (of_decide_eq_true (show decide ((1 : Int) < (((sgn z.2).count false : Nat) : Int)) = true from e)) (by omega)) fun _ => ⟨_, _, _, rfl, (sg3.trans sg4).trans sq⟩
    · rintro env S3 ⟨x3, x4, x5, rfl, sg3⟩
      exact ⟨_, _, _, _, rfl, (sg1.trans sg2).trans sg3⟩
  · rintro env S1 ⟨x2, x3, x4, x5, rfl, sg1⟩
    exact kk S1 sg1
def names67 : List RK := [.sent, .always]
theorem names67_ok {j : Nat} {e : D} (h : (names67.map fun k => D.str k.name)[j]? = some e) : ∃ k : RK, e = .str k.name ∧ isBusy k := by
  rw [List.getElem?_map] at h
  obtain ⟨k, hk, rfl⟩ := Option.map_eq_some_iff.mp h
  refine ⟨k, rfl, ?_⟩
  rcases List.mem_cons.mp (List.mem_of_getElem? hk) with z | z
  · rw [z]; trivial
  · rw [List.mem_singleton.mp z]; trivial
theorem newRP7 {S S1 S2 : Sto} {p b : Addr} (sg : SG S S1) (np : S p = none) (nb : S b = none) (k : SK (RP p b) S1 S2) : SG S S2 := fun a o _ e => by
  refine k a o (fun z => ?_) (sg a o (fun z => z) e)
  rcases z with rfl | rfl
  · rw [np] at e; cases e
  · rw [nb] at e; cases e
theorem law_k67 (ns : List Int) (hl : ns.length ≤ 63) : dFn 7 B_law_0963 [.rol (intsD ns)] (fun _ => none) (fun d _ => d = .bl true) := by
  refine ⟨_, rfl, rfl, w_deckK hl fun st cl S1 D1 _ _ _ => ?_⟩
  refine ⟨3, rfl, by decide, by decide, fun i env S => ∃ x2 x3 x4 x5 x6 : Option D, env = [some (.rol (intsD ns)), some (.ref st), x2, x3, x4, x5, x6] ∧ Dr st cl (200 * i) S, ⟨_, _, _, _, _, rfl, D1⟩, fun _ _ _ _ _ => True.intro, ?_, fun env S _ => rfl⟩
  rintro i d env S2 hd ⟨x2, x3, x4, x5, x6, rfl, D2⟩
  obtain ⟨hi, _⟩ := rg_at hd
  have hi : i < 3 := hi
  refine ⟨_, rfl, rfl, w_drawK D2 (by omega) (by decide) (by decide) fun c0 S3 hc0 D3 k3 => ?_⟩
  have ec : (2 : Int) + (c0 : Int) = ((2 + c0 : Nat) : Int) := by omega
  dsimp only [dC, rAdd]
  rw [ec]
  generalize hc : 2 + c0 = c at *
  have c1 : 1 ≤ c := by omega
  have c6 : c ≤ 6 := by omega
  refine ⟨_, rfl, _, rfl, _, rfl, rfl, w_drawK D3 (by omega) (by decide) (by decide) fun many S4 hm D4 k4 => ⟨rfl, w_planK D4 (by omega) (by omega) (by omega) (by omega) fun as o u S5 pl al D5 k5 => ?_⟩⟩
  have al30 : as.length ≤ 30 := by omega
  have e60 : 2 * as.length ≤ 60 := by omega
  refine ⟨rfl, fun N nN => ?_⟩
  have hN : (S5.put N (.lst [.str "sent", .str "always"])) N = some (.lst (names67.map fun k => D.str k.name)) := Sto.same
  have D6 := D5.keep (SK.new (o := .lst [.str "sent", .str "always"]) nN)
  generalize S5.put N (.lst [.str "sent", .str "always"]) = S6 at hN D6
  refine ⟨_, ⟨_, hN, rfl⟩, fun j env S => ∃ x5 x6 : Option D, env = [some (.rol (intsD ns)), some (.ref st), some d, some (.int (c : Nat)), some (.tup (as.map actD)), x5, x6] ∧ SG S6 S, ⟨_, _, rfl, .refl _⟩, fun j env S _ h => ?_, ?_, ?_⟩
  · obtain ⟨_, _, _, h⟩ := h
    exact h _ _ (fun z => z) hN
  · rintro j e env S7 he ⟨x5, x6, rfl, sg7⟩
    obtain ⟨k, rfl, hk⟩ := names67_ok he
    have hG := pl.good (k := k) c1 c6
    have ht := ord_trk (pl.ord hk).ord hG
    have hp := (pl.parts hk).all
    have r60 : ∀ r ∈ (runK k c as).rows, r.length ≤ 60 := Good.row60 hG e60
    have rl : (runK k c as).rows.length = c := (pl.run (k := k)).len
    refine ⟨_, rfl, _, rfl, rfl, w_lawRule (kk := k) (by omega) fun p b S8 h8 sg8 np nb => ⟨_, rfl, rfl, w_runK h8 c1 c6 pl (by omega) fun S9 h9 k9 => ?_⟩⟩
    have sg9 : SG S7 S9 := newRP7 sg8 np nb k9
    dsimp only [dgName]
    refine ⟨_, rfl, rfl, w_tracked hG (by decide) e60 fun S10 sg10 => ?_⟩
    rw [trk_iff.mpr ht]
    refine ⟨true, true, rfl, rfl, _, rfl, goF ?_⟩
    refine ⟨_, rfl, rfl, w_untr hG (by decide) e60 (fun S11 sg11 _ => ⟨_, rfl, goF ?_⟩) fun a b S11 _ h => absurd h (ht a b)⟩
    refine ⟨_, rfl, _, rfl, rfl, w_ordered (k := k) (by omega) r60 hp fun S12 sg12 => ⟨_, rfl, goF ?_⟩⟩
    exact ⟨_, _, rfl, sg7.trans (sg9.trans (sg10.trans (sg11.trans sg12)))⟩
  · rintro env S7 ⟨x5, x6, rfl, sg7⟩
    exact ⟨_, _, _, _, _, rfl, (D6.keep sg7).mono (by omega)⟩
end Sv
namespace Sv
open PySem PySem.Spec PyProof.Rows L2
set_option maxHeartbeats 4000000 in
theorem all_mk {l : PySem.W.OpenLaw} {w : World} {K : PySem.W.Frag} {h : Heap} {mg : Str → Option Value} {fa f0 f1 f2 f3 f4 f5 f6 f7 f8 f9 f10 f11 f12 f13 f14 f15 f16 f17 f18 f19 f20 f21 f22 f23 f24 f25 f26 f27 f28 f29 f30 f31 f32 f33 f34 f35 f36 f37 f38 : Addr} (X : K.In h) (G : h.Ns mainGlobals mg) (hfa : mg "law" = some (.ref fa))
    {od0 an0 od1 an1 od2 an2 od3 an3 od4 an4 od5 an5 od6 an6 od7 an7 od8 an8 od9 an9 od10 an10 od11 an11 od12 an12 od13 an13 od14 an14 od15 an15 od16 an16 od17 an17 od18 an18 od19 an19 od20 an20 od21 an21 od22 an22 od23 an23 od24 an24 od25 an25 od26 an26 od27 an27 od28 an28 od29 an29 od30 an30 od31 an31 od32 an32 od33 an33 od34 an34 od35 an35 od36 an36 od37 an37 od38 an38 : Option Addr} {sl0 sl1 sl2 sl3 sl4 sl5 sl6 sl7 sl8 sl9 sl10 sl11 sl12 sl13 sl14 sl15 sl16 sl17 sl18 sl19 sl20 sl21 sl22 sl23 sl24 sl25 sl26 sl27 sl28 sl29 sl30 sl31 sl32 sl33 sl34 sl35 sl36 sl37 sl38 : Array (Option Value)} {oc0 kV0 dc0 pm0 cd0 ct0 oc1 kV1 dc1 pm1 cd1 ct1 oc2 kV2 dc2 pm2 cd2 ct2 oc3 kV3 dc3 pm3 cd3 ct3 oc4 kV4 dc4 pm4 cd4 ct4 oc5 kV5 dc5 pm5 cd5 ct5 oc6 kV6 dc6 pm6 cd6 ct6 oc7 kV7 dc7 pm7 cd7 ct7 oc8 kV8 dc8 pm8 cd8 ct8 oc9 kV9 dc9 pm9 cd9 ct9 oc10 kV10 dc10 pm10 cd10 ct10 oc11 kV11 dc11 pm11 cd11 ct11 oc12 kV12 dc12 pm12 cd12 ct12 oc13 kV13 dc13 pm13 cd13 ct13 oc14 kV14 dc14 pm14 cd14 ct14 oc15 kV15 dc15 pm15 cd15 ct15 oc16 kV16 dc16 pm16 cd16 ct16 oc17 kV17 dc17 pm17 cd17 ct17 oc18 kV18 dc18 pm18 cd18 ct18 oc19 kV19 dc19 pm19 ct19 oc20 kV20 dc20 pm20 cd20 ct20 oc21 kV21 dc21 pm21 cd21 ct21 oc22 kV22 dc22 pm22 cd22 ct22 oc23 kV23 dc23 pm23 ct23 oc24 kV24 dc24 pm24 cd24 ct24 oc25 kV25 dc25 pm25 cd25 ct25 oc26 kV26 dc26 pm26 cd26 ct26 oc27 kV27 dc27 pm27 ct27 oc28 kV28 dc28 pm28 cd28 ct28 oc29 kV29 dc29 pm29 cd29 ct29 oc30 kV30 dc30 pm30 cd30 ct30 oc31 kV31 dc31 pm31 ct31 oc32 kV32 dc32 pm32 ct32 oc33 kV33 dc33 pm33 cd33 ct33 oc34 kV34 dc34 pm34 cd34 ct34 oc35 kV35 dc35 pm35 cd35 ct35 oc36 kV36 dc36 pm36 cd36 ct36 oc37 kV37 dc37 pm37 cd37 ct37 oc38 kV38 dc38 pm38 cd38 ct38 : Value}
    {C_Rule : Addr} (g_Rule : PySem.W.nsIn K mainGlobals "Rule" = some (some (.ref C_Rule))) (gp_Rule : PySem.W.plainGet K C_Rule Str.empty = true) (gh_Rule : PySem.W.hasDictIn K C_Rule = true) (go_Rule : PySem.W.plainOver K C_Rule = true) (gs_Rule : PySem.W.findIn K (.ref C_Rule) "__setattr__" = some (some (.builtin "object.__setattr__")))
    {C_SaveAfterSend : Addr} (g_SaveAfterSend : PySem.W.nsIn K mainGlobals "SaveAfterSend" = some (some (.ref C_SaveAfterSend))) (gp_SaveAfterSend : PySem.W.plainGet K C_SaveAfterSend Str.empty = true) (gh_SaveAfterSend : PySem.W.hasDictIn K C_SaveAfterSend = true) (go_SaveAfterSend : PySem.W.plainOver K C_SaveAfterSend = true) (gs_SaveAfterSend : PySem.W.findIn K (.ref C_SaveAfterSend) "__setattr__" = some (some (.builtin "object.__setattr__")))
    {C_SaveAlways : Addr} (g_SaveAlways : PySem.W.nsIn K mainGlobals "SaveAlways" = some (some (.ref C_SaveAlways))) (gp_SaveAlways : PySem.W.plainGet K C_SaveAlways Str.empty = true) (gh_SaveAlways : PySem.W.hasDictIn K C_SaveAlways = true) (go_SaveAlways : PySem.W.plainOver K C_SaveAlways = true) (gs_SaveAlways : PySem.W.findIn K (.ref C_SaveAlways) "__setattr__" = some (some (.builtin "object.__setattr__")))
    {C_Rounds : Addr} (g_Rounds : PySem.W.nsIn K mainGlobals "Rounds" = some (some (.ref C_Rounds))) (gp_Rounds : PySem.W.plainGet K C_Rounds Str.empty = true) (gh_Rounds : PySem.W.hasDictIn K C_Rounds = true) (go_Rounds : PySem.W.plainOver K C_Rounds = true) (gs_Rounds : PySem.W.findIn K (.ref C_Rounds) "__setattr__" = some (some (.builtin "object.__setattr__")))
    {cc19 cda19 cc23 cda23 cc27 cda27 cc31 cda31 cc32 cda32 : Addr} {cl19 ccl19 cl23 ccl23 cl27 ccl27 cl31 ccl31 cl32 ccl32 : Value} {cld19 cdd19 cld23 cdd23 cld27 cdd27 cld31 cdd31 cld32 cdd32 : Option Addr} {csl19 ccs19 csl23 ccs23 csl27 ccs27 csl31 ccs31 csl32 ccs32 : Array (Option Value)} {cvs19 cvs23 cvs27 cvs31 cvs32 : Array Value} {file19 file23 file27 file31 file32 : Str} {tf19 tf23 tf27 tf31 tf32 : Tok}
    (a0 : PySem.W.nsIn K mainGlobals "state_numbers" = some (some (.ref f0))) (l0 : K.lookup f0 = some ⟨oc0, od0, .func (PySem.W.fnOf "state_numbers" "state_numbers" (defArgs s_state_numbers) (defBody s_state_numbers) (defScope s_state_numbers) .none kV0 dc0 pm0 an0 cd0 ct0), sl0⟩) (c0 : PySem.W.codeIn K cd0 "state_numbers" = true) (k0 : PySem.W.keepIn K (.ref f0) = true)
    (a1 : PySem.W.nsIn K mainGlobals "all_states" = some (some (.ref f1))) (l1 : K.lookup f1 = some ⟨oc1, od1, .func (PySem.W.fnOf "all_states" "all_states" (defArgs s_all_states) (defBody s_all_states) (defScope s_all_states) .none kV1 dc1 pm1 an1 cd1 ct1), sl1⟩) (c1 : PySem.W.codeIn K cd1 "all_states" = true) (k1 : PySem.W.keepIn K (.ref f1) = true)
    (a2 : PySem.W.nsIn K mainGlobals "is_received_before" = some (some (.ref f2))) (l2 : K.lookup f2 = some ⟨oc2, od2, .func (PySem.W.fnOf "is_received_before" "is_received_before" (defArgs s_is_received_before) (defBody s_is_received_before) (defScope s_is_received_before) .none kV2 dc2 pm2 an2 cd2 ct2), sl2⟩) (c2 : PySem.W.codeIn K cd2 "is_received_before" = true) (k2 : PySem.W.keepIn K (.ref f2) = true)
    (a3 : PySem.W.nsIn K mainGlobals "distances_to" = some (some (.ref f3))) (l3 : K.lookup f3 = some ⟨oc3, od3, .func (PySem.W.fnOf "distances_to" "distances_to" (defArgs s_distances_to) (defBody s_distances_to) (defScope s_distances_to) .none kV3 dc3 pm3 an3 cd3 ct3), sl3⟩) (c3 : PySem.W.codeIn K cd3 "distances_to" = true) (k3 : PySem.W.keepIn K (.ref f3) = true)
    (a4 : PySem.W.nsIn K mainGlobals "first_apart" = some (some (.ref f4))) (l4 : K.lookup f4 = some ⟨oc4, od4, .func (PySem.W.fnOf "first_apart" "first_apart" (defArgs s_first_apart) (defBody s_first_apart) (defScope s_first_apart) .none kV4 dc4 pm4 an4 cd4 ct4), sl4⟩) (c4 : PySem.W.codeIn K cd4 "first_apart" = true) (k4 : PySem.W.keepIn K (.ref f4) = true)
    (a5 : PySem.W.nsIn K mainGlobals "vector_by" = some (some (.ref f5))) (l5 : K.lookup f5 = some ⟨oc5, od5, .func (PySem.W.fnOf "vector_by" "vector_by" (defArgs s_vector_by) (defBody s_vector_by) (defScope s_vector_by) .none kV5 dc5 pm5 an5 cd5 ct5), sl5⟩) (c5 : PySem.W.codeIn K cd5 "vector_by" = true) (k5 : PySem.W.keepIn K (.ref f5) = true)
    (a6 : PySem.W.nsIn K mainGlobals "is_received_first" = some (some (.ref f6))) (l6 : K.lookup f6 = some ⟨oc6, od6, .func (PySem.W.fnOf "is_received_first" "is_received_first" (defArgs s_is_received_first) (defBody s_is_received_first) (defScope s_is_received_first) .none kV6 dc6 pm6 an6 cd6 ct6), sl6⟩) (c6 : PySem.W.codeIn K cd6 "is_received_first" = true) (k6 : PySem.W.keepIn K (.ref f6) = true)
    (a7 : PySem.W.nsIn K mainGlobals "causal_steps" = some (some (.ref f7))) (l7 : K.lookup f7 = some ⟨oc7, od7, .func (PySem.W.fnOf "causal_steps" "causal_steps" (defArgs s_causal_steps) (defBody s_causal_steps) (defScope s_causal_steps) .none kV7 dc7 pm7 an7 cd7 ct7), sl7⟩) (c7 : PySem.W.codeIn K cd7 "causal_steps" = true) (k7 : PySem.W.keepIn K (.ref f7) = true)
    (a8 : PySem.W.nsIn K mainGlobals "is_sent_behind" = some (some (.ref f8))) (l8 : K.lookup f8 = some ⟨oc8, od8, .func (PySem.W.fnOf "is_sent_behind" "is_sent_behind" (defArgs s_is_sent_behind) (defBody s_is_sent_behind) (defScope s_is_sent_behind) .none kV8 dc8 pm8 an8 cd8 ct8), sl8⟩) (c8 : PySem.W.codeIn K cd8 "is_sent_behind" = true) (k8 : PySem.W.keepIn K (.ref f8) = true)
    (a9 : PySem.W.nsIn K mainGlobals "is_step" = some (some (.ref f9))) (l9 : K.lookup f9 = some ⟨oc9, od9, .func (PySem.W.fnOf "is_step" "is_step" (defArgs s_is_step) (defBody s_is_step) (defScope s_is_step) .none kV9 dc9 pm9 an9 cd9 ct9), sl9⟩) (c9 : PySem.W.codeIn K cd9 "is_step" = true) (k9 : PySem.W.keepIn K (.ref f9) = true)
    (a10 : PySem.W.nsIn K mainGlobals "zigzag_steps" = some (some (.ref f10))) (l10 : K.lookup f10 = some ⟨oc10, od10, .func (PySem.W.fnOf "zigzag_steps" "zigzag_steps" (defArgs s_zigzag_steps) (defBody s_zigzag_steps) (defScope s_zigzag_steps) .none kV10 dc10 pm10 an10 cd10 ct10), sl10⟩) (c10 : PySem.W.codeIn K cd10 "zigzag_steps" = true) (k10 : PySem.W.keepIn K (.ref f10) = true)
    (a11 : PySem.W.nsIn K mainGlobals "happened_at" = some (some (.ref f11))) (l11 : K.lookup f11 = some ⟨oc11, od11, .func (PySem.W.fnOf "happened_at" "happened_at" (defArgs s_happened_at) (defBody s_happened_at) (defScope s_happened_at) .none kV11 dc11 pm11 an11 cd11 ct11), sl11⟩) (c11 : PySem.W.codeIn K cd11 "happened_at" = true) (k11 : PySem.W.keepIn K (.ref f11) = true)
    (a12 : PySem.W.nsIn K mainGlobals "trips_of" = some (some (.ref f12))) (l12 : K.lookup f12 = some ⟨oc12, od12, .func (PySem.W.fnOf "trips_of" "trips_of" (defArgs s_trips_of) (defBody s_trips_of) (defScope s_trips_of) .none kV12 dc12 pm12 an12 cd12 ct12), sl12⟩) (c12 : PySem.W.codeIn K cd12 "trips_of" = true) (k12 : PySem.W.keepIn K (.ref f12) = true)
    (a13 : PySem.W.nsIn K mainGlobals "find_untracked" = some (some (.ref f13))) (l13 : K.lookup f13 = some ⟨oc13, od13, .func (PySem.W.fnOf "find_untracked" "find_untracked" (defArgs s_find_untracked) (defBody s_find_untracked) (defScope s_find_untracked) .none kV13 dc13 pm13 an13 cd13 ct13), sl13⟩) (c13 : PySem.W.codeIn K cd13 "find_untracked" = true) (k13 : PySem.W.keepIn K (.ref f13) = true)
    (a14 : PySem.W.nsIn K mainGlobals "is_tracked" = some (some (.ref f14))) (l14 : K.lookup f14 = some ⟨oc14, od14, .func (PySem.W.fnOf "is_tracked" "is_tracked" (defArgs s_is_tracked) (defBody s_is_tracked) (defScope s_is_tracked) .none kV14 dc14 pm14 an14 cd14 ct14), sl14⟩) (c14 : PySem.W.codeIn K cd14 "is_tracked" = true) (k14 : PySem.W.keepIn K (.ref f14) = true)
    (a15 : PySem.W.nsIn K mainGlobals "_law_parts" = some (some (.ref f15))) (l15 : K.lookup f15 = some ⟨oc15, od15, .func (PySem.W.fnOf "_law_parts" "_law_parts" (defArgs s__law_parts) (defBody s__law_parts) (defScope s__law_parts) .none kV15 dc15 pm15 an15 cd15 ct15), sl15⟩) (c15 : PySem.W.codeIn K cd15 "_law_parts" = true) (k15 : PySem.W.keepIn K (.ref f15) = true)
    (a16 : PySem.W.nsIn K mainGlobals "_law_ordered" = some (some (.ref f16))) (l16 : K.lookup f16 = some ⟨oc16, od16, .func (PySem.W.fnOf "_law_ordered" "_law_ordered" (defArgs s__law_ordered) (defBody s__law_ordered) (defScope s__law_ordered) .none kV16 dc16 pm16 an16 cd16 ct16), sl16⟩) (c16 : PySem.W.codeIn K cd16 "_law_ordered" = true) (k16 : PySem.W.keepIn K (.ref f16) = true)
    (a17 : PySem.W.findIn K (.ref C_Rule) "save" = some (some (.ref f17)))
    (l17 : K.lookup f17 = some ⟨oc17, od17, .func (PySem.W.fnOf "save" "Rule.save" (defArgs s_Rule__save) (defBody s_Rule__save) (defScope s_Rule__save) .none kV17 dc17 pm17 an17 cd17 ct17), sl17⟩) (c17 : PySem.W.codeIn K cd17 "Rule.save" = true) (k17 : PySem.W.keepIn K (.ref f17) = true)
    (a18 : PySem.W.findIn K (.ref C_SaveAfterSend) "save" = some (some (.ref f18)))
    (l18 : K.lookup f18 = some ⟨oc18, od18, .func (PySem.W.fnOf "save" "SaveAfterSend.save" (defArgs s_SaveAfterSend__save) (defBody s_SaveAfterSend__save) (defScope s_SaveAfterSend__save) .none kV18 dc18 pm18 an18 cd18 ct18), sl18⟩) (c18 : PySem.W.codeIn K cd18 "SaveAfterSend.save" = true) (k18 : PySem.W.keepIn K (.ref f18) = true)
    (a19 : PySem.W.findIn K (.ref C_SaveAlways) "save" = some (some (.ref f19)))
    (l19 : K.lookup f19 = some ⟨oc19, od19, .func (PySem.W.ksFn "save" "SaveAlways.save" (defArgs s_SaveAlways__save) (defBody s_SaveAlways__save) (defScope s_SaveAlways__save) .none kV19 dc19 pm19 an19 (.ref cda19) ct19 cc19), sl19⟩) (c19 : PySem.W.codeIn K (.ref cda19) "SaveAlways.save" = true) (k19 : PySem.W.keepIn K (.ref f19) = true)
    (x19 : K.lookup cc19 = some ⟨cl19, cld19, .cell (some (.ref C_SaveAlways)), csl19⟩) (y19 : K.lookup cda19 = some ⟨ccl19, cdd19, .fields cvs19, ccs19⟩) (u19 : cvs19[2]? = some (.str file19 tf19)) (v19 : ((l.prog.main.file : Str) == file19) = true)
    (a20 : PySem.W.findIn K (.ref C_Rounds) "save" = some (some (.ref f20)))
    (l20 : K.lookup f20 = some ⟨oc20, od20, .func (PySem.W.fnOf "save" "Rounds.save" (defArgs s_Rounds__save) (defBody s_Rounds__save) (defScope s_Rounds__save) .none kV20 dc20 pm20 an20 cd20 ct20), sl20⟩) (c20 : PySem.W.codeIn K cd20 "Rounds.save" = true) (k20 : PySem.W.keepIn K (.ref f20) = true)
    (a21 : PySem.W.findIn K (.ref C_Rule) "send" = some (some (.ref f21)))
    (l21 : K.lookup f21 = some ⟨oc21, od21, .func (PySem.W.fnOf "send" "Rule.send" (defArgs s_Rule__send) (defBody s_Rule__send) (defScope s_Rule__send) .none kV21 dc21 pm21 an21 cd21 ct21), sl21⟩) (c21 : PySem.W.codeIn K cd21 "Rule.send" = true) (k21 : PySem.W.keepIn K (.ref f21) = true)
    (a22 : PySem.W.findIn K (.ref C_SaveAfterSend) "send" = some (some (.ref f22)))
    (l22 : K.lookup f22 = some ⟨oc22, od22, .func (PySem.W.fnOf "send" "SaveAfterSend.send" (defArgs s_SaveAfterSend__send) (defBody s_SaveAfterSend__send) (defScope s_SaveAfterSend__send) .none kV22 dc22 pm22 an22 cd22 ct22), sl22⟩) (c22 : PySem.W.codeIn K cd22 "SaveAfterSend.send" = true) (k22 : PySem.W.keepIn K (.ref f22) = true)
    (a23 : PySem.W.findIn K (.ref C_SaveAlways) "send" = some (some (.ref f23)))
    (l23 : K.lookup f23 = some ⟨oc23, od23, .func (PySem.W.ksFn "send" "SaveAlways.send" (defArgs s_SaveAlways__send) (defBody s_SaveAlways__send) (defScope s_SaveAlways__send) .none kV23 dc23 pm23 an23 (.ref cda23) ct23 cc23), sl23⟩) (c23 : PySem.W.codeIn K (.ref cda23) "SaveAlways.send" = true) (k23 : PySem.W.keepIn K (.ref f23) = true)
    (x23 : K.lookup cc23 = some ⟨cl23, cld23, .cell (some (.ref C_SaveAlways)), csl23⟩) (y23 : K.lookup cda23 = some ⟨ccl23, cdd23, .fields cvs23, ccs23⟩) (u23 : cvs23[2]? = some (.str file23 tf23)) (v23 : ((l.prog.main.file : Str) == file23) = true)
    (a24 : PySem.W.findIn K (.ref C_Rounds) "send" = some (some (.ref f24)))
    (l24 : K.lookup f24 = some ⟨oc24, od24, .func (PySem.W.fnOf "send" "Rounds.send" (defArgs s_Rounds__send) (defBody s_Rounds__send) (defScope s_Rounds__send) .none kV24 dc24 pm24 an24 cd24 ct24), sl24⟩) (c24 : PySem.W.codeIn K cd24 "Rounds.send" = true) (k24 : PySem.W.keepIn K (.ref f24) = true)
    (a25 : PySem.W.findIn K (.ref C_Rule) "receive" = some (some (.ref f25)))
    (l25 : K.lookup f25 = some ⟨oc25, od25, .func (PySem.W.fnOf "receive" "Rule.receive" (defArgs s_Rule__receive) (defBody s_Rule__receive) (defScope s_Rule__receive) .none kV25 dc25 pm25 an25 cd25 ct25), sl25⟩) (c25 : PySem.W.codeIn K cd25 "Rule.receive" = true) (k25 : PySem.W.keepIn K (.ref f25) = true)
    (a26 : PySem.W.findIn K (.ref C_SaveAfterSend) "receive" = some (some (.ref f26)))
    (l26 : K.lookup f26 = some ⟨oc26, od26, .func (PySem.W.fnOf "receive" "SaveAfterSend.receive" (defArgs s_SaveAfterSend__receive) (defBody s_SaveAfterSend__receive) (defScope s_SaveAfterSend__receive) .none kV26 dc26 pm26 an26 cd26 ct26), sl26⟩) (c26 : PySem.W.codeIn K cd26 "SaveAfterSend.receive" = true) (k26 : PySem.W.keepIn K (.ref f26) = true)
    (a27 : PySem.W.findIn K (.ref C_SaveAlways) "receive" = some (some (.ref f27)))
    (l27 : K.lookup f27 = some ⟨oc27, od27, .func (PySem.W.ksFn "receive" "SaveAlways.receive" (defArgs s_SaveAlways__receive) (defBody s_SaveAlways__receive) (defScope s_SaveAlways__receive) .none kV27 dc27 pm27 an27 (.ref cda27) ct27 cc27), sl27⟩) (c27 : PySem.W.codeIn K (.ref cda27) "SaveAlways.receive" = true) (k27 : PySem.W.keepIn K (.ref f27) = true)
    (x27 : K.lookup cc27 = some ⟨cl27, cld27, .cell (some (.ref C_SaveAlways)), csl27⟩) (y27 : K.lookup cda27 = some ⟨ccl27, cdd27, .fields cvs27, ccs27⟩) (u27 : cvs27[2]? = some (.str file27 tf27)) (v27 : ((l.prog.main.file : Str) == file27) = true)
    (a28 : PySem.W.findIn K (.ref C_Rounds) "receive" = some (some (.ref f28)))
    (l28 : K.lookup f28 = some ⟨oc28, od28, .func (PySem.W.fnOf "receive" "Rounds.receive" (defArgs s_Rounds__receive) (defBody s_Rounds__receive) (defScope s_Rounds__receive) .none kV28 dc28 pm28 an28 cd28 ct28), sl28⟩) (c28 : PySem.W.codeIn K cd28 "Rounds.receive" = true) (k28 : PySem.W.keepIn K (.ref f28) = true)
    (a29 : PySem.W.nsIn K mainGlobals "run_plan" = some (some (.ref f29))) (l29 : K.lookup f29 = some ⟨oc29, od29, .func (PySem.W.fnOf "run_plan" "run_plan" (defArgs s_run_plan) (defBody s_run_plan) (defScope s_run_plan) .none kV29 dc29 pm29 an29 cd29 ct29), sl29⟩) (c29 : PySem.W.codeIn K cd29 "run_plan" = true) (k29 : PySem.W.keepIn K (.ref f29) = true)
    (a30 : PySem.W.findIn K (.ref C_Rule) "__init__" = some (some (.ref f30)))
    (l30 : K.lookup f30 = some ⟨oc30, od30, .func (PySem.W.fnOf "__init__" "Rule.__init__" (defArgs s_Rule____init__) (defBody s_Rule____init__) (defScope s_Rule____init__) .none kV30 dc30 pm30 an30 cd30 ct30), sl30⟩) (c30 : PySem.W.codeIn K cd30 "Rule.__init__" = true) (k30 : PySem.W.keepIn K (.ref f30) = true)
    (a31 : PySem.W.findIn K (.ref C_SaveAfterSend) "__init__" = some (some (.ref f31)))
    (l31 : K.lookup f31 = some ⟨oc31, od31, .func (PySem.W.ksFn "__init__" "SaveAfterSend.__init__" (defArgs s_SaveAfterSend____init__) (defBody s_SaveAfterSend____init__) (defScope s_SaveAfterSend____init__) .none kV31 dc31 pm31 an31 (.ref cda31) ct31 cc31), sl31⟩) (c31 : PySem.W.codeIn K (.ref cda31) "SaveAfterSend.__init__" = true) (k31 : PySem.W.keepIn K (.ref f31) = true)
    (x31 : K.lookup cc31 = some ⟨cl31, cld31, .cell (some (.ref C_SaveAfterSend)), csl31⟩) (y31 : K.lookup cda31 = some ⟨ccl31, cdd31, .fields cvs31, ccs31⟩) (u31 : cvs31[2]? = some (.str file31 tf31)) (v31 : ((l.prog.main.file : Str) == file31) = true)
    (a32 : PySem.W.findIn K (.ref C_Rounds) "__init__" = some (some (.ref f32)))
    (l32 : K.lookup f32 = some ⟨oc32, od32, .func (PySem.W.ksFn "__init__" "Rounds.__init__" (defArgs s_Rounds____init__) (defBody s_Rounds____init__) (defScope s_Rounds____init__) .none kV32 dc32 pm32 an32 (.ref cda32) ct32 cc32), sl32⟩) (c32 : PySem.W.codeIn K (.ref cda32) "Rounds.__init__" = true) (k32 : PySem.W.keepIn K (.ref f32) = true)
    (x32 : K.lookup cc32 = some ⟨cl32, cld32, .cell (some (.ref C_Rounds)), csl32⟩) (y32 : K.lookup cda32 = some ⟨ccl32, cdd32, .fields cvs32, ccs32⟩) (u32 : cvs32[2]? = some (.str file32 tf32)) (v32 : ((l.prog.main.file : Str) == file32) = true)
    (a33 : PySem.W.nsIn K mainGlobals "_law_rule" = some (some (.ref f33))) (l33 : K.lookup f33 = some ⟨oc33, od33, .func (PySem.W.fnOf "_law_rule" "_law_rule" (defArgs s__law_rule) (defBody s__law_rule) (defScope s__law_rule) .none kV33 dc33 pm33 an33 cd33 ct33), sl33⟩) (c33 : PySem.W.codeIn K cd33 "_law_rule" = true) (k33 : PySem.W.keepIn K (.ref f33) = true)
    (a34 : PySem.W.nsIn K mainGlobals "_law_draw" = some (some (.ref f34))) (l34 : K.lookup f34 = some ⟨oc34, od34, .func (PySem.W.fnOf "_law_draw" "_law_draw" (defArgs s__law_draw) (defBody s__law_draw) (defScope s__law_draw) .none kV34 dc34 pm34 an34 cd34 ct34), sl34⟩) (c34 : PySem.W.codeIn K cd34 "_law_draw" = true) (k34 : PySem.W.keepIn K (.ref f34) = true)
    (a35 : PySem.W.nsIn K mainGlobals "_law_one" = some (some (.ref f35))) (l35 : K.lookup f35 = some ⟨oc35, od35, .func (PySem.W.fnOf "_law_one" "_law_one" (defArgs s__law_one) (defBody s__law_one) (defScope s__law_one) .none kV35 dc35 pm35 an35 cd35 ct35), sl35⟩) (c35 : PySem.W.codeIn K cd35 "_law_one" = true) (k35 : PySem.W.keepIn K (.ref f35) = true)
    (a36 : PySem.W.nsIn K mainGlobals "_law_plan" = some (some (.ref f36))) (l36 : K.lookup f36 = some ⟨oc36, od36, .func (PySem.W.fnOf "_law_plan" "_law_plan" (defArgs s__law_plan) (defBody s__law_plan) (defScope s__law_plan) .none kV36 dc36 pm36 an36 cd36 ct36), sl36⟩) (c36 : PySem.W.codeIn K cd36 "_law_plan" = true) (k36 : PySem.W.keepIn K (.ref f36) = true)
    (a37 : PySem.W.nsIn K mainGlobals "_law_deck" = some (some (.ref f37))) (l37 : K.lookup f37 = some ⟨oc37, od37, .func (PySem.W.fnOf "_law_deck" "_law_deck" (defArgs s__law_deck) (defBody s__law_deck) (defScope s__law_deck) .none kV37 dc37 pm37 an37 cd37 ct37), sl37⟩) (c37 : PySem.W.codeIn K cd37 "_law_deck" = true) (k37 : PySem.W.keepIn K (.ref f37) = true)
    (a38 : PySem.W.nsIn K mainGlobals "law" = some (some (.ref f38))) (l38 : K.lookup f38 = some ⟨oc38, od38, .func (PySem.W.fnOf "law" "law" (defArgs s_law) (defBody s_law) (defScope s_law) .none kV38 dc38 pm38 an38 cd38 ct38), sl38⟩) (c38 : PySem.W.codeIn K cd38 "law" = true) (k38 : PySem.W.keepIn K (.ref f38) = true)
    (n_SaveAfterSend__busy : PySem.W.findIn K (.ref C_SaveAfterSend) "busy" = some none)
    (n_SaveAlways__busy : PySem.W.findIn K (.ref C_SaveAlways) "busy" = some none)
    (s1_SaveAlways__save__SaveAlways : PySem.W.mroIn K C_SaveAlways (.ref C_SaveAlways) = some true)
    (s2_SaveAlways__save__SaveAlways__save : PySem.W.ks_superIn K C_SaveAlways C_SaveAlways "save" = some (some (.ref f18)))
    (s3_18 : PySem.W.typeIn K (.ref f18) = some (.type "function"))
    (s4 : PySem.W.nsIn K PySem.cStatics "thirdparty.any" = some none)
    (s5_18 : PySem.W.fnIn K f18 = true)
    (n_Rounds__numbers : PySem.W.findIn K (.ref C_Rounds) "numbers" = some none)
    (s1_SaveAlways__send__SaveAlways : PySem.W.mroIn K C_SaveAlways (.ref C_SaveAlways) = some true)
    (s2_SaveAlways__send__SaveAlways__send : PySem.W.ks_superIn K C_SaveAlways C_SaveAlways "send" = some (some (.ref f22)))
    (s3_22 : PySem.W.typeIn K (.ref f22) = some (.type "function"))
    (s5_22 : PySem.W.fnIn K f22 = true)
    (n_SaveAfterSend__wanted : PySem.W.findIn K (.ref C_SaveAfterSend) "wanted" = some none)
    (n_SaveAlways__wanted : PySem.W.findIn K (.ref C_SaveAlways) "wanted" = some none)
    (s1_SaveAlways__receive__SaveAlways : PySem.W.mroIn K C_SaveAlways (.ref C_SaveAlways) = some true)
    (s2_SaveAlways__receive__SaveAlways__receive : PySem.W.ks_superIn K C_SaveAlways C_SaveAlways "receive" = some (some (.ref f26)))
    (s3_26 : PySem.W.typeIn K (.ref f26) = some (.type "function"))
    (s5_26 : PySem.W.fnIn K f26 = true)
    (n_Rounds__wanted : PySem.W.findIn K (.ref C_Rounds) "wanted" = some none)
    (bf17 : PySem.W.isFn K (.ref f17) = true)
    (bf18 : PySem.W.isFn K (.ref f18) = true)
    (bf19 : PySem.W.isFn K (.ref f19) = true)
    (bf20 : PySem.W.isFn K (.ref f20) = true)
    (bf21 : PySem.W.isFn K (.ref f21) = true)
    (bf22 : PySem.W.isFn K (.ref f22) = true)
    (bf23 : PySem.W.isFn K (.ref f23) = true)
    (bf24 : PySem.W.isFn K (.ref f24) = true)
    (bf25 : PySem.W.isFn K (.ref f25) = true)
    (bf26 : PySem.W.isFn K (.ref f26) = true)
    (bf27 : PySem.W.isFn K (.ref f27) = true)
    (bf28 : PySem.W.isFn K (.ref f28) = true)
    (n_Rule__processes : PySem.W.findIn K (.ref C_Rule) "processes" = some none)
    (n_SaveAfterSend__processes : PySem.W.findIn K (.ref C_SaveAfterSend) "processes" = some none)
    (n_SaveAlways__processes : PySem.W.findIn K (.ref C_SaveAlways) "processes" = some none)
    (n_Rounds__processes : PySem.W.findIn K (.ref C_Rounds) "processes" = some none)
    (n_Rule__wanted : PySem.W.findIn K (.ref C_Rule) "wanted" = some none)
    (s1_SaveAfterSend____init____SaveAfterSend : PySem.W.mroIn K C_SaveAfterSend (.ref C_SaveAfterSend) = some true)
    (s2_SaveAfterSend____init____SaveAfterSend____init__ : PySem.W.ks_superIn K C_SaveAfterSend C_SaveAfterSend "__init__" = some (some (.ref f30)))
    (s3_30 : PySem.W.typeIn K (.ref f30) = some (.type "function"))
    (s5_30 : PySem.W.fnIn K f30 = true)
    (s1_SaveAfterSend____init____SaveAlways : PySem.W.mroIn K C_SaveAlways (.ref C_SaveAfterSend) = some true)
    (s2_SaveAfterSend____init____SaveAlways____init__ : PySem.W.ks_superIn K C_SaveAlways C_SaveAfterSend "__init__" = some (some (.ref f30)))
    (s1_Rounds____init____Rounds : PySem.W.mroIn K C_Rounds (.ref C_Rounds) = some true)
    (s2_Rounds____init____Rounds____init__ : PySem.W.ks_superIn K C_Rounds C_Rounds "__init__" = some (some (.ref f30)))
    (b_SaveAlways____init__ : PySem.W.findIn K (.ref C_SaveAlways) "__init__" = some (some (.ref f31)))
    (bf31 : PySem.W.isFn K (.ref f31) = true)
    (bm_SaveAlways : PySem.W.makesIn K C_SaveAlways = true)
    (bk_SaveAlways : PySem.W.keepIn K (.ref C_SaveAlways) = true)
    (bf32 : PySem.W.isFn K (.ref f32) = true)
    (bm_Rounds : PySem.W.makesIn K C_Rounds = true)
    (bk_Rounds : PySem.W.keepIn K (.ref C_Rounds) = true)
    (bm_SaveAfterSend : PySem.W.makesIn K C_SaveAfterSend = true)
    (bk_SaveAfterSend : PySem.W.keepIn K (.ref C_SaveAfterSend) = true)
    (bf30 : PySem.W.isFn K (.ref f30) = true)
    (bm_Rule : PySem.W.makesIn K C_Rule = true)
    (bk_Rule : PySem.W.keepIn K (.ref C_Rule) = true)
    (s7 : PySem.W.nsIn K mainGlobals "super" = some none)
    (s8 : (l.prog.main.scope.names.lookup ("super" : Str)).isSome = false)
    (z0 : PySem.W.nsIn K mainGlobals "tuple" = some none) (z1 : PySem.W.nsIn K mainGlobals "enumerate" = some none) (z2 : PySem.W.nsIn K mainGlobals "range" = some none) (z3 : PySem.W.nsIn K mainGlobals "any" = some none) (z4 : PySem.W.nsIn K mainGlobals "max" = some none) (z5 : PySem.W.nsIn K mainGlobals "sorted" = some none) (z6 : PySem.W.nsIn K mainGlobals "min" = some none) (z7 : PySem.W.nsIn K mainGlobals "len" = some none) (z8 : PySem.W.nsIn K mainGlobals "abs" = some none) :
    ∃ fd : FuncData, (∀ (s : Shared) (v : Value), BindsTo s fd ⟨[v], []⟩ [("_law_script", v)]) ∧ ∀ base : Heap, K.In base → base.Ns mainGlobals mg → FnG l.prog w K mg base 7 fa fd ["_law_script"] (spLawD K) := by
  have e := hfa.symm.trans (PySem.W.mg_of X G a38)
  cases e
  have c_Rule : Cls K C_Rule := ⟨gp_Rule, gh_Rule, go_Rule, gs_Rule⟩
  have c_SaveAfterSend : Cls K C_SaveAfterSend := ⟨gp_SaveAfterSend, gh_SaveAfterSend, go_SaveAfterSend, gs_SaveAfterSend⟩
  have c_SaveAlways : Cls K C_SaveAlways := ⟨gp_SaveAlways, gh_SaveAlways, go_SaveAlways, gs_SaveAlways⟩
  have c_Rounds : Cls K C_Rounds := ⟨gp_Rounds, gh_Rounds, go_Rounds, gs_Rounds⟩
  have F0 := fun_mk (st := s_state_numbers) l0 c0 k0
  have F1 := fun_mk (st := s_all_states) l1 c1 k1
  have F2 := fun_mk (st := s_is_received_before) l2 c2 k2
  have F3 := fun_mk (st := s_distances_to) l3 c3 k3
  have F4 := fun_mk (st := s_first_apart) l4 c4 k4
  have F5 := fun_mk (st := s_vector_by) l5 c5 k5
  have F6 := fun_mk (st := s_is_received_first) l6 c6 k6
  have F7 := fun_mk (st := s_causal_steps) l7 c7 k7
  have F8 := fun_mk (st := s_is_sent_behind) l8 c8 k8
  have F9 := fun_mk (st := s_is_step) l9 c9 k9
  have F10 := fun_mk (st := s_zigzag_steps) l10 c10 k10
  have F11 := fun_mk (st := s_happened_at) l11 c11 k11
  have F12 := fun_mk (st := s_trips_of) l12 c12 k12
  have F13 := fun_mk (st := s_find_untracked) l13 c13 k13
  have F14 := fun_mk (st := s_is_tracked) l14 c14 k14
  have F15 := fun_mk (st := s__law_parts) l15 c15 k15
  have F16 := fun_mk (st := s__law_ordered) l16 c16 k16
  have F17 := fun_mk (st := s_Rule__save) l17 c17 k17
  have F18 := fun_mk (st := s_SaveAfterSend__save) l18 c18 k18
  have F19 : FunS l.prog K mg _ _ s_SaveAlways__save f19 _ C_SaveAlways cda19 cc19 := funS_mk l19 c19 x19 y19 u19 v19 s8 (PySem.W.mg_none_of X G s7) c_SaveAlways
  have F20 := fun_mk (st := s_Rounds__save) l20 c20 k20
  have F21 := fun_mk (st := s_Rule__send) l21 c21 k21
  have F22 := fun_mk (st := s_SaveAfterSend__send) l22 c22 k22
  have F23 : FunS l.prog K mg _ _ s_SaveAlways__send f23 _ C_SaveAlways cda23 cc23 := funS_mk l23 c23 x23 y23 u23 v23 s8 (PySem.W.mg_none_of X G s7) c_SaveAlways
  have F24 := fun_mk (st := s_Rounds__send) l24 c24 k24
  have F25 := fun_mk (st := s_Rule__receive) l25 c25 k25
  have F26 := fun_mk (st := s_SaveAfterSend__receive) l26 c26 k26
  have F27 : FunS l.prog K mg _ _ s_SaveAlways__receive f27 _ C_SaveAlways cda27 cc27 := funS_mk l27 c27 x27 y27 u27 v27 s8 (PySem.W.mg_none_of X G s7) c_SaveAlways
  have F28 := fun_mk (st := s_Rounds__receive) l28 c28 k28
  have F29 := fun_mk (st := s_run_plan) l29 c29 k29
  have F30 := fun_mk (st := s_Rule____init__) l30 c30 k30
  have F31 : FunS l.prog K mg _ _ s_SaveAfterSend____init__ f31 _ C_SaveAfterSend cda31 cc31 := funS_mk l31 c31 x31 y31 u31 v31 s8 (PySem.W.mg_none_of X G s7) c_SaveAfterSend
  have F32 : FunS l.prog K mg _ _ s_Rounds____init__ f32 _ C_Rounds cda32 cc32 := funS_mk l32 c32 x32 y32 u32 v32 s8 (PySem.W.mg_none_of X G s7) c_Rounds
  have F33 := fun_mk (st := s__law_rule) l33 c33 k33
  have F34 := fun_mk (st := s__law_draw) l34 c34 k34
  have F35 := fun_mk (st := s__law_one) l35 c35 k35
  have F36 := fun_mk (st := s__law_plan) l36 c36 k36
  have F37 := fun_mk (st := s__law_deck) l37 c37 k37
  have F38 := fun_mk (st := s_law) l38 c38 k38
  refine ⟨(PySem.W.fnOf "law" "law" (defArgs s_law) (defBody s_law) (defScope s_law) .none kV38 dc38 pm38 an38 cd38 ct38), fun s v => .of_eq rfl, fun base _ _ => ?_⟩
  have D_state_numbers : DFo l.prog w K mg base 1 "state_numbers" 1 (dFn 2 B_state_numbers_78d0) := .mk' (der_state_numbers F0 (PySem.W.mg_none_of X G z0)) (PySem.W.mg_of X G a0) F0.kp (F0.binds (ps := ["history"]) fun _ _ _ _ _ _ us hl => match us, hl with | [_], _ => rfl)
  have D_all_states : DFo l.prog w K mg base 2 "all_states" 1 (dFn 4 B_all_states_326e) := .mk' (der_all_states F1 D_state_numbers (PySem.W.mg_none_of X G z1) (PySem.W.mg_none_of X G z2)) (PySem.W.mg_of X G a1) F1.kp (F1.binds (ps := ["history"]) fun _ _ _ _ _ _ us hl => match us, hl with | [_], _ => rfl)
  have D_is_received_before : DFo l.prog w K mg base 1 "is_received_before" 2 (dFn 6 B_is_received_before_f543) := .mk' (der_is_received_before F2 ) (PySem.W.mg_of X G a2) F2.kp (F2.binds (ps := ["trip", "state"]) fun _ _ _ _ _ _ us hl => match us, hl with | [_, _], _ => rfl)
  have D_distances_to : DFo l.prog w K mg base 2 "distances_to" 3 (dFn 8 B_distances_to_ec2b) := .mk' (der_distances_to F3 D_is_received_before (PySem.W.mg_none_of X G z3)) (PySem.W.mg_of X G a3) F3.kp (F3.binds (ps := ["trips", "steps", "state"]) fun _ _ _ _ _ _ us hl => match us, hl with | [_, _, _], _ => rfl)
  have D_first_apart : DFo l.prog w K mg base 3 "first_apart" 4 (dFn 9 B_first_apart_5683) := .mk' (der_first_apart F4 D_distances_to (PySem.W.mg_none_of X G z4)) (PySem.W.mg_of X G a4) F4.kp (F4.binds (ps := ["history", "trips", "steps", "state"]) fun _ _ _ _ _ _ us hl => match us, hl with | [_, _, _, _], _ => rfl)
  have D_vector_by : DFo l.prog w K mg base 4 "vector_by" 4 (dFn 7 B_vector_by_c0de) := .mk' (der_vector_by F5 D_first_apart (PySem.W.mg_none_of X G z0)) (PySem.W.mg_of X G a5) F5.kp (F5.binds (ps := ["history", "trips", "steps", "state"]) fun _ _ _ _ _ _ us hl => match us, hl with | [_, _, _, _], _ => rfl)
  have D_is_received_first : DFo l.prog w K mg base 1 "is_received_first" 3 (dFn 4 B_is_received_first_4360) := .mk' (der_is_received_first F6 (PySem.W.mg_none_of X G z3)) (PySem.W.mg_of X G a6) F6.kp (F6.binds (ps := ["history", "message", "then"]) fun _ _ _ _ _ _ us hl => match us, hl with | [_, _, _], _ => rfl)
  have D_causal_steps : DFo l.prog w K mg base 2 "causal_steps" 2 (dFn 4 B_causal_steps_ab7d) := .mk' (der_causal_steps F7 D_is_received_first) (PySem.W.mg_of X G a7) F7.kp (F7.binds (ps := ["history", "trips"]) fun _ _ _ _ _ _ us hl => match us, hl with | [_, _], _ => rfl)
  have D_is_sent_behind : DFo l.prog w K mg base 1 "is_sent_behind" 2 (dFn 6 B_is_sent_behind_1a14) := .mk' (der_is_sent_behind F8 ) (PySem.W.mg_of X G a8) F8.kp (F8.binds (ps := ["trip", "state"]) fun _ _ _ _ _ _ us hl => match us, hl with | [_, _], _ => rfl)
  have D_is_step : DFo l.prog w K mg base 2 "is_step" 3 (dFn 3 B_is_step_5234) := .mk' (der_is_step F9 D_is_sent_behind) (PySem.W.mg_of X G a9) F9.kp (F9.binds (ps := ["trips", "message", "then"]) fun _ _ _ _ _ _ us hl => match us, hl with | [_, _, _], _ => rfl)
  have D_zigzag_steps : DFo l.prog w K mg base 3 "zigzag_steps" 1 (dFn 3 B_zigzag_steps_bb25) := .mk' (der_zigzag_steps F10 D_is_step) (PySem.W.mg_of X G a10) F10.kp (F10.binds (ps := ["trips"]) fun _ _ _ _ _ _ us hl => match us, hl with | [_], _ => rfl)
  have D_happened_at : DFo l.prog w K mg base 1 "happened_at" 2 (dFn 6 B_happened_at_e85f) := .mk' (der_happened_at F11 (PySem.W.mg_none_of X G z1)) (PySem.W.mg_of X G a11) F11.kp (F11.binds (ps := ["history", "event"]) fun _ _ _ _ _ _ us hl => match us, hl with | [_, _], _ => rfl)
  have D_trips_of : DFo l.prog w K mg base 2 "trips_of" 1 (dFn 5 B_trips_of_ea9a) := .mk' (der_trips_of F12 D_happened_at (PySem.W.mg_none_of X G z5)) (PySem.W.mg_of X G a12) F12.kp (F12.binds (ps := ["history"]) fun _ _ _ _ _ _ us hl => match us, hl with | [_], _ => rfl)
  have D_find_untracked : DFo l.prog w K mg base 5 "find_untracked" 1 (dFn 10 B_find_untracked_6494) := .mk' (der_find_untracked F13 D_all_states D_first_apart D_vector_by D_causal_steps D_zigzag_steps D_trips_of (PySem.W.mg_none_of X G z6) (PySem.W.mg_none_of X G z1)) (PySem.W.mg_of X G a13) F13.kp (F13.binds (ps := ["history"]) fun _ _ _ _ _ _ us hl => match us, hl with | [_], _ => rfl)
  have D_is_tracked : DFo l.prog w K mg base 6 "is_tracked" 1 (dFn 1 B_is_tracked_a4d2) := .mk' (der_is_tracked F14 D_find_untracked) (PySem.W.mg_of X G a14) F14.kp (F14.binds (ps := ["history"]) fun _ _ _ _ _ _ us hl => match us, hl with | [_], _ => rfl)
  have D__law_parts : DFo l.prog w K mg base 1 "_law_parts" 1 (dFn 3 B_law_parts_4773) := .mk' (der__law_parts F15 ) (PySem.W.mg_of X G a15) F15.kp (F15.binds (ps := ["_law_row"]) fun _ _ _ _ _ _ us hl => match us, hl with | [_], _ => rfl)
  have D__law_ordered : DFo l.prog w K mg base 2 "_law_ordered" 2 (dFn 6 B_law_ordered_231a) := .mk' (der__law_ordered F16 D__law_parts (PySem.W.mg_none_of X G z5)) (PySem.W.mg_of X G a16) F16.kp (F16.binds (ps := ["_law_name", "_law_rows"]) fun _ _ _ _ _ _ us hl => match us, hl with | [_, _], _ => rfl)
  have hb17 : Binds K (PySem.W.fnOf "save" "Rule.save" (defArgs s_Rule__save) (defBody s_Rule__save) (defScope s_Rule__save) .none kV17 dc17 pm17 an17 cd17 ct17) ["self", "process"] [] := .all fun us hl => match us, hl with | [_, _], _ => rfl
  have O17 := der_Rule__save (P := l.prog) (w := w) (mg := mg) (base := base) F17 
  have A_SaveAfterSend__busy : ClsF K "SaveAfterSend" "busy" := .of g_SaveAfterSend c_SaveAfterSend n_SaveAfterSend__busy
  have A_SaveAlways__busy : ClsF K "SaveAlways" "busy" := .of g_SaveAlways c_SaveAlways n_SaveAlways__busy
  have hb18 : Binds K (PySem.W.fnOf "save" "SaveAfterSend.save" (defArgs s_SaveAfterSend__save) (defBody s_SaveAfterSend__save) (defScope s_SaveAfterSend__save) .none kV18 dc18 pm18 an18 cd18 ct18) ["self", "process"] [] := .all fun us hl => match us, hl with | [_, _], _ => rfl
  have O18 := der_SaveAfterSend__save (P := l.prog) (w := w) (mg := mg) (base := base) F18 A_SaveAfterSend__busy A_SaveAlways__busy
  have S_SaveAlways__save__SaveAlways__save : DSup l.prog w K mg base 1 C_SaveAlways "SaveAlways" "save" 2 (dFn 2 B_SaveAfterSend__save_1876) := .of g_SaveAlways s1_SaveAlways__save__SaveAlways s2_SaveAlways__save__SaveAlways__save s3_18 s4 s5_18 (by decide) (O18) hb18
  have hb19 : Binds K (PySem.W.ksFn "save" "SaveAlways.save" (defArgs s_SaveAlways__save) (defBody s_SaveAlways__save) (defScope s_SaveAlways__save) .none kV19 dc19 pm19 an19 (.ref cda19) ct19 cc19) ["self", "process"] [] := .all fun us hl => match us, hl with | [_, _], _ => rfl
  have O19 := der_SaveAlways__save (P := l.prog) (w := w) (mg := mg) (base := base) F19 S_SaveAlways__save__SaveAlways__save
  have A_Rounds__numbers : ClsF K "Rounds" "numbers" := .of g_Rounds c_Rounds n_Rounds__numbers
  have hb20 : Binds K (PySem.W.fnOf "save" "Rounds.save" (defArgs s_Rounds__save) (defBody s_Rounds__save) (defScope s_Rounds__save) .none kV20 dc20 pm20 an20 cd20 ct20) ["self", "process"] [] := .all fun us hl => match us, hl with | [_, _], _ => rfl
  have O20 := der_Rounds__save (P := l.prog) (w := w) (mg := mg) (base := base) F20 A_Rounds__numbers
  have hb21 : Binds K (PySem.W.fnOf "send" "Rule.send" (defArgs s_Rule__send) (defBody s_Rule__send) (defScope s_Rule__send) .none kV21 dc21 pm21 an21 cd21 ct21) ["self", "process"] [] := .all fun us hl => match us, hl with | [_, _], _ => rfl
  have O21 := der_Rule__send (P := l.prog) (w := w) (mg := mg) (base := base) F21 
  have hb22 : Binds K (PySem.W.fnOf "send" "SaveAfterSend.send" (defArgs s_SaveAfterSend__send) (defBody s_SaveAfterSend__send) (defScope s_SaveAfterSend__send) .none kV22 dc22 pm22 an22 cd22 ct22) ["self", "process"] [] := .all fun us hl => match us, hl with | [_, _], _ => rfl
  have O22 := der_SaveAfterSend__send (P := l.prog) (w := w) (mg := mg) (base := base) F22 A_SaveAfterSend__busy A_SaveAlways__busy
  have S_SaveAlways__send__SaveAlways__send : DSup l.prog w K mg base 1 C_SaveAlways "SaveAlways" "send" 2 (dFn 2 B_SaveAfterSend__send_b8d5) := .of g_SaveAlways s1_SaveAlways__send__SaveAlways s2_SaveAlways__send__SaveAlways__send s3_22 s4 s5_22 (by decide) (O22) hb22
  have hb23 : Binds K (PySem.W.ksFn "send" "SaveAlways.send" (defArgs s_SaveAlways__send) (defBody s_SaveAlways__send) (defScope s_SaveAlways__send) .none kV23 dc23 pm23 an23 (.ref cda23) ct23 cc23) ["self", "process"] [] := .all fun us hl => match us, hl with | [_, _], _ => rfl
  have O23 := der_SaveAlways__send (P := l.prog) (w := w) (mg := mg) (base := base) F23 S_SaveAlways__send__SaveAlways__send
  have hb24 : Binds K (PySem.W.fnOf "send" "Rounds.send" (defArgs s_Rounds__send) (defBody s_Rounds__send) (defScope s_Rounds__send) .none kV24 dc24 pm24 an24 cd24 ct24) ["self", "process"] [] := .all fun us hl => match us, hl with | [_, _], _ => rfl
  have O24 := der_Rounds__send (P := l.prog) (w := w) (mg := mg) (base := base) F24 A_Rounds__numbers
  have hb25 : Binds K (PySem.W.fnOf "receive" "Rule.receive" (defArgs s_Rule__receive) (defBody s_Rule__receive) (defScope s_Rule__receive) .none kV25 dc25 pm25 an25 cd25 ct25) ["self", "process", "note"] [] := .all fun us hl => match us, hl with | [_, _, _], _ => rfl
  have O25 := der_Rule__receive (P := l.prog) (w := w) (mg := mg) (base := base) F25 
  have A_SaveAfterSend__wanted : ClsF K "SaveAfterSend" "wanted" := .of g_SaveAfterSend c_SaveAfterSend n_SaveAfterSend__wanted
  have A_SaveAlways__wanted : ClsF K "SaveAlways" "wanted" := .of g_SaveAlways c_SaveAlways n_SaveAlways__wanted
  have hb26 : Binds K (PySem.W.fnOf "receive" "SaveAfterSend.receive" (defArgs s_SaveAfterSend__receive) (defBody s_SaveAfterSend__receive) (defScope s_SaveAfterSend__receive) .none kV26 dc26 pm26 an26 cd26 ct26) ["self", "process", "note"] [] := .all fun us hl => match us, hl with | [_, _, _], _ => rfl
  have O26 := der_SaveAfterSend__receive (P := l.prog) (w := w) (mg := mg) (base := base) F26 A_SaveAfterSend__busy A_SaveAlways__busy A_SaveAfterSend__wanted A_SaveAlways__wanted
  have S_SaveAlways__receive__SaveAlways__receive : DSup l.prog w K mg base 1 C_SaveAlways "SaveAlways" "receive" 3 (dFn 4 B_SaveAfterSend__receive_3625) := .of g_SaveAlways s1_SaveAlways__receive__SaveAlways s2_SaveAlways__receive__SaveAlways__receive s3_26 s4 s5_26 (by decide) (O26) hb26
  have hb27 : Binds K (PySem.W.ksFn "receive" "SaveAlways.receive" (defArgs s_SaveAlways__receive) (defBody s_SaveAlways__receive) (defScope s_SaveAlways__receive) .none kV27 dc27 pm27 an27 (.ref cda27) ct27 cc27) ["self", "process", "note"] [] := .all fun us hl => match us, hl with | [_, _, _], _ => rfl
  have O27 := der_SaveAlways__receive (P := l.prog) (w := w) (mg := mg) (base := base) F27 A_SaveAlways__busy S_SaveAlways__receive__SaveAlways__receive
  have A_Rounds__wanted : ClsF K "Rounds" "wanted" := .of g_Rounds c_Rounds n_Rounds__wanted
  have hb28 : Binds K (PySem.W.fnOf "receive" "Rounds.receive" (defArgs s_Rounds__receive) (defBody s_Rounds__receive) (defScope s_Rounds__receive) .none kV28 dc28 pm28 an28 cd28 ct28) ["self", "process", "note"] [] := .all fun us hl => match us, hl with | [_, _, _], _ => rfl
  have O28 := der_Rounds__receive (P := l.prog) (w := w) (mg := mg) (base := base) F28 A_Rounds__numbers A_Rounds__wanted
  have M_Rule__save : DMet l.prog w K mg base 1 "Rule" "save" 2 (dFn 2 B_Rule__save_1a8c) := .of g_Rule c_Rule a17 bf17 k17 (O17) hb17
  have M_SaveAfterSend__save : DMet l.prog w K mg base 1 "SaveAfterSend" "save" 2 (dFn 2 B_SaveAfterSend__save_1876) := .of g_SaveAfterSend c_SaveAfterSend a18 bf18 k18 (O18) hb18
  have M_SaveAlways__save : DMet l.prog w K mg base 2 "SaveAlways" "save" 2 (dFn 3 B_SaveAlways__save_ec49) := .of g_SaveAlways c_SaveAlways a19 bf19 k19 (O19) hb19
  have M_Rounds__save : DMet l.prog w K mg base 1 "Rounds" "save" 2 (dFn 2 B_Rounds__save_512a) := .of g_Rounds c_Rounds a20 bf20 k20 (O20) hb20
  have M_Rule__send : DMet l.prog w K mg base 1 "Rule" "send" 2 (dFn 2 B_Rule__send_4f02) := .of g_Rule c_Rule a21 bf21 k21 (O21) hb21
  have M_SaveAfterSend__send : DMet l.prog w K mg base 1 "SaveAfterSend" "send" 2 (dFn 2 B_SaveAfterSend__send_b8d5) := .of g_SaveAfterSend c_SaveAfterSend a22 bf22 k22 (O22) hb22
  have M_SaveAlways__send : DMet l.prog w K mg base 2 "SaveAlways" "send" 2 (dFn 3 B_SaveAlways__send_496d) := .of g_SaveAlways c_SaveAlways a23 bf23 k23 (O23) hb23
  have M_Rounds__send : DMet l.prog w K mg base 1 "Rounds" "send" 2 (dFn 2 B_Rounds__send_2628) := .of g_Rounds c_Rounds a24 bf24 k24 (O24) hb24
  have M_Rule__receive : DMet l.prog w K mg base 1 "Rule" "receive" 3 (dFn 3 B_Rule__receive_a200) := .of g_Rule c_Rule a25 bf25 k25 (O25) hb25
  have M_SaveAfterSend__receive : DMet l.prog w K mg base 1 "SaveAfterSend" "receive" 3 (dFn 4 B_SaveAfterSend__receive_3625) := .of g_SaveAfterSend c_SaveAfterSend a26 bf26 k26 (O26) hb26
  have M_SaveAlways__receive : DMet l.prog w K mg base 2 "SaveAlways" "receive" 3 (dFn 5 B_SaveAlways__receive_2317) := .of g_SaveAlways c_SaveAlways a27 bf27 k27 (O27) hb27
  have M_Rounds__receive : DMet l.prog w K mg base 1 "Rounds" "receive" 3 (dFn 4 B_Rounds__receive_9908) := .of g_Rounds c_Rounds a28 bf28 k28 (O28) hb28
  have A_Rule__processes : ClsF K "Rule" "processes" := .of g_Rule c_Rule n_Rule__processes
  have A_SaveAfterSend__processes : ClsF K "SaveAfterSend" "processes" := .of g_SaveAfterSend c_SaveAfterSend n_SaveAfterSend__processes
  have A_SaveAlways__processes : ClsF K "SaveAlways" "processes" := .of g_SaveAlways c_SaveAlways n_SaveAlways__processes
  have A_Rounds__processes : ClsF K "Rounds" "processes" := .of g_Rounds c_Rounds n_Rounds__processes
  have D_run_plan : DFo l.prog w K mg base 3 "run_plan" 2 (dFn 9 B_run_plan_ed6f) := .mk' (der_run_plan F29 M_Rule__save M_SaveAfterSend__save M_SaveAlways__save M_Rounds__save M_Rule__send M_SaveAfterSend__send M_SaveAlways__send M_Rounds__send M_Rule__receive M_SaveAfterSend__receive M_SaveAlways__receive M_Rounds__receive A_Rule__processes A_SaveAfterSend__processes A_SaveAlways__processes A_Rounds__processes (PySem.W.mg_none_of X G z0) (PySem.W.mg_none_of X G z7) (PySem.W.mg_none_of X G z2)) (PySem.W.mg_of X G a29) F29.kp (F29.binds (ps := ["rule", "plan"]) fun _ _ _ _ _ _ us hl => match us, hl with | [_, _], _ => rfl)
  have A_Rule__wanted : ClsF K "Rule" "wanted" := .of g_Rule c_Rule n_Rule__wanted
  have hb30 : Binds K (PySem.W.fnOf "__init__" "Rule.__init__" (defArgs s_Rule____init__) (defBody s_Rule____init__) (defScope s_Rule____init__) .none kV30 dc30 pm30 an30 cd30 ct30) ["self", "processes"] [] := .all fun us hl => match us, hl with | [_, _], _ => rfl
  have O30 := der_Rule____init__ (P := l.prog) (w := w) (mg := mg) (base := base) F30 A_Rule__wanted A_SaveAfterSend__wanted A_SaveAlways__wanted A_Rounds__wanted A_Rule__processes A_SaveAfterSend__processes A_SaveAlways__processes A_Rounds__processes
  have S_SaveAfterSend____init____SaveAfterSend____init__ : DSup l.prog w K mg base 1 C_SaveAfterSend "SaveAfterSend" "__init__" 2 (dFn 2 B_Rule____init___2563) := .of g_SaveAfterSend s1_SaveAfterSend____init____SaveAfterSend s2_SaveAfterSend____init____SaveAfterSend____init__ s3_30 s4 s5_30 (by decide) (O30) hb30
  have S_SaveAfterSend____init____SaveAlways____init__ : DSup l.prog w K mg base 1 C_SaveAfterSend "SaveAlways" "__init__" 2 (dFn 2 B_Rule____init___2563) := .of g_SaveAlways s1_SaveAfterSend____init____SaveAlways s2_SaveAfterSend____init____SaveAlways____init__ s3_30 s4 s5_30 (by decide) (O30) hb30
  have hb31 : Binds K (PySem.W.ksFn "__init__" "SaveAfterSend.__init__" (defArgs s_SaveAfterSend____init__) (defBody s_SaveAfterSend____init__) (defScope s_SaveAfterSend____init__) .none kV31 dc31 pm31 an31 (.ref cda31) ct31 cc31) ["self", "processes"] [] := .all fun us hl => match us, hl with | [_, _], _ => rfl
  have O31 := der_SaveAfterSend____init__ (P := l.prog) (w := w) (mg := mg) (base := base) F31 A_SaveAfterSend__busy A_SaveAlways__busy S_SaveAfterSend____init____SaveAfterSend____init__ S_SaveAfterSend____init____SaveAlways____init__
  have S_Rounds____init____Rounds____init__ : DSup l.prog w K mg base 1 C_Rounds "Rounds" "__init__" 2 (dFn 2 B_Rule____init___2563) := .of g_Rounds s1_Rounds____init____Rounds s2_Rounds____init____Rounds____init__ s3_30 s4 s5_30 (by decide) (O30) hb30
  have hb32 : Binds K (PySem.W.ksFn "__init__" "Rounds.__init__" (defArgs s_Rounds____init__) (defBody s_Rounds____init__) (defScope s_Rounds____init__) .none kV32 dc32 pm32 an32 (.ref cda32) ct32 cc32) ["self", "processes"] [] := .all fun us hl => match us, hl with | [_, _], _ => rfl
  have O32 := der_Rounds____init__ (P := l.prog) (w := w) (mg := mg) (base := base) F32 A_Rounds__numbers S_Rounds____init____Rounds____init__
  have K_SaveAlways : DMk l.prog w K mg base 2 "SaveAlways" 2 (dFn 3 B_SaveAfterSend____init___fcad) := .of g_SaveAlways (PySem.W.mg_of X G g_SaveAlways) bm_SaveAlways b_SaveAlways____init__ bf31 bk_SaveAlways (O31) hb31
  have K_Rounds : DMk l.prog w K mg base 2 "Rounds" 2 (dFn 3 B_Rounds____init___8e81) := .of g_Rounds (PySem.W.mg_of X G g_Rounds) bm_Rounds a32 bf32 bk_Rounds (O32) hb32
  have K_SaveAfterSend : DMk l.prog w K mg base 2 "SaveAfterSend" 2 (dFn 3 B_SaveAfterSend____init___fcad) := .of g_SaveAfterSend (PySem.W.mg_of X G g_SaveAfterSend) bm_SaveAfterSend a31 bf31 bk_SaveAfterSend (O31) hb31
  have K_Rule : DMk l.prog w K mg base 1 "Rule" 2 (dFn 2 B_Rule____init___2563) := .of g_Rule (PySem.W.mg_of X G g_Rule) bm_Rule a30 bf30 bk_Rule (O30) hb30
  have D__law_rule : DFo l.prog w K mg base 4 "_law_rule" 2 (dFn 2 B_law_rule_b694) := .mk' (der__law_rule F33 K_SaveAlways K_Rounds K_SaveAfterSend K_Rule) (PySem.W.mg_of X G a33) F33.kp (F33.binds (ps := ["_law_name", "_law_count"]) fun _ _ _ _ _ _ us hl => match us, hl with | [_, _], _ => rfl)
  have D__law_draw : DFo l.prog w K mg base 1 "_law_draw" 2 (dFn 5 B_law_draw_ebff) := .mk' (der__law_draw F34 (PySem.W.mg_none_of X G z7)) (PySem.W.mg_of X G a34) F34.kp (F34.binds (ps := ["_law_deck_here", "_law_many"]) fun _ _ _ _ _ _ us hl => match us, hl with | [_, _], _ => rfl)
  have D__law_one : DFo l.prog w K mg base 2 "_law_one" 2 (dFn 2 B_law_one_b6e1) := .mk' (der__law_one F35 D__law_draw (PySem.W.mg_none_of X G z7)) (PySem.W.mg_of X G a35) F35.kp (F35.binds (ps := ["_law_deck_here", "_law_items"]) fun _ _ _ _ _ _ us hl => match us, hl with | [_, _], _ => rfl)
  have D__law_plan : DFo l.prog w K mg base 3 "_law_plan" 3 (dFn 11 B_law_plan_4754) := .mk' (der__law_plan F36 D__law_one D__law_draw (PySem.W.mg_none_of X G z0) (PySem.W.mg_none_of X G z2)) (PySem.W.mg_of X G a36) F36.kp (F36.binds (ps := ["_law_deck_here", "_law_count", "_law_many"]) fun _ _ _ _ _ _ us hl => match us, hl with | [_, _, _], _ => rfl)
  have D__law_deck : DFo l.prog w K mg base 1 "_law_deck" 1 (dFn 2 B_law_deck_e528) := .mk' (der__law_deck F37 (PySem.W.mg_none_of X G z8)) (PySem.W.mg_of X G a37) F37.kp (F37.binds (ps := ["_law_script"]) fun _ _ _ _ _ _ us hl => match us, hl with | [_], _ => rfl)
  exact (der_law F38 D_is_tracked D_find_untracked D__law_ordered D_run_plan D__law_rule D__law_plan D__law_draw D__law_deck (PySem.W.mg_none_of X G z2)).lawD rfl law_k67
end Sv
open PySem PySem.W PyProof.Rows in
set_option maxRecDepth 100000 in
set_option maxHeartbeats 0 in
theorem PySem.Challenge.cw_savelines_k67_whole_tracked_under_rules_holds : PySem.Challenge.rw_savelines_k67_whole_tracked_under_rules.Holds := by
  w_on; o_law; k_head; (case hw => w_witness2)
  k_fill
  refine Sv.walkG (l := PySem.Challenge.rw_savelines_k67_whole_tracked_under_rules) (n := 63) (k := 7) (x := "_law_script") (sp := Sv.spLawD) rfl (by decide) rfl ⟨rfl, by decide, by decide⟩ (fun w h Y => PySem.W.kIn_of Y) ?F (fun K H a ns hl hO hS => ⟨a, ns, rfl, hO, hS, hl, fun _ => rfl⟩)
  case F =>
    intro w mg fa h KX G hmg
    refine' Sv.all_mk KX G hmg ?g_Rule ?gp_Rule ?gh_Rule ?go_Rule ?gs_Rule ?g_SaveAfterSend ?gp_SaveAfterSend ?gh_SaveAfterSend ?go_SaveAfterSend ?gs_SaveAfterSend ?g_SaveAlways ?gp_SaveAlways ?gh_SaveAlways ?go_SaveAlways ?gs_SaveAlways ?g_Rounds ?gp_Rounds ?gh_Rounds ?go_Rounds ?gs_Rounds ?a0 ?l0 ?c0 ?k0 ?a1 ?l1 ?c1 ?k1 ?a2 ?l2 ?c2 ?k2 ?a3 ?l3 ?c3 ?k3 ?a4 ?l4 ?c4 ?k4 ?a5 ?l5 ?c5 ?k5 ?a6 ?l6 ?c6 ?k6 ?a7 ?l7 ?c7 ?k7 ?a8 ?l8 ?c8 ?k8 ?a9 ?l9 ?c9 ?k9 ?a10 ?l10 ?c10 ?k10 ?a11 ?l11 ?c11 ?k11 ?a12 ?l12 ?c12 ?k12 ?a13 ?l13 ?c13 ?k13 ?a14 ?l14 ?c14 ?k14 ?a15 ?l15 ?c15 ?k15 ?a16 ?l16 ?c16 ?k16 ?a17 ?l17 ?c17 ?k17 ?a18 ?l18 ?c18 ?k18 ?a19 ?l19 ?c19 ?k19 ?x19 ?y19 ?u19 ?v19 ?a20 ?l20 ?c20 ?k20 ?a21 ?l21 ?c21 ?k21 ?a22 ?l22 ?c22 ?k22 ?a23 ?l23 ?c23 ?k23 ?x23 ?y23 ?u23 ?v23 ?a24 ?l24 ?c24 ?k24 ?a25 ?l25 ?c25 ?k25 ?a26 ?l26 ?c26 ?k26 ?a27 ?l27 ?c27 ?k27 ?x27 ?y27 ?u27 ?v27 ?a28 ?l28 ?c28 ?k28 ?a29 ?l29 ?c29 ?k29 ?a30 ?l30 ?c30 ?k30 ?a31 ?l31 ?c31 ?k31 ?x31 ?y31 ?u31 ?v31 ?a32 ?l32 ?c32 ?k32 ?x32 ?y32 ?u32 ?v32 ?a33 ?l33 ?c33 ?k33 ?a34 ?l34 ?c34 ?k34 ?a35 ?l35 ?c35 ?k35 ?a36 ?l36 ?c36 ?k36 ?a37 ?l37 ?c37 ?k37 ?a38 ?l38 ?c38 ?k38 ?n_SaveAfterSend__busy ?n_SaveAlways__busy ?s1_SaveAlways__save__SaveAlways ?s2_SaveAlways__save__SaveAlways__save ?s3_18 ?s4 ?s5_18 ?n_Rounds__numbers ?s1_SaveAlways__send__SaveAlways ?s2_SaveAlways__send__SaveAlways__send ?s3_22 ?s5_22 ?n_SaveAfterSend__wanted ?n_SaveAlways__wanted ?s1_SaveAlways__receive__SaveAlways ?s2_SaveAlways__receive__SaveAlways__receive ?s3_26 ?s5_26 ?n_Rounds__wanted ?bf17 ?bf18 ?bf19 ?bf20 ?bf21 ?bf22 ?bf23 ?bf24 ?bf25 ?bf26 ?bf27 ?bf28 ?n_Rule__processes ?n_SaveAfterSend__processes ?n_SaveAlways__processes ?n_Rounds__processes ?n_Rule__wanted ?s1_SaveAfterSend____init____SaveAfterSend ?s2_SaveAfterSend____init____SaveAfterSend____init__ ?s3_30 ?s5_30 ?s1_SaveAfterSend____init____SaveAlways ?s2_SaveAfterSend____init____SaveAlways____init__ ?s1_Rounds____init____Rounds ?s2_Rounds____init____Rounds____init__ ?b_SaveAlways____init__ ?bf31 ?bm_SaveAlways ?bk_SaveAlways ?bf32 ?bm_Rounds ?bk_Rounds ?bm_SaveAfterSend ?bk_SaveAfterSend ?bf30 ?bm_Rule ?bk_Rule ?s7 ?s8 ?z0 ?z1 ?z2 ?z3 ?z4 ?z5 ?z6 ?z7 ?z8
    (case g_Rule => k_is)
    (case gp_Rule => k_is)
    (case gh_Rule => k_is)
    (case go_Rule => k_is)
    (case gs_Rule => k_is)
    (case g_SaveAfterSend => k_is)
    (case gp_SaveAfterSend => k_is)
    (case gh_SaveAfterSend => k_is)
    (case go_SaveAfterSend => k_is)
    (case gs_SaveAfterSend => k_is)
    (case g_SaveAlways => k_is)
    (case gp_SaveAlways => k_is)
    (case gh_SaveAlways => k_is)
    (case go_SaveAlways => k_is)
    (case gs_SaveAlways => k_is)
    (case g_Rounds => k_is)
    (case gp_Rounds => k_is)
    (case gh_Rounds => k_is)
    (case go_Rounds => k_is)
    (case gs_Rounds => k_is)
    (case a0 => k_is)
    (case l0 => k_is)
    (case c0 => k_is)
    (case k0 => k_is)
    (case a1 => k_is)
    (case l1 => k_is)
    (case c1 => k_is)
    (case k1 => k_is)
    (case a2 => k_is)
    (case l2 => k_is)
    (case c2 => k_is)
    (case k2 => k_is)
    (case a3 => k_is)
    (case l3 => k_is)
    (case c3 => k_is)
    (case k3 => k_is)
    (case a4 => k_is)
    (case l4 => k_is)
    (case c4 => k_is)
    (case k4 => k_is)
    (case a5 => k_is)
    (case l5 => k_is)
    (case c5 => k_is)
    (case k5 => k_is)
    (case a6 => k_is)
    (case l6 => k_is)
    (case c6 => k_is)
    (case k6 => k_is)
    (case a7 => k_is)
    (case l7 => k_is)
    (case c7 => k_is)
    (case k7 => k_is)
    (case a8 => k_is)
    (case l8 => k_is)
    (case c8 => k_is)
    (case k8 => k_is)
    (case a9 => k_is)
    (case l9 => k_is)
    (case c9 => k_is)
    (case k9 => k_is)
    (case a10 => k_is)
    (case l10 => k_is)
    (case c10 => k_is)
    (case k10 => k_is)
    (case a11 => k_is)
    (case l11 => k_is)
    (case c11 => k_is)
    (case k11 => k_is)
    (case a12 => k_is)
    (case l12 => k_is)
    (case c12 => k_is)
    (case k12 => k_is)
    (case a13 => k_is)
    (case l13 => k_is)
    (case c13 => k_is)
    (case k13 => k_is)
    (case a14 => k_is)
    (case l14 => k_is)
    (case c14 => k_is)
    (case k14 => k_is)
    (case a15 => k_is)
    (case l15 => k_is)
    (case c15 => k_is)
    (case k15 => k_is)
    (case a16 => k_is)
    (case l16 => k_is)
    (case c16 => k_is)
    (case k16 => k_is)
    (case a17 => k_is)
    (case l17 => k_is)
    (case c17 => k_is)
    (case k17 => k_is)
    (case a18 => k_is)
    (case l18 => k_is)
    (case c18 => k_is)
    (case k18 => k_is)
    (case a19 => k_is)
    (case l19 => k_is)
    (case c19 => k_is)
    (case k19 => k_is)
    (case x19 => k_is)
    (case y19 => k_is)
    (case u19 => rfl)
    (case v19 => rfl)
    (case a20 => k_is)
    (case l20 => k_is)
    (case c20 => k_is)
    (case k20 => k_is)
    (case a21 => k_is)
    (case l21 => k_is)
    (case c21 => k_is)
    (case k21 => k_is)
    (case a22 => k_is)
    (case l22 => k_is)
    (case c22 => k_is)
    (case k22 => k_is)
    (case a23 => k_is)
    (case l23 => k_is)
    (case c23 => k_is)
    (case k23 => k_is)
    (case x23 => k_is)
    (case y23 => k_is)
    (case u23 => rfl)
    (case v23 => rfl)
    (case a24 => k_is)
    (case l24 => k_is)
    (case c24 => k_is)
    (case k24 => k_is)
    (case a25 => k_is)
    (case l25 => k_is)
    (case c25 => k_is)
    (case k25 => k_is)
    (case a26 => k_is)
    (case l26 => k_is)
    (case c26 => k_is)
    (case k26 => k_is)
    (case a27 => k_is)
    (case l27 => k_is)
    (case c27 => k_is)
    (case k27 => k_is)
    (case x27 => k_is)
    (case y27 => k_is)
    (case u27 => rfl)
    (case v27 => rfl)
    (case a28 => k_is)
    (case l28 => k_is)
    (case c28 => k_is)
    (case k28 => k_is)
    (case a29 => k_is)
    (case l29 => k_is)
    (case c29 => k_is)
    (case k29 => k_is)
    (case a30 => k_is)
    (case l30 => k_is)
    (case c30 => k_is)
    (case k30 => k_is)
    (case a31 => k_is)
    (case l31 => k_is)
    (case c31 => k_is)
    (case k31 => k_is)
    (case x31 => k_is)
    (case y31 => k_is)
    (case u31 => rfl)
    (case v31 => rfl)
    (case a32 => k_is)
    (case l32 => k_is)
    (case c32 => k_is)
    (case k32 => k_is)
    (case x32 => k_is)
    (case y32 => k_is)
    (case u32 => rfl)
    (case v32 => rfl)
    (case a33 => k_is)
    (case l33 => k_is)
    (case c33 => k_is)
    (case k33 => k_is)
    (case a34 => k_is)
    (case l34 => k_is)
    (case c34 => k_is)
    (case k34 => k_is)
    (case a35 => k_is)
    (case l35 => k_is)
    (case c35 => k_is)
    (case k35 => k_is)
    (case a36 => k_is)
    (case l36 => k_is)
    (case c36 => k_is)
    (case k36 => k_is)
    (case a37 => k_is)
    (case l37 => k_is)
    (case c37 => k_is)
    (case k37 => k_is)
    (case a38 => k_is)
    (case l38 => k_is)
    (case c38 => k_is)
    (case k38 => k_is)
    (case n_SaveAfterSend__busy => k_is)
    (case n_SaveAlways__busy => k_is)
    (case s1_SaveAlways__save__SaveAlways => k_is)
    (case s2_SaveAlways__save__SaveAlways__save => ks_is)
    (case s3_18 => k_is)
    (case s4 => k_is)
    (case s5_18 => k_is)
    (case n_Rounds__numbers => k_is)
    (case s1_SaveAlways__send__SaveAlways => k_is)
    (case s2_SaveAlways__send__SaveAlways__send => ks_is)
    (case s3_22 => k_is)
    (case s5_22 => k_is)
    (case n_SaveAfterSend__wanted => k_is)
    (case n_SaveAlways__wanted => k_is)
    (case s1_SaveAlways__receive__SaveAlways => k_is)
    (case s2_SaveAlways__receive__SaveAlways__receive => ks_is)
    (case s3_26 => k_is)
    (case s5_26 => k_is)
    (case n_Rounds__wanted => k_is)
    (case bf17 => k_is)
    (case bf18 => k_is)
    (case bf19 => k_is)
    (case bf20 => k_is)
    (case bf21 => k_is)
    (case bf22 => k_is)
    (case bf23 => k_is)
    (case bf24 => k_is)
    (case bf25 => k_is)
    (case bf26 => k_is)
    (case bf27 => k_is)
    (case bf28 => k_is)
    (case n_Rule__processes => k_is)
    (case n_SaveAfterSend__processes => k_is)
    (case n_SaveAlways__processes => k_is)
    (case n_Rounds__processes => k_is)
    (case n_Rule__wanted => k_is)
    (case s1_SaveAfterSend____init____SaveAfterSend => k_is)
    (case s2_SaveAfterSend____init____SaveAfterSend____init__ => ks_is)
    (case s3_30 => k_is)
    (case s5_30 => k_is)
    (case s1_SaveAfterSend____init____SaveAlways => k_is)
    (case s2_SaveAfterSend____init____SaveAlways____init__ => ks_is)
    (case s1_Rounds____init____Rounds => k_is)
    (case s2_Rounds____init____Rounds____init__ => ks_is)
    (case b_SaveAlways____init__ => k_is)
    (case bf31 => k_is)
    (case bm_SaveAlways => k_is)
    (case bk_SaveAlways => k_is)
    (case bf32 => k_is)
    (case bm_Rounds => k_is)
    (case bk_Rounds => k_is)
    (case bm_SaveAfterSend => k_is)
    (case bk_SaveAfterSend => k_is)
    (case bf30 => k_is)
    (case bm_Rule => k_is)
    (case bk_Rule => k_is)
    (case s7 => k_is)
    (case s8 => first | rfl | decide +kernel | kernel_rfl)
    (case z0 => k_is)
    (case z1 => k_is)
    (case z2 => k_is)
    (case z3 => k_is)
    (case z4 => k_is)
    (case z5 => k_is)
    (case z6 => k_is)
    (case z7 => k_is)
    (case z8 => k_is)
