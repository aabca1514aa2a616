import PyProof.Rows.All
import Wide.All
import OpenK.AllK
import Wide.FinOn
import HandS.ForMost
import HandS.Defaults
import HandS.MakeKw
import HandS.MakeKwOnly
import HandS.Wide
import HandS.Flow
import HandS.Style
import HandS.IsInst
import HandS.StrMore
import HandS.Codes
import KE.KCallOwn
import KE.KFmtOwn
import HandS.OwnEq
import HandS.FStr
import HandS.Sort
import HandS.Exc
import HandS.ExcInit
import HandS.ExcIs
import HandS.ExcField
import HandS.ExcOwn
import HandS.CallSlots
import HandS.WordsExc
import KE.KExcInit
import KE.KExcIs
import KE.KDictWalk
import HandS.Iter
import HandS.More
import HandS.WideBits
import HandS.Text
import HandS.Zip
import PyProof.SliceList
import HandS.SetFor
import KE.IntTextLaws
import PyProof.Rows.StrSplitJoin
import HandS.TupAny
import HandS.SetKeys
import HandS.SortRule
import HandS.DictComp
import HandS.Conv
import HandS.Dict
import HandS.SetBool
import PySem.Challenge.RW_yarnback_k21_homes_that_are_over
set_option Elab.async false
set_option linter.all false
set_option maxRecDepth 100000
set_option maxHeartbeats 4000000
namespace Yarn
open PySem PySem.Spec PyProof.Rows L2

/-! ### closing a reading upwards: what holds of a continuation holds of a weaker one -/
def clA (t : TA) : TA := fun σ H K => ∃ K0, t σ H K0 ∧ ∀ xs H1, K0 xs H1 → K xs H1
def clE (t : TE) : TE := fun σ H K => ∃ K0, t σ H K0 ∧ ∀ x H1, K0 x H1 → K x H1
section
variable {X : Cx}
theorem PA.cl {es : List Expr} {t : TA} (h : PA X es t) : PA X es (clA t) := ⟨fun pos pins s σ H Q I q => by
  obtain ⟨K0, q0, m⟩ := q
  exact thn (h.run pos pins s σ H K0 I q0) fun us s1 ⟨vs, H1, I1, r, z⟩ => ⟨vs, H1, I1, r, m _ _ z⟩⟩
theorem PK.cl {ks : List Keyword} {t : TA} (h : PK X ks t) : PK X ks (clA t) := ⟨fun pos pins s σ H Q I q => by
  obtain ⟨K0, q0, m⟩ := q
  exact thn (h.run pos pins s σ H K0 I q0) fun us s1 ⟨vs, H1, I1, r, z⟩ => ⟨vs, H1, I1, r, m _ _ z⟩⟩
theorem PE.cl {e : Expr} {t : TE} (h : PE X e t) : PE X e (clE t) := ⟨fun pins s σ H Q I q => by
  obtain ⟨K0, q0, m⟩ := q
  exact thn (h.run pins s σ H K0 I q0) fun u s1 ⟨x, H1, I1, r, z⟩ => ⟨x, H1, I1, r, m _ _ z⟩⟩
theorem PE.weak {e : Expr} {t t' : TE} (h : PE X e t) (m : ∀ σ H Q, t' σ H Q → t σ H Q) : PE X e t' := ⟨fun pins s σ H Q I q => h.run pins s σ H Q I (m σ H Q q)⟩
theorem PS.weak {e : Stmt} {t t' : TS} (h : PS X e t) (m : ∀ D σ H, t' D σ H → t D σ H) : PS X e t' := ⟨fun pins s σ H D I q => h.run pins s σ H D I (m D σ H q)⟩
end

/-! ### what a step keeps -/
/-- all but the object at p -/
def But (p : Addr) (H H' : Hp) : Prop := ∀ a o, a ≠ p → H a = some o → H' a = some o
theorem But.trans {p : Addr} {H H1 H2 : Hp} (a : But p H H1) (b : But p H1 H2) : But p H H2 := fun c o h e => b c o h (a c o h e)
theorem same_but {p : Addr} {H H1 : Hp} (a : Same H H1) : But p H H1 := fun c o _ e => a c o e
theorem same_upd {H : Hp} {p : Addr} {o : HO} (h : H p = none) : Same H (upd H p o) := fun a u e => by rw [upd_ne (ne_of_none e h)]; exact e
theorem but_upd {H : Hp} {p : Addr} {o : HO} : But p H (upd H p o) := fun a u h e => by rw [upd_ne h]; exact e
/-- an object is made at x (new), and then filled -/
theorem same_new {H H1 H2 : Hp} {x : Addr} (n : H x = none) (s : Same H H1) (b : But x H1 H2) : Same H H2 := fun a o e => b a o (ne_of_none e n) (s a o e)

/-! ### displays, by what the heap behind them keeps -/
def tLstY (t : TA) : TE := fun σ H Q => t σ H fun xs H1 => xs.length ≤ sizeLine ∧ ∀ p H2, H1 p = none → Same H1 H2 → H2 p = some (.lst xs) → Q (.ref p) H2
def tTupY (t : TA) : TE := fun σ H Q => t σ H fun xs H1 => xs.length ≤ sizeLine ∧ ∀ p H2, H1 p = none → Same H1 H2 → H2 p = some (.tup xs) → Q (.ref p) H2
section
variable {X : Cx} {es : List Expr} {t : TA} {pos : Pos}
theorem pe_lstY (h : PA X es t) : PE X (.List es pos) (tLstY t) :=
  PE.weak (pe_lst (PA.cl h)) fun σ H Q q => ⟨_, q, fun xs H1 z => ⟨z.1, fun p hp => z.2 p _ hp (same_upd hp) upd_same⟩⟩
theorem pe_tupY {x1} (h : PA X es t) : PE X (.Tuple es x1 pos) (tTupY t) :=
  PE.weak (pe_tup (PA.cl h)) fun σ H Q q => ⟨_, q, fun xs H1 z => ⟨z.1, fun p hp => z.2 p _ hp (same_upd hp) upd_same⟩⟩
end

/-! ### a slice of a list -/
def rSlLY (K : PySem.W.Frag) : V → Option Int → Option Int → Hp → VK → Prop := fun x lo hi H Q => ∃ a xs, x = .ref a ∧ SqL K H a xs ∧ ∀ p H2, H p = none → Same H H2 → H2 p = some (.lst (cutV xs lo hi)) → Q (.ref p) H2

/-! ### an instance is made -/
def tMakeY (C : Addr) (sp : Sp) (dvs : List V) (E : XK) (t : TA) : TE := fun σ H Q => t σ H fun vs H1 => ∀ x dx H2, H1 x = none → dx ≠ x → Same H1 H2 → H2 x = some (.ins C dx []) →
  sp (.ref x :: (vs ++ dvs)) H2 (fun v H3 => v = .non ∧ Q (.ref x) H3) E
def tMakeNY (C : Addr) (n m : Nat) (sp : Sp) (gV : List V → List V → List V) (E : XK) (t tk : TA) : TE := fun σ H Q => t σ H fun vs H1 => tk σ H1 fun zs H2 => vs.length = n ∧ zs.length = m ∧
  ∀ x dx H3, H2 x = none → dx ≠ x → Same H2 H3 → H3 x = some (.ins C dx []) → sp (gV (.ref x :: vs) zs) H3 (fun v H4 => v = .non ∧ Q (.ref x) H4) E
section
variable {X : Cx} {CX : CXT} {k n : Nat} {f C : Addr} {fd : FuncData} {ps ks : List Str} {sp : Sp} {E : XK} {dvs : List V} {ds : List Value} {x : Str} {p pos : Pos} {e : Expr} {es : List Expr} {kws : List Keyword} {t tk : TA} {g : List Value → List Value → List Value} {gV : List V → List V → List V}
theorem same_made {H : Hp} {x dx : Addr} (hx : H x = none) (hd : H dx = none) (ne : dx ≠ x) : Same H (upd (upd H dx (.own x)) x (.ins C dx [])) := fun a o z => by
  rw [upd_ne (ne_of_none z hx), upd_ne (ne_of_none z hd)]
  exact z
theorem pe_makeY (M : Mk X.K C f) (F : FnOk X.prog X.w X.K X.mg X.base CX k f fd ps sp) (hr : Room (k + 1) X.A) (hg : Gl X x) (hm : X.mg x = some (.ref C)) (hb : Binds X.K fd ps ds) (hd : Vals dvs ds) (hx : Passes CX X E) (ha : PA X (e :: es) t)
    (hdb : (x == ("__debug__" : Str)) = false := by decide)
    (he : starEach (e :: es) X.env = (false, eval e X.env) :: starEach es X.env := by rfl) (hpl : (backTo pos (starEach es X.env)).any (·.1) = false := by rfl) :
    PE X (.Call (.Name x p) (e :: es) [] pos) (tMakeY C sp dvs E t) :=
  PE.weak (pe_make M F hr hg hm hb hd hx (PA.cl ha) hdb he hpl) fun σ H Q q => ⟨_, q, fun vs H1 z y dy h1 h2 h3 => z y dy _ h1 h3 (same_made h1 h2 h3) upd_same⟩
theorem pe_makeY0 (M : Mk X.K C f) (F : FnOk X.prog X.w X.K X.mg X.base CX k f fd ps sp) (hr : Room (k + 1) X.A) (hg : Gl X x) (hm : X.mg x = some (.ref C)) (hb : Binds X.K fd ps ds) (hd : Vals dvs ds) (hx : Passes CX X E)
    (hdb : (x == ("__debug__" : Str)) = false := by decide) :
    PE X (.Call (.Name x p) [] [] pos) (tMakeY C sp dvs E tNil) :=
  PE.weak (pe_make0 M F hr hg hm hb hd hx hdb) fun σ H Q q => fun y dy h1 h2 h3 => q y dy _ h1 h3 (same_made h1 h2 h3) upd_same
theorem pe_makeNY (M : Mk X.K C f) (F : FnOk X.prog X.w X.K X.mg X.base CX k f fd ps sp) (hr : Room (k + 1) X.A) (hg : Gl X x) (hm : X.mg x = some (.ref C)) (hb : KBn X.K fd ps (n + 1) ks g gV) (hx : Passes CX X E)
    (ha : PA X (e :: es) t) (hkw : PK X kws tk) (hall : (backToKw pos (keywordEach kws X.env)).all (·.1.isSome) = true := by rfl) (hks : (backToKw pos (keywordEach kws X.env)).filterMap (·.1) = ks := by rfl)
    (hdb : (x == ("__debug__" : Str)) = false := by decide) (he : starEach (e :: es) X.env = (false, eval e X.env) :: starEach es X.env := by rfl)
    (hpl : ((backTo pos (starEach (e :: es) X.env)).any (·.1) || (backToKw pos (keywordEach kws X.env)).any (·.1.isNone)) = false := by rfl) :
    PE X (.Call (.Name x p) (e :: es) kws pos) (tMakeNY C n ks.length sp gV E t tk) :=
  PE.weak (pe_makeN M F hr hg hm hb hx (PA.cl ha) (PK.cl hkw) hall hks hdb he hpl) fun σ H Q q =>
    ⟨_, q, fun vs H1 z => ⟨_, z, fun zs H2 ⟨l1, l2, w⟩ => ⟨l1, l2, fun y dy h1 h2 h3 => w y dy _ h1 h3 (same_made h1 h2 h3) upd_same⟩⟩⟩
theorem pe_makeKY (M : Mk X.K C f) (F : FnOk X.prog X.w X.K X.mg X.base CX k f fd ps sp) (hr : Room (k + 1) X.A) (hg : Gl X x) (hm : X.mg x = some (.ref C)) (hb : KBn X.K fd ps 1 ks g gV) (hx : Passes CX X E) (hkw : PK X kws tk)
    (hall : (backToKw pos (keywordEach kws X.env)).all (·.1.isSome) = true := by rfl) (hks : (backToKw pos (keywordEach kws X.env)).filterMap (·.1) = ks := by rfl) (hdb : (x == ("__debug__" : Str)) = false := by decide)
    (hpl : ((backTo pos (starEach [] X.env)).any (·.1) || (backToKw pos (keywordEach kws X.env)).any (·.1.isNone)) = false := by rfl) :
    PE X (.Call (.Name x p) [] kws pos) (tMakeNY C 0 ks.length sp gV E tNil tk) :=
  PE.weak (pe_makeK0 M F hr hg hm hb hx (PK.cl hkw) hall hks hdb hpl) fun σ H Q q =>
    ⟨_, q, fun zs H2 ⟨l1, l2, w⟩ => ⟨l1, l2, fun y dy h1 h2 h3 => w y dy _ h1 h3 (same_made h1 h2 h3) upd_same⟩⟩
end

/-! ### a field is stored -/
def sFldY (K : PySem.W.Frag) (ta tv : TE) (f : Str) : TS := fun D σ H => tv σ H fun y H1 => ta σ H1 fun x H2 => ∃ a C dx fs, x = .ref a ∧ H2 a = some (.ins C dx fs) ∧ Cls K C ∧ NoAttr K C f ∧ fs.length < 1000 ∧
  ∀ H3, But a H2 H3 → H3 a = some (.ins C dx (putF f y fs)) → D.nx σ H3
theorem ps_fldY {X : Cx} {o value : Expr} {f : Str} {pos pos' : Pos} {ta tv : TE} (ha : PE X o ta) (hv : PE X value tv) (hs : swapsWith value (some (.Attribute o f pos')) pos.line X.env = pure false) :
    PS X (.Assign [.Attribute o f pos'] value pos) (sFldY X.K ta tv f) :=
  PS.weak (ps_fld (PE.cl ha) (PE.cl hv) hs) fun D σ H q => ⟨_, q, fun y H1 z => ⟨_, z, fun x H2 ⟨a, C, dx, fs, e, h, c, n, l, w⟩ => ⟨a, C, dx, fs, e, h, c, n, l, w _ but_upd upd_same⟩⟩⟩
end Yarn

set_option Elab.async false
set_option linter.all false
set_option maxRecDepth 100000
set_option maxHeartbeats 4000000
namespace Yarn
open PySem PySem.Spec PyProof.Rows L2

section
variable {X : Cx} {CX : CXT} {pins : List (Addr × Obj)} {σ : L2.St} {H : Hp} {s : Shared} {C f : Addr} {fd : FuncData} {ps : List Str} {sp : Sp} {E : XK} {n : Nat}
/-- a def of the text runs somewhere below the running body -/
theorem at_fn {A : Around} {Q : VK} {us : List Value} {vs : List V} (F : FnOk X.prog X.w X.K X.mg X.base CX n f fd ps sp) (hr : Room n A) (e0 : Env0 X.prog X.w X.K X.mg X.base A X.stack s H)
    (hb : Binds X.K fd ps []) (hx : Passes CX X E) (I : Inv X pins σ H s) (r : Vals vs us) (h : sp vs H Q E) :
    wpAny (model X.prog X.w) A (call (.ref f) us) (EP X pins σ Q) X.xe s := by
  have hl := F.len _ _ _ _ h
  have hb' : BindsTo s fd ⟨us, []⟩ (ps.zip us) := by
    have z := hb s us I.kIn (by rw [List.append_nil, ← r.length]; exact hl)
    rw [List.append_nil] at z
    exact z
  refine wpAny_call (codeAny_mono (F.run A X.stack s H ⟨us, []⟩ us vs Q E hr e0 hb' r h) fun r s' hq => ?_)
  cases r with
  | error e => exact hx pins σ H s e s' I hq
  | ok fl =>
    cases fl with
    | ret u => exact I.after hq
    | next => exact hq.elim
    | brk => exact hq.elim
    | cont => exact hq.elim
theorem room_in1 {A : Around} (h : Room (n + 1) A) : Room n A.in1 := h.in1

/-! ### == and != by an own __eq__ -/
/-- the class of a value as it is looked up -/
inductive ClOf (H : Hp) : V → Value → Prop where
  | non : ClOf H .non (.type "NoneType")
  | bl (b : Bool) : ClOf H (.bl b) (.type "bool")
  | int (i : Int) : ClOf H (.int i) (.type "int")
  | str (x : Str) : ClOf H (.str x) (.type "str")
  | tup {a : Addr} {xs : List V} (e : H a = some (.tup xs)) : ClOf H (.ref a) (.type "tuple")
  | lst {a : Addr} {xs : List V} (e : H a = some (.lst xs)) : ClOf H (.ref a) (.type "list")
  | ins {a C dx : Addr} {fs : List (Str × V)} (e : H a = some (.ins C dx fs)) : ClOf H (.ref a) (.ref C)
theorem looks_cls {M : Model} {h : Heap} {a : Addr} {o : Obj} (e : h.get? a = some o) : PySem.W.Looks M h (typeOf (.ref a)) o.cls := fun A Q E s k q => wpAny_typeOf_ref (k _ _ e) q
theorem ClOf.looks {M : Model} {y : V} {u t : Value} (I : Inv X pins σ H s) (r : RelV y u) (c : ClOf H y t) : PySem.W.Looks M s.heap (typeOf u) t := by
  cases c with
  | non => cases (show u = Value.none from r); exact PySem.W.Looks.of_pure rfl
  | bl b => cases (show u = Value.bool b from r); exact PySem.W.Looks.of_pure rfl
  | int i => obtain ⟨t, q⟩ := (show ∃ t, u = Value.int i t from r); cases q; exact PySem.W.Looks.of_pure rfl
  | str x => obtain ⟨t, q⟩ := (show ∃ t, u = Value.str x t from r); cases q; exact PySem.W.Looks.of_pure rfl
  | @tup a xs ea =>
    cases (show u = Value.ref a from r)
    obtain ⟨_, _, _, o, h1, h2, _⟩ := (show ObjOk X.prog X.w H s.heap a (.tup xs) from I.hok a _ ea)
    rw [← h2]
    exact looks_cls h1
  | @lst a xs ea =>
    cases (show u = Value.ref a from r)
    obtain ⟨_, _, m, _, h1⟩ := (show ObjOk X.prog X.w H s.heap a (.lst xs) from I.hok a _ ea)
    exact looks_cls h1
  | @ins a C dx fs ea =>
    cases (show u = Value.ref a from r)
    obtain ⟨mA, O, _⟩ := ins_get I.hok ea
    obtain ⟨od, J, _⟩ := O.look
    exact J.type
/-- x == y, x an instance of the class at C -/
def rEqO (K : PySem.W.Frag) (C : Addr) (sp : Sp) (E : XK) : R2 := fun x y H Q => ∃ a dx fs tb, x = .ref a ∧ H a = some (.ins C dx fs) ∧ ClOf H y tb ∧ PySem.W.notFirst K C tb = true ∧ sp [x, y] H Q E
theorem back_cmp {P : Value → Shared → Prop} {z : V} {v : Value} {s' : Shared} (r : RelV z v) (h : P v s') : PySem.W.CmpBack P v s' := by
  cases z with
  | non => cases (show v = Value.none from r); exact h
  | bl b => cases (show v = Value.bool b from r); exact h
  | int i => obtain ⟨t, e⟩ := (show ∃ t, v = Value.int i t from r); cases e; exact h
  | str x => obtain ⟨t, e⟩ := (show ∃ t, v = Value.str x t from r); cases e; exact h
  | byt x => obtain ⟨t, e⟩ := (show ∃ t, v = Value.bytes x t from r); cases e; exact h
  | flt x => obtain ⟨t, e⟩ := (show ∃ t, v = Value.float x t from r); cases e; exact h
  | ref a => cases (show v = Value.ref a from r); exact h
  | ty m => cases (show v = Value.type m from r); exact h
theorem op_eqO (F : FnOk X.prog X.w X.K X.mg X.base CX n f fd ps sp) (hr : Room n X.A) (hs : PySem.W.findIn X.K (.ref C) "__eq__" = some (some (.ref f))) (hf : PySem.W.isFn X.K (.ref f) = true) (hb : Binds X.K fd ps [])
    (hx : Passes CX X E) : OpR X (compareOp .Eq) (rEqO X.K C sp E) := by
  intro pins s σ H x y v u Q I rx ry h
  obtain ⟨a, dx, fs, tb, rfl, ea, hc, hn, q⟩ := h
  cases (show v = Value.ref a from rx)
  obtain ⟨mA, O, _⟩ := ins_get I.hok ea
  obtain ⟨od, J, _⟩ := O.look
  obtain ⟨m, hF⟩ := I.fr
  show wpAny (model X.prog X.w) X.A (richCompare .Eq (.ref a) u) (EP X pins σ Q) X.xe s
  refine PySem.W.cmp_K (op := .Eq) (tb := tb) hr.units0 hF I.ok.mod.kin J (hc.looks I ry) hn hs hf (thn (at_fn F hr I.env0 hb hx I (.cons rx (.cons ry .nil)) q) fun w s' z => ?_)
  obtain ⟨z', H', I', rz, qz⟩ := z
  exact back_cmp rz ⟨z', H', I', rz, qz⟩

theorem ifBound_B {M : Model} {A : Around} {E : Value → Shared → Prop} {K : PySem.W.Frag} {x : Addr} {ox : Obj} {od : Option Obj} {name : Str} {id : String} {args : List Value} {Q : Option Value → Shared → Prop} (Xk : K.In s.heap) (I : PySem.W.InstAt s.heap x ox C od)
    (hs : PySem.W.findIn K (.ref C) name = some (some (.builtin id))) (hb : ∀ self, bindSpecial (.builtin id) self = pure (.builtin id, [self]))
    (h : wpAny M A (call (.builtin id) (.ref x :: args)) (fun v => Q (some v)) E s) : wpAny M A (callSpecialIfBound? (.ref x) name args) Q E s := by
  simp only [callSpecialIfBound?, bindSpecialIfBound?]
  have L1 := (PySem.W.looks_findIn (M := M) Xk hs)
  refine wpAny_holding (wpAny_bind (wpAny_bind (wpAny_bind (I.type.here (L1.here ?_)))))
  refine wpAny_bind (wpAny_askSetting (wpAny_ite ?_))
  have fin : wpAny M A (call (.builtin id) ([.ref x] ++ args) >>= fun v => pure (some v)) Q E s := wpAny_bind (wpAny_mono h (fun v s' z => wpAny_pure z) fun _ _ z => z)
  split
  · exact wpAny_bind ((PySem.W.Looks.of_pure (hb _)).here (wpAny_pure (by exact fin)))
  · exact wpAny_tryCatch (wpAny_bind ((PySem.W.Looks.of_pure (hb _)).here (wpAny_pure (by exact fin))))

/-- object.__ne__ over an own __eq__ that gives a truth -/
theorem objNe_own {prog : Program} {w : World} {A : Around} {E : Value → Shared → Prop} {K : PySem.W.Frag} {x : Addr} {b : Value} {ox : Obj} {od : Option Obj} {Q : Value → Shared → Prop} (hu : A.in1.units < cLine) (Xk : K.In s.heap) (I : PySem.W.InstAt s.heap x ox C od)
    (hm : PySem.W.mroIn K C (.type "object") = some true) (hr : PySem.W.findIn K (.ref C) "__eq__" = some (some (.ref f))) (hf : PySem.W.isFn K (.ref f) = true)
    (h : wpAny (model prog w) A.in1 (call (.ref f) [.ref x, b]) (fun v s' => ∃ k, v = .bool k ∧ Q (.bool (!k)) s') E s) : wpAny (model prog w) A (call (.builtin "object.__ne__") [.ref x, b]) Q E s := by
  refine wpAny_call (codeAny_call_builtin PySem.F.slot_object_ne.plain PySem.F.cmpEntry_ne (PySem.W.check_slot (i := "object.__ne__") (owner := "object") (n := "__ne__") PySem.F.cmpKind_ne PySem.F.cmpSplit_ne (I.type.andThen (PySem.W.looks_mroIn Xk hm)) (PySem.F.cmpArgs_ne _ _) ?_))
  unfold Builtin.«object.__ne__»
  refine wpAny_bind (m := slotArgs "__ne__" 1 _) (wpAny_pure ?_)
  refine wpAny_bind (m := cRoomFor _ _) (wpAny_cRoomFor hu ?_)
  refine wpAny_bind (m := callSpecialIfBound? (.ref x) (Str.ofString "__eq__") _) (PySem.W.ifBound_K Xk I hr hf (wpAny_mono h (fun r s' hq => ?_) fun _ _ y => y))
  obtain ⟨k, e, q⟩ := hq
  subst e
  refine wpAny_bind (wpAny_truthy_bool ?_)
  exact wpAny_pure q

/-- x != y by object.__ne__ -/
def rNeO (K : PySem.W.Frag) (C : Addr) (sp : Sp) (E : XK) : R2 := fun x y H Q => ∃ a dx fs tb, x = .ref a ∧ H a = some (.ins C dx fs) ∧ ClOf H y tb ∧ PySem.W.notFirst K C tb = true ∧ sp [x, y] H (fun v H' => ∃ k, v = .bl k ∧ Q (.bl (!k)) H') E
theorem cmp_ne_own {prog : Program} {w : World} {A : Around} {E : Value → Shared → Prop} {K : PySem.W.Frag} {x : Addr} {b tb : Value} {ox : Obj} {od : Option Obj} {Q : Value → Shared → Prop} (hu : A.units < cLine) (hu2 : A.in1.units < cLine) (Xk : K.In s.heap) (I : PySem.W.InstAt s.heap x ox C od)
    (hl : PySem.W.Looks (model prog w) s.heap (typeOf b) tb) (hn : PySem.W.notFirst K C tb = true)
    (hm : PySem.W.mroIn K C (.type "object") = some true) (hne : PySem.W.findIn K (.ref C) "__ne__" = some (some (.builtin "object.__ne__"))) (hr : PySem.W.findIn K (.ref C) "__eq__" = some (some (.ref f))) (hf : PySem.W.isFn K (.ref f) = true)
    (h : wpAny (model prog w) A.in1 (call (.ref f) [.ref x, b]) (fun v s' => ∃ k, v = .bool k ∧ Q (.bool (!k)) s') E s) : wpAny (model prog w) A (richCompare .NotEq (.ref x) b) Q E s := by
  have one : wpAny (model prog w) A (tryCompare (.ref x) (cmpInfo .NotEq).2.1 b) (fun r s' => ∃ v, r = some v ∧ Q v s') E s := by
    show wpAny (model prog w) A (tryCompare (.ref x) "__ne__" b) _ E s
    unfold tryCompare
    refine wpAny_bind (ifBound_B Xk I hne PySem.F.slot_object_ne.bind (objNe_own hu2 Xk I hm hr hf (wpAny_mono h (fun v s' hv => ?_) fun _ _ e => e)))
    obtain ⟨k, e, q⟩ := hv
    exact ⟨k, e, wpAny_pure ⟨_, rfl, q⟩⟩
  unfold richCompare
  simp only [oneThing_ref]
  refine wpAny_holding (wpAny_bind (wpAny_cRoomFor hu ?_))
  refine wpAny_bind (I.type.here (wpAny_bind (hl.here ?_)))
  have tail : ∀ t : Sem Value, wpAny (model prog w) A (tryCompare (.ref x) (cmpInfo .NotEq).2.1 b >>= fun r => match r with | some v => pure v | none => t) Q E s := fun t => by
    refine wpAny_bind (wpAny_mono one (fun r s' z => ?_) fun _ _ e => e)
    obtain ⟨v, rfl, hq⟩ := z
    exact wpAny_pure hq
  split
  · rename_i q
    have e : PySem.W.subIn K tb (.ref C) = some false := by
      rcases Bool.or_eq_true_iff.mp hn with e | e
      · rw [beq_iff_eq.mp e] at q
        simp at q
      · exact beq_iff_eq.mp e
    refine wpAny_bind ((PySem.W.looks_subIn Xk e).here ?_)
    simp only [Bool.false_eq_true, if_false]
    refine wpAny_bind (wpAny_mono one (fun r s' z => ?_) fun _ _ e => e)
    obtain ⟨v, rfl, hq⟩ := z
    exact wpAny_pure hq
  · refine wpAny_bind (wpAny_pure ?_)
    simp only [Bool.false_eq_true, if_false]
    refine wpAny_bind (wpAny_mono one (fun r s' z => ?_) fun _ _ e => e)
    obtain ⟨v, rfl, hq⟩ := z
    exact wpAny_pure hq
theorem op_neO (F : FnOk X.prog X.w X.K X.mg X.base CX n f fd ps sp) (hr : Room (n + 1) X.A) (hs : PySem.W.findIn X.K (.ref C) "__eq__" = some (some (.ref f))) (hf : PySem.W.isFn X.K (.ref f) = true)
    (hne : PySem.W.findIn X.K (.ref C) "__ne__" = some (some (.builtin "object.__ne__"))) (hm : PySem.W.mroIn X.K C (.type "object") = some true) (hb : Binds X.K fd ps [])
    (hx : Passes CX X E) : OpR X (compareOp .NotEq) (rNeO X.K C sp E) := by
  intro pins s σ H x y v u Q I rx ry h
  obtain ⟨a, dx, fs, tb, rfl, ea, hc, hn, q⟩ := h
  cases (show v = Value.ref a from rx)
  obtain ⟨mA, O, _⟩ := ins_get I.hok ea
  obtain ⟨od, J, _⟩ := O.look
  show wpAny (model X.prog X.w) X.A (richCompare .NotEq (.ref a) u) (EP X pins σ Q) X.xe s
  refine cmp_ne_own (tb := tb) hr.units0 hr.in1.units0 I.kIn J (hc.looks I ry) hn hm hne hs hf (thn (at_fn F hr.in1 I.env0.in1 hb hx I (.cons rx (.cons ry .nil)) q) fun w s' z => ?_)
  obtain ⟨z', H', I', rz, k, e, qz⟩ := z
  subst e
  cases (show w = Value.bool k from rz)
  exact ⟨k, rfl, .bl (!k), H', I', rfl, qz⟩

/-! ### str(x), repr(x), len(x) of an instance -/
def rStrO (C : Addr) (sp : Sp) (E : XK) : List V → Hp → VK → Prop := fun xs H Q => ∃ a dx fs, xs = [.ref a] ∧ H a = some (.ins C dx fs) ∧ sp [.ref a] H (fun v H' => ∃ z, v = .str z ∧ Q v H') E
theorem call_strO (F : FnOk X.prog X.w X.K X.mg X.base CX n f fd ps sp) (hr : Room (n + 2) X.A) (hs : PySem.W.findIn X.K (.ref C) "__str__" = some (some (.ref f))) (hf : PySem.W.isFn X.K (.ref f) = true) (hb : Binds X.K fd ps [])
    (hx : Passes CX X E) : CallR X (.type "str") (rStrO C sp E) := by
  intro pins s σ H xs us Q I r h
  obtain ⟨a, dx, fs, rfl, ea, q⟩ := h
  obtain ⟨u, rfl, ru⟩ := vals1 r
  cases (show u = Value.ref a from ru)
  obtain ⟨mA, O, _⟩ := ins_get I.hok ea
  obtain ⟨od, J, _⟩ := O.look
  have hr1 : Room (n + 1) X.A.in1 := hr.in1
  refine PySem.W.kso_call hr1.in1.units0 I.kIn J hs hf (thn (at_fn F hr1.in1 I.env0.in1.in1 hb hx I (vs := [.ref a]) (us := [.ref a]) (.cons rfl .nil) q) fun w s' z => ?_)
  obtain ⟨z', H', I', rz, y, e, qz⟩ := z
  subst e
  obtain ⟨t, e⟩ := (show ∃ t, w = Value.str y t from rz)
  cases e
  exact ⟨.str y, H', I', ⟨t, rfl⟩, qz⟩
theorem call_reprO (F : FnOk X.prog X.w X.K X.mg X.base CX n f fd ps sp) (hr : Room (n + 1) X.A) (hs : PySem.W.findIn X.K (.ref C) "__repr__" = some (some (.ref f))) (hf : PySem.W.isFn X.K (.ref f) = true) (hb : Binds X.K fd ps [])
    (hx : Passes CX X E) : CallR X (.builtin "repr") (rStrO C sp E) := by
  intro pins s σ H xs us Q I r h
  obtain ⟨a, dx, fs, rfl, ea, q⟩ := h
  obtain ⟨u, rfl, ru⟩ := vals1 r
  cases (show u = Value.ref a from ru)
  obtain ⟨mA, O, _⟩ := ins_get I.hok ea
  obtain ⟨od, J, _⟩ := O.look
  obtain ⟨m, hF⟩ := I.fr
  refine PySem.W.repr_K hr.in1.units0 hF I.ok.mod.kin J hs hf (thn (at_fn F hr.in1 I.env0.in1 hb hx I (vs := [.ref a]) (us := [.ref a]) (.cons rfl .nil) q) fun w s' z => ?_)
  obtain ⟨z', H', I', rz, y, e, qz⟩ := z
  subst e
  obtain ⟨t, e⟩ := (show ∃ t, w = Value.str y t from rz)
  cases e
  exact ⟨.str y, H', I', ⟨t, rfl⟩, qz⟩
def rLenO (C : Addr) (sp : Sp) (E : XK) : List V → Hp → VK → Prop := fun xs H Q => ∃ a dx fs, xs = [.ref a] ∧ H a = some (.ins C dx fs) ∧ sp [.ref a] H (fun v H' => ∃ i, v = .int i ∧ 0 ≤ i ∧ i < 2 ^ 63 ∧ Q v H') E
theorem call_lenO (F : FnOk X.prog X.w X.K X.mg X.base CX n f fd ps sp) (hr : Room (n + 1) X.A) (hs : PySem.W.findIn X.K (.ref C) "__len__" = some (some (.ref f))) (hf : PySem.W.isFn X.K (.ref f) = true) (hb : Binds X.K fd ps [])
    (hx : Passes CX X E) : CallR X (.builtin "len") (rLenO C sp E) := by
  intro pins s σ H xs us Q I r h
  obtain ⟨a, dx, fs, rfl, ea, q⟩ := h
  obtain ⟨u, rfl, ru⟩ := vals1 r
  cases (show u = Value.ref a from ru)
  obtain ⟨mA, O, _⟩ := ins_get I.hok ea
  obtain ⟨od, J, _⟩ := O.look
  obtain ⟨m, hF⟩ := I.fr
  refine PySem.W.len_K hF I.ok.mod.kin J hs hf (thn (at_fn F hr.in1 I.env0.in1 hb hx I (vs := [.ref a]) (us := [.ref a]) (.cons rfl .nil) q) fun w s' z => ?_)
  obtain ⟨z', H', I', rz, i, e, h0, h1, qz⟩ := z
  subst e
  obtain ⟨t, e⟩ := (show ∃ t, w = Value.int i t from rz)
  cases e
  exact ⟨⟨h0, h1⟩, .int i, H', I'.tok _, ⟨_, rfl⟩, qz⟩
end

/-! ### o.m(k = v, ..) -/
def tMethN (C : Addr) (m : Str) (n mm : Nat) (sp : Sp) (gV : List V → List V → List V) (E : XK) (ta : TE) (t tk : TA) : TE := fun σ H Q => ta σ H fun x H1 => ∃ a dx fs, x = .ref a ∧ H1 a = some (.ins C dx fs) ∧ fs.lookup m = none ∧
  t σ H1 fun vs H2 => tk σ H2 fun zs H3 => vs.length = n ∧ zs.length = mm ∧ sp (gV (x :: vs) zs) H3 Q E
section
variable {X : Cx} {CX : CXT} {k n : Nat} {f C : Addr} {fd : FuncData} {ps ks : List Str} {sp : Sp} {E : XK} {m : Str} {pos apos : Pos} {o : Expr} {kws : List Keyword} {ta : TE} {t tk : TA} {g : List Value → List Value → List Value} {gV : List V → List V → List V}
theorem pe_methN0 {pl : Sem Bool} (he : PE X o ta) (c : Cls X.K C) (hm : Meth X.K C m f) (F : FnOk X.prog X.w X.K X.mg X.base CX k f fd ps sp) (hr : Room k X.A) (hb : KBn X.K fd ps 1 ks g gV) (hx : Passes CX X E) (hkw : PK X kws tk)
    (hall : (backToKw pos (keywordEach kws X.env)).all (·.1.isSome) = true := by rfl) (hks : (backToKw pos (keywordEach kws X.env)).filterMap (·.1) = ks := by rfl)
    (hpl : ((backTo pos (starEach [] X.env)).any (·.1) || (backToKw pos (keywordEach kws X.env)).any (·.1.isNone)) = false := by rfl)
    (ht : eval (.Call (.Attribute o m apos) [] kws pos) X.env = (do
      let ov ← eval o X.env
      standAt apos.atName
      let (f, first) ← holding [ov] (getMethod ov m pl)
      callWith pos f first (backTo pos (starEach [] X.env)) (backToKw pos (keywordEach kws X.env))) := by rfl) :
    PE X (.Call (.Attribute o m apos) [] kws pos) (tMethN C m 0 ks.length sp gV E ta tNil tk) := by
  refine ⟨fun pins s σ H Q I h => ?_⟩
  refine PySem.W.methodCall_KW (pl := pl) (thn (he.run pins s σ H _ I h) fun u s1 ⟨x, H1, I1, rx, a, dx, fs, ex, ea, l, q⟩ => ?_) ht
  subst ex
  obtain rfl : u = Value.ref a := rx
  refine getmeth_ok I1 ea c hm l ?_
  refine PySem.W.callWith_KW0 (first := [.ref a]) (h₀ := X.base) I.ok.mod.kin hm.kp hall ?_ hpl
  refine thn (hkw.run pos pins s1 σ H1 _ I1 q) fun ws s2 ⟨zs, H2, I2, rz, l1, l2, q2⟩ => ⟨I2.kIn, ?_⟩
  rw [hks]
  exact run_fnN (n := 1) (us := [.ref a]) (vs := [.ref a]) F hr hb hx I2 (.cons rfl .nil) rz rfl l2 q2
end
end Yarn

set_option Elab.async false
set_option linter.all false
set_option maxRecDepth 100000
set_option maxHeartbeats 4000000
namespace Yarn
open PySem PySem.Spec PyProof.Rows L2

/-! ### a def that lets nothing out, whatever its defaults -/
theorem okD {P : Program} {w : World} {K : PySem.W.Frag} {mg : Str → Option Value} {base : Heap} {x qual : Str} {params : Arguments} {body : List Stmt} {scope : Scope} {dvs : List V} {kws : List (Str × V)} {f : Addr} {fd : FuncData}
    {N ps : List Str} {k : Nat} {sp : Sp} (F : FunD K x qual params body scope dvs kws f fd) (S : FnScope N ps scope) (len : ∀ vs H Q E, sp vs H Q E → vs.length = ps.length)
    (hbody : ∀ (cdv : Value) (A : Around) (outer : List Env) (s : Shared) (H : Hp) (vs : List V) (Q : VK) (E : XK), Room k (A.deeper (envOfC qual scope s.heap.objs.size f cdv)) → sp vs H Q E →
      ∃ t, PSs (cxOf CX0 P w K mg base N qual scope f cdv A outer s H E).nox body t ∧ t { nx := fun _ H' => Q .non H', rt := Q } (start N vs) H) : FnOk P w K mg base CX0 (k + 1) f fd ps sp :=
  F.ok S len fun cdv A outer s H vs Q E hr h => let ⟨t, h1, q⟩ := hbody cdv A outer s H vs Q E hr h; ⟨t, h1.nox, q⟩

/-! ### what stays but for dicts -/
def NotD : HO → Prop
  | .dK _ => False
  | _ => True
def Kp (H H' : Hp) : Prop := ∀ a o, NotD o → H a = some o → H' a = some o
theorem Kp.refl (H : Hp) : Kp H H := fun _ _ _ h => h
theorem Kp.trans {H H1 H2 : Hp} (a : Kp H H1) (b : Kp H1 H2) : Kp H H2 := fun c o n h => b c o n (a c o n h)
theorem same_kp {H H' : Hp} (s : Same H H') : Kp H H' := fun a o _ h => s a o h
theorem Kp.ins {H H' : Hp} {a C dx : Addr} {fs : List (Str × V)} (k : Kp H H') (h : H a = some (.ins C dx fs)) : H' a = some (.ins C dx fs) := k a _ trivial h
theorem Kp.tup {H H' : Hp} {a : Addr} {xs : List V} (k : Kp H H') (h : H a = some (.tup xs)) : H' a = some (.tup xs) := k a _ trivial h
theorem Kp.lst {H H' : Hp} {a : Addr} {xs : List V} (k : Kp H H') (h : H a = some (.lst xs)) : H' a = some (.lst xs) := k a _ trivial h
theorem Kp.seqL {K : PySem.W.Frag} {H H' : Hp} {a : Addr} {xs : List V} (k : Kp H H') (h : SqL K H a xs) : SqL K H' a xs := by
  rcases h with (h | ⟨o, h⟩) | h
  · exact .inl (.inl (k.lst h))
  · exact .inl (.inr ⟨o, k a _ trivial h⟩)
  · exact .inr h
theorem Kp.seqT {K : PySem.W.Frag} {H H' : Hp} {a : Addr} {xs : List V} (k : Kp H H') (h : SqT K H a xs) : SqT K H' a xs := by
  rcases h with (h | ⟨o, h⟩) | h
  · exact .inl (.inl (k.tup h))
  · exact .inl (.inr ⟨o, k a _ trivial h⟩)
  · exact .inr h

/-! ### the pen: a dict of a list of numbers, a place, what is left -/
def penD (c : Addr) (a l : Int) : List (Key × V) := [(.inr "cells", .ref c), (.inr "at", .int a), (.inr "left", .int l)]
theorem s_ca : ¬ (("cells" : Str) = "at") := by decide +kernel
theorem s_cl : ¬ (("cells" : Str) = "left") := by decide +kernel
theorem s_al : ¬ (("at" : Str) = "left") := by decide +kernel
theorem inr_ne {x y : Str} (h : ¬ x = y) : ¬ (Sum.inr x : Key) = Sum.inr y := fun z => h (Sum.inr.inj z)
theorem pen_cells (c : Addr) (a l : Int) : valV (penD c a l) (.inr "cells") = some (.ref c) := valV_pos rfl
theorem pen_at (c : Addr) (a l : Int) : valV (penD c a l) (.inr "at") = some (.int a) := (valV_neg (inr_ne s_ca)).trans (valV_pos rfl)
theorem pen_left (c : Addr) (a l : Int) : valV (penD c a l) (.inr "left") = some (.int l) := (valV_neg (inr_ne s_cl)).trans ((valV_neg (inr_ne s_al)).trans (valV_pos rfl))
theorem put_at (c : Addr) (a l x : Int) : putK (penD c a l) (.inr "at") (.int x) = penD c x l := by
  simp [putK, penD, s_ca, Ne.symm s_al]
theorem put_left (c : Addr) (a l x : Int) : putK (penD c a l) (.inr "left") (.int x) = penD c a x := by
  simp [putK, penD, s_cl, s_al]
theorem pen_merge (c : Addr) : mergeK [] (penD c 0 0) = penD c 0 0 := by
  simp [mergeK, putK, penD, s_ca, s_cl, s_al]
structure Pen (H : Hp) (p : Addr) (n : Int) : Prop where
  ex : ∃ (c : Addr) (ns : List Int) (a l : Int), H p = some (.dK (penD c a l)) ∧ H c = some (.lst (ns.map V.int)) ∧ ns.length ≤ 63 ∧ 0 ≤ a ∧ a ≤ n ∧ 0 ≤ l
theorem Pen.same {H H' : Hp} {p : Addr} {n : Int} (s : Same H H') (P : Pen H p n) : Pen H' p n := by
  obtain ⟨c, ns, a, l, h1, h2, r⟩ := P.ex
  exact ⟨c, ns, a, l, s _ _ h1, s _ _ h2, r⟩
theorem Pen.mono {H : Hp} {p : Addr} {n m : Int} (P : Pen H p n) (h : n ≤ m) : Pen H p m := by
  obtain ⟨c, ns, a, l, h1, h2, h3, h4, h5, h6⟩ := P.ex
  exact ⟨c, ns, a, l, h1, h2, h3, h4, by omega, h6⟩
theorem Pen.kp {H H' : Hp} {p : Addr} {n : Int} (P : Pen H p n) (b : But p H H') : Kp H H' := fun a o no h => b a o (fun e => by
  obtain ⟨c, ns, x, l, h1, _⟩ := P.ex
  subst e
  rw [h] at h1
  cases h1
  exact no) h
/-- a draw: some number below m, the pen one further -/
def spDraw : Sp := fun vs H Q _ => ∃ (p : Addr) (m n : Int), vs = [.ref p, .int m] ∧ Pen H p n ∧ n ≤ 2 ^ 60 ∧ 0 < m ∧ m ≤ 2 ^ 60 ∧
  ∀ (d : Int) (H' : Hp), 0 ≤ d → d < m → Pen H' p (n + 1) → But p H H' → Kp H H' → Q (.int d) H'
/-- a number: small, or of up to fifteen figures -/
def spNumber : Sp := fun vs H Q _ => ∃ (p : Addr) (n : Int), vs = [.ref p] ∧ Pen H p n ∧ n ≤ 2 ^ 59 ∧
  ∀ (d : Int) (H' : Hp), 0 ≤ d → d < 10 ^ 15 → Pen H' p (n + 4) → But p H H' → Kp H H' → Q (.int d) H'
/-- the pen is made -/
def spPen (K : PySem.W.Frag) : Sp := fun vs H Q _ => ∃ (a : Addr) (ns : List Int), vs = [.ref a] ∧ SqL K H a (ns.map V.int) ∧ ns.length ≤ 63 ∧
  ∀ (p : Addr) (H' : Hp), H p = none → Same H H' → Pen H' p 0 → Q (.ref p) H'
/-- a law's: a list of at most 63 ints is handed in, True comes out -/
def sp_law0 (K : PySem.W.Frag) : Sp := fun vs H Q _ => ∃ (a : Addr) (ns : List Int), vs = [.ref a] ∧ SqL K H a (ns.map V.int) ∧ ns.length ≤ 63 ∧ ∀ H', Q (.bl true) H'

/-! ### // by a positive divisor of any size in use -/
theorem div_ok {i j : Int} (h : 0 < j) (hb : j ≤ 2 ^ 200) : CDivW i j := wide_div (b := 201) h (by omega) (by decide) (by decide)
theorem op_fdivY {X : Cx} : OpR X (binaryOp .FloorDiv) (rI (fun _ j => 0 < j ∧ j ≤ 2 ^ 200) fun i j => .int (i / j)) := by
  intro pins s σ H x y v u Q I rx ry h
  obtain ⟨i, j, e1, e2, ⟨h1, h2⟩, q⟩ := h
  exact op_fdivW pins s σ H x y v u Q I rx ry ⟨i, j, e1, e2, div_ok h1 h2, q⟩
/-! ### small helps for readings -/
theorem list_nonempty_ne (xs : List Int) : (!PyData.eqv (.list (xs.map PyData.int)) (.list [])) = !xs.isEmpty := by
  cases xs with
  | nil => rfl
  | cons a r => rfl
theorem ints_can : ∀ ns : List Int, PyData.canLayAll0 (ns.map PyData.int) = true
  | [] => by simp [PyData.canLayAll0]
  | n :: ns => by simp [PyData.canLayAll0, PyData.canLay0, ints_can ns]
theorem ints_depth : ∀ ns : List Int, PyData.depthAll (ns.map PyData.int) = 0
  | [] => by simp [PyData.depthAll]
  | n :: ns => by simp [PyData.depthAll, PyData.depth, ints_depth ns]
theorem shaped_ints (ns : List Int) : SeqAt.shaped (.list (ns.map PyData.int)) = true := by
  simp [SeqAt.shaped, PyData.canLay0, ints_can, PyData.depth, ints_depth]
theorem shaped_nil : SeqAt.shaped (.list []) = true := shaped_ints []
theorem dp_ints {K : PySem.W.Frag} {H : Hp} : ∀ ns : List Int, DpAll K H (ns.map V.int) (ns.map PyData.int)
  | [] => .nil
  | n :: ns => .cons (.int n) (dp_ints ns)
theorem atI_int {xs : List V} {ns : List Int} (e : xs = ns.map V.int) {i : Int} (h0 : 0 ≤ i) (h1 : i < ns.length) : ∃ z, atI xs i = some (.int z) := by
  subst e
  obtain ⟨j, rfl⟩ : ∃ j : Nat, i = j := ⟨i.toNat, by omega⟩
  have hj : j < ns.length := by omega
  refine ⟨ns[j], atI_nat ?_⟩
  rw [List.getElem?_map, List.getElem?_eq_getElem hj] <;> rfl
end Yarn
namespace Yarn
open PySem PySem.Spec PyProof.Rows L2
/-! ### splitting on a test -/
theorem iteD {p A B : Prop} [Decidable p] (h1 : p → A) (h2 : ¬ p → B) : if decide p = true then A else B := by
  by_cases h : p
  · rw [if_pos (decide_eq_true h)]
    exact h1 h
  · rw [if_neg (by rw [decide_eq_false h]; exact Bool.false_ne_true)]
    exact h2 h
theorem iteND {p A B : Prop} [Decidable p] (h1 : ¬ p → A) (h2 : p → B) : if (!decide p) = true then A else B := by
  by_cases h : p
  · rw [decide_eq_true h]
    exact iteF (h2 h)
  · rw [decide_eq_false h]
    exact iteT (h1 h)
theorem iteEI {a b : Int} {A B : Prop} (h1 : a = b → A) (h2 : ¬ a = b → B) : if decide (V.int a = V.int b) = true then A else B :=
  iteD (fun h => h1 (V.int.inj h)) fun h => h2 fun e => h (congrArg V.int e)
theorem iteNI {a b : Int} {A B : Prop} (h1 : ¬ a = b → A) (h2 : a = b → B) : if (!decide (V.int a = V.int b)) = true then A else B :=
  iteND (fun h => h1 fun e => h (congrArg V.int e)) fun h => h2 (V.int.inj h)
theorem iteB {b : Bool} {A B : Prop} (h1 : b = true → A) (h2 : b = false → B) : if b = true then A else B := by
  cases b
  · exact iteF (h2 rfl)
  · exact iteT (h1 rfl)
theorem iteNB {b : Bool} {A B : Prop} (h1 : b = false → A) (h2 : b = true → B) : if (!b) = true then A else B := by
  cases b
  · exact iteT (h1 rfl)
  · exact iteF (h2 rfl)
theorem iteNe {ns : List Int} {A B : Prop} (h1 : ns ≠ [] → A) (h2 : ns = [] → B) : if (!PyData.eqv (.list (ns.map PyData.int)) (.list [])) = true then A else B := by
  rw [list_nonempty_ne]
  cases ns with
  | nil => exact iteF (h2 rfl)
  | cons a r => exact iteT (h1 (by simp))
theorem absI (i : Int) : 0 ≤ (if i < 0 then -i else i) := by split <;> omega
theorem cut_ints (ns : List Int) (lo hi : Option Int) : ∃ ms : List Int, cutV (ns.map V.int) lo hi = ms.map V.int ∧ ms.length ≤ ns.length := by
  refine ⟨(ns.drop (HT.sIx (ns.map V.int).length 0 lo)).take (HT.sIx (ns.map V.int).length (ns.map V.int).length hi - HT.sIx (ns.map V.int).length 0 lo), ?_, ?_⟩
  · unfold cutV
    rw [List.map_take, List.map_drop]
  · rw [List.length_take, List.length_drop]
    omega
theorem get_int {ns : List Int} {i : Nat} {x : V} (h : (ns.map V.int)[i]? = some x) : ∃ n, ns[i]? = some n ∧ x = .int n := by
  rw [List.getElem?_map] at h
  cases e : ns[i]? with
  | none => rw [e] at h; cases h
  | some n => rw [e] at h; exact ⟨n, rfl, (Option.some.inj h).symm⟩
theorem take_more {α : Type} : ∀ {l : List α} {i : Nat} {x : α}, l[i]? = some x → l.take (i + 1) = l.take i ++ [x]
  | [], i, x, h => by simp at h
  | a :: l, 0, x, h => by
    have e : a = x := Option.some.inj h
    subst e
    rfl
  | a :: l, i + 1, x, h => by
    have ih := take_more (l := l) (i := i) (x := x) h
    show a :: l.take (i + 1) = a :: l.take i ++ [x]
    rw [ih]
    rfl
end Yarn
namespace Yarn
open PySem PySem.Spec PyProof.Rows L2
theorem atI_all {xs : List V} {P : V → Prop} {i : Int} (h : ∀ x ∈ xs, P x) (h0 : 0 ≤ i) (h1 : i < xs.length) : ∃ v, atI xs i = some v ∧ P v := by
  obtain ⟨j, rfl⟩ : ∃ j : Nat, i = j := ⟨i.toNat, by omega⟩
  have hj : j < xs.length := by omega
  exact ⟨xs[j], atI_nat (List.getElem?_eq_getElem hj), h _ (List.getElem_mem hj)⟩
end Yarn
namespace Yarn
open PySem PySem.Spec PyProof.Rows L2
theorem iteSp {a b c d : Int} {A B : Prop} (h1 : a = b) (h2 : c = d) (h : B) : if (!(decide (a = b) && decide (c = d))) = true then A else B := by
  rw [decide_eq_true h1, decide_eq_true h2]
  exact iteF h
theorem bothT {a b c d : Int} (h1 : a = b) (h2 : c = d) : (decide (a = b) && decide (c = d)) = true := by rw [decide_eq_true h1, decide_eq_true h2] <;> rfl
end Yarn
namespace Yarn
open PySem PySem.Spec PyProof.Rows L2
theorem kit_own {K : PySem.W.Frag} {t : String} {C : Addr} {b : Bool} (h1 : PySem.W.isClsIn K C = true) (h2 : PySem.W.typeIn K (.ref C) = some (.type "type")) (h3 : PySem.W.subIn K (.type t) (.ref C) = some b) :
    PySem.W.kitOne K (.type t) (.ref C) = some b := by
  have hne : (Value.type t == Value.ref C) = false := Bool.eq_false_iff.mpr fun q => by cases beq_iff_eq.mp q
  unfold PySem.W.kitOne
  rw [hne]
  have h1' : (PySem.W.clsIn K C).isSome = true := h1
  simp [PySem.W.kitCls, h1', h2, h3]
end Yarn

set_option Elab.async false
set_option linter.all false
set_option maxRecDepth 100000
set_option maxHeartbeats 4000000
namespace Yarn
open PySem PySem.SeqAt
open AutoSeq1 (wpAny_loadPart')
open MeetsSeq MeetsSeq2 MeetsSeq3 SeqRoads2

section
variable {prog : Program} {w : World} {A : Around} {R : Result → Shared → Prop}
/-- at each turn the list is read anew: N items, the i-th compared with x gives e i -/
def CntI (prog : Program) (w : World) (A : Around) (E : Value → Shared → Prop) (l : Addr) (x : Value) (N : Nat) (e : Nat → Bool) (I : Shared → Prop) : Prop :=
  ∀ s, I s → ∃ (items : Array Value) (n : Nat), s.heap.get? l = some { cls := .type "list", data := .seq items n } ∧ items.size = N ∧
    ∀ (i : Nat) (h1 : i < items.size), wpAny (model prog w) A.in1 (eqBool items[i] x) (fun r s' => r = e i ∧ I s') E s
/-- how many of e i .. e (N - 1) hold -/
def cnt (e : Nat → Bool) (i : Nat) : Nat → Nat
  | 0 => 0
  | k + 1 => (if e i then 1 else 0) + cnt e (i + 1) k
theorem count_loopG (l : Addr) (x : Value) (N : Nat) (e : Nat → Bool) (I : Shared → Prop) (hl : CntI prog w A (fun er s' => R (.error er) s') l x N e I) (total : Int)
    (fin : ∀ s, I s → R (.ok (.ret (.int total s.toks))) { s with toks := s.toks + 1 }) (k : Nat) :
    ∀ (i : Nat) (found : Int), N - i = k → i ≤ N → found + (cnt e i k : Nat) = total → ∀ s, I s →
      wpAny (model prog w) A.in1 (Builtin.«list.count.loop» ⟨[.ref l, x, rawInt i, rawInt found], []⟩) (GQ.FinOf prog w A R) (fun er s' => R (.error er) s') s := by
  induction k with
  | zero =>
    intro i found hk hi ht s h
    obtain ⟨items, n, hl1, hs1, _⟩ := hl _ h
    have hR := fin s h
    have ht' : found = total := by simp [cnt] at ht; exact ht
    subst ht'
    obtain ⟨hp, g, d, tk, os⟩ := s
    wp_walk using wpAny_loadPart' hl1
    have hi1 : items[((i : Nat) : Int).toNat]? = none := by simp; omega
    rw [hi1]
    wp_walk
    exact hR
  | succ k ih =>
    intro i found hk hi ht s h
    obtain ⟨items, n, hl1, hs1, turn⟩ := hl _ h
    have hlt : i < items.size := by omega
    have hturn := turn i hlt
    obtain ⟨hp, g, d, tk, os⟩ := s
    wp_walk using wpAny_loadPart' hl1
    have hi1 : items[((i : Nat) : Int).toNat]? = some items[i] := by simp [hlt]
    have hc : ((i : Int) + 1) = ((i + 1 : Nat) : Int) := by omega
    rw [hi1]
    refine wpAny_bind (wpAny_mono hturn (fun r s2 h2 => ?_) fun _ _ z => z)
    obtain ⟨hr, h2⟩ := h2
    subst hr
    have hrec := ih (i + 1) (found + (if e i then 1 else 0)) (by omega) (by omega) (by rw [← ht]; show found + (if e i = true then 1 else 0) + ((cnt e (i + 1) k : Nat) : Int) = found + (((if e i = true then 1 else 0) + cnt e (i + 1) k : Nat) : Int); split <;> omega) s2 h2
    obtain ⟨hp2, g2, d2, tk2, os2⟩ := s2
    wp_walk
    rw [hc]
    refine ⟨plainId_quiet plain_count_loop _, codeAny_builtin entry_count_loop ?_⟩
    rw [Around.under_plainId plain_count_loop _]
    cases hb : e i with
    | false =>
      rw [hb] at hrec
      simp only [Bool.false_eq_true, if_false, Int.add_zero] at hrec ⊢
      exact hrec
    | true =>
      rw [hb] at hrec
      simp only [if_true] at hrec ⊢
      exact hrec
theorem list_countG (l : Addr) (x : Value) (N : Nat) (e : Nat → Bool) (I : Shared → Prop) (hl : CntI prog w A (fun er s' => R (.error er) s') l x N e I)
    (fin : ∀ s, I s → R (.ok (.ret (.int (cnt e 0 N : Nat) s.toks))) { s with toks := s.toks + 1 }) {s : Shared} (h : I s) :
    wpAny (model prog w) A.in1 (Builtin.«list.count» ⟨[.ref l, x], []⟩) (GQ.FinOf prog w A R) (fun er s' => R (.error er) s') s := by
  obtain ⟨items, n, hl1, hs1, _⟩ := hl _ h
  have hrec := count_loopG (A := A) (R := R) l x N e I hl _ fin N 0 0 (by omega) (Nat.zero_le _) (by simp) s h
  obtain ⟨hp, g, d, tk, os⟩ := s
  wp_walk using wpAny_loadPart' hl1
  refine ⟨plainId_quiet plain_count_loop _, codeAny_builtin entry_count_loop ?_⟩
  rw [Around.under_plainId plain_count_loop _]
  exact hrec
/-- x in a list -/
def anyB (e : Nat → Bool) (i : Nat) : Nat → Bool
  | 0 => false
  | k + 1 => e i || anyB e (i + 1) k
theorem contains_loopG (l : Addr) (x : Value) (N : Nat) (e : Nat → Bool) (I : Shared → Prop) (hl : CntI prog w A (fun er s' => R (.error er) s') l x N e I) (b : Bool)
    (fin : ∀ s, I s → R (.ok (.ret (.bool b))) s) (k : Nat) :
    ∀ (i : Nat), N - i = k → i ≤ N → anyB e i k = b → ∀ s, I s →
      wpAny (model prog w) A.in1 (Builtin.«list.__contains__.loop» ⟨[.ref l, x, rawInt i], []⟩) (GQ.FinOf prog w A R) (fun er s' => R (.error er) s') s := by
  induction k with
  | zero =>
    intro i hk hi ht s h
    obtain ⟨items, n, hl1, hs1, _⟩ := hl _ h
    have hR := fin s h
    have ht' : false = b := ht
    subst ht'
    obtain ⟨hp, g, d, tk, os⟩ := s
    wp_walk using wpAny_loadPart' hl1
    have hi1 : items[((i : Nat) : Int).toNat]? = none := by simp; omega
    rw [hi1]
    wp_walk
    exact hR
  | succ k ih =>
    intro i hk hi ht s h
    obtain ⟨items, n, hl1, hs1, turn⟩ := hl _ h
    have hlt : i < items.size := by omega
    have hturn := turn i hlt
    obtain ⟨hp, g, d, tk, os⟩ := s
    wp_walk using wpAny_loadPart' hl1
    have hi1 : items[((i : Nat) : Int).toNat]? = some items[i] := by simp [hlt]
    have hc : ((i : Int) + 1) = ((i + 1 : Nat) : Int) := by omega
    rw [hi1]
    refine wpAny_bind (wpAny_mono hturn (fun r s2 h2 => ?_) fun _ _ z => z)
    obtain ⟨hr, h2⟩ := h2
    subst hr
    have ht' : (e i || anyB e (i + 1) k) = b := ht
    cases hb : e i with
    | true =>
      rw [hb, Bool.true_or] at ht'
      subst ht'
      have hR := fin s2 h2
      obtain ⟨hp2, g2, d2, tk2, os2⟩ := s2
      wp_walk
      exact hR
    | false =>
      rw [hb, Bool.false_or] at ht'
      have hrec := ih (i + 1) (by omega) (by omega) ht' s2 h2
      obtain ⟨hp2, g2, d2, tk2, os2⟩ := s2
      wp_walk
      rw [hc]
      refine ⟨plainId_quiet plain_contains_loop _, codeAny_builtin entry_contains_loop ?_⟩
      rw [Around.under_plainId plain_contains_loop _]
      exact hrec
theorem list_containsG (l : Addr) (x : Value) (N : Nat) (e : Nat → Bool) (I : Shared → Prop) (hl : CntI prog w A (fun er s' => R (.error er) s') l x N e I)
    (fin : ∀ s, I s → R (.ok (.ret (.bool (anyB e 0 N)))) s) {s : Shared} (h : I s) :
    wpAny (model prog w) A.in1 (Builtin.«list.__contains__» ⟨[.ref l, x], []⟩) (GQ.FinOf prog w A R) (fun er s' => R (.error er) s') s := by
  obtain ⟨items, n, hl1, hs1, _⟩ := hl _ h
  have hrec := contains_loopG (A := A) (R := R) l x N e I hl _ fin N 0 (by omega) (Nat.zero_le _) rfl s h
  obtain ⟨hp, g, d, tk, os⟩ := s
  wp_walk using wpAny_loadPart' hl1
  refine ⟨plainId_quiet plain_contains_loop _, codeAny_builtin entry_contains_loop ?_⟩
  rw [Around.under_plainId plain_contains_loop _]
  exact hrec
end
end Yarn

namespace Yarn
open PySem PySem.Spec PyProof.Rows L2
/-- == within a builtin gives b for what D says, and changes nothing -/
def EqB (X : Cx) (n : Nat) (D : V → V → Bool → Hp → Prop) : Prop :=
  ∀ (A : Around) (pins : List (Addr × Obj)) (s : Shared) (σ : L2.St) (H : Hp) (x y : V) (b : Bool) (u v : Value), Room n A → A.frames = X.A.frames → Inv X pins σ H s → RelV x u → RelV y v → D x y b H →
    wpAny (model X.prog X.w) A (eqBool u v) (fun r s' => r = b ∧ Inv X pins σ H s') X.xe s
/-- two instances of classes with an own ==, as the def at the left says -/
def DOwn (K : PySem.W.Frag) (C : Addr) (sp : Sp) (E : XK) : V → V → Bool → Hp → Prop := fun x y b H => ∃ a c dx fs tb, x = .ref a ∧ y = .ref c ∧ H a = some (.ins C dx fs) ∧ ClOf H (.ref c) tb ∧ PySem.W.notFirst K C tb = true ∧ (a = c → b = true) ∧
  sp [.ref a, .ref c] H (fun v H' => v = .bl b ∧ H' = H) E
section
variable {X : Cx} {CX : CXT} {C f : Addr} {fd : FuncData} {ps : List Str} {sp : Sp} {E : XK} {n : Nat} {D : V → V → Bool → Hp → Prop}
theorem eqB_own (F : FnOk X.prog X.w X.K X.mg X.base CX n f fd ps sp) (hs : PySem.W.findIn X.K (.ref C) "__eq__" = some (some (.ref f))) (hf : PySem.W.isFn X.K (.ref f) = true) (hb : Binds X.K fd ps [])
    (hx : Passes CX X E) : EqB X n (DOwn X.K C sp E) := by
  intro A pins s σ H x y b u v hr hfr I rx ry d
  obtain ⟨a, c, dx, fs, tb, rfl, rfl, ea, hc, hn, hsame, q⟩ := d
  cases (show u = Value.ref a from rx)
  cases (show v = Value.ref c from ry)
  by_cases hac : a = c
  · subst hac
    have hb1 := hsame rfl
    subst hb1
    exact SeqAt.EqAt.same (A := A) (s := s) (.ref a) X.prog X.w X.xe _ ⟨rfl, I⟩
  · have e0 : Env0 X.prog X.w X.K X.mg X.base A X.stack s H := by
      have e := I.env0
      exact ⟨by rw [hfr]; exact e.frames, e.mod, e.bs, e.bsz, e.funs, e.frf, e.hok, e.bare⟩
    obtain ⟨mA, O, _⟩ := ins_get I.hok ea
    obtain ⟨od, J, _⟩ := O.look
    obtain ⟨m, hF⟩ := I.fr
    refine GQ.eqBool_refG hac (PySem.W.cmp_K (op := .Eq) (tb := tb) hr.units0 hF I.ok.mod.kin J (hc.looks I (show RelV (.ref c) (.ref c) from rfl)) hn hs hf (thn (at_fn F hr e0 hb hx I (vs := [.ref a, .ref c]) (us := [.ref a, .ref c]) (.cons rfl (.cons rfl .nil)) q) fun z s' h => ?_))
    obtain ⟨z', H', I', rz, ez, eH⟩ := h
    subst ez
    subst eH
    cases (show z = Value.bool b from rz)
    exact ⟨b, rfl, rfl, I'⟩
theorem cnt_of (hD : EqB X n D) {A : Around} (hr : Room (n + 1) A) (hfr : A.frames = X.A.frames) {pins : List (Addr × Obj)} {σ : L2.St} {H : Hp} {p : Addr} {ys : List V} {y : V} {u : Value} {e : Nat → Bool} (hp : H p = some (.lst ys)) (ry : RelV y u)
    (he : ∀ i v, ys[i]? = some v → D v y (e i) H) : CntI X.prog X.w A X.xe p u ys.length e (fun s => Inv X pins σ H s) := by
  intro s I
  obtain ⟨z, its, k, r, e1⟩ := I.hok p _ hp
  refine ⟨its.toArray, k, e1, by rw [List.size_toArray, ← r.length], fun i h1 => ?_⟩
  have g1 : its[i]? = some its.toArray[i] := by
    have h1' : i < its.length := by simpa using h1
    rw [List.getElem?_eq_getElem h1'] <;> simp
  have k1 : i < ys.length := by rw [r.length]; simpa using h1
  obtain ⟨u1, hu, ru⟩ := r.get (List.getElem?_eq_getElem k1)
  rw [g1] at hu
  rw [Option.some.inj hu]
  exact hD A.in1 pins s σ H _ y (e i) _ u hr.in1 hfr I ru ry (he i _ (List.getElem?_eq_getElem k1))
/-- xs.count(y) by own == -/
def rCntO (D : V → V → Bool → Hp → Prop) : V → List V → Hp → VK → Prop := fun x xs H Q => ∃ (p : Addr) (ys : List V) (y : V) (e : Nat → Bool), x = .ref p ∧ xs = [y] ∧ H p = some (.lst ys) ∧ (∀ i v, ys[i]? = some v → D v y (e i) H) ∧ Q (.int (cnt e 0 ys.length : Nat)) H
theorem mt_countO (hD : EqB X n D) (hr : Room (n + 1) X.A) : MtR X "list.count" (rCntO D) := by
  intro pins s σ H x xs v us Q I rx rxs h
  obtain ⟨p, ys, y, e, rfl, rfl, hp, he, q⟩ := h
  cases (show v = Value.ref p from rx)
  obtain ⟨u, rfl, ru⟩ := vals1 rxs
  obtain ⟨z, its, k, r, e1⟩ := I.hok p _ hp
  refine GQ.call_here PySem.F.slot_list_count ⟨_, e1, rfl⟩ PySem.F.entry_list_count (PySem.F.args_list_count_2 _ _) ?_
  refine list_countG (R := wants (EP X pins σ Q) X.xe) p u ys.length e (fun s => Inv X pins σ H s) (cnt_of hD hr rfl hp ru he) (fun s' I' => ?_) I
  exact ⟨.int (cnt e 0 ys.length : Nat), H, I'.tok _, ⟨_, rfl⟩, q⟩
/-- x in xs by own == -/
def rInO (D : V → V → Bool → Hp → Prop) : R2 := fun x y H Q => ∃ (p : Addr) (ys : List V) (e : Nat → Bool), y = .ref p ∧ H p = some (.lst ys) ∧ (∀ i v, ys[i]? = some v → D v x (e i) H) ∧ Q (.bl (anyB e 0 ys.length)) H
theorem op_inO (hD : EqB X n D) (hr : Room (n + 1) X.A) : OpR X (compareOp .In) (rInO D) := by
  intro pins s σ H x y v u Q I rx ry h
  obtain ⟨p, ys, e, rfl, hp, he, q⟩ := h
  cases (show u = Value.ref p from ry)
  obtain ⟨z, its, k, r, e1⟩ := I.hok p _ hp
  show wpAny _ X.A (do return .bool (← contains (.ref p) v)) (EP X pins σ Q) X.xe s
  refine wpAny_bind (PySem.wpAny_contains_slot (T := "list") ⟨_, e1, rfl⟩ PySem.F.slot_list_contains (GQ.call_here PySem.F.slot_list_contains ⟨_, e1, rfl⟩ PySem.F.entry_list_contains (PySem.F.args_list_contains_2 _ _) ?_))
  refine list_containsG (R := wants _ X.xe) p v ys.length e (fun s => Inv X pins σ H s) (cnt_of hD hr rfl hp rx he) (fun s' I' => ?_) I
  exact wpAny_truthy_bool (wpAny_pure ⟨.bl (anyB e 0 ys.length), H, I', rfl, q⟩)
end
end Yarn

set_option Elab.async false
set_option linter.all false
set_option maxRecDepth 100000
set_option maxHeartbeats 4000000
namespace Yarn
open PySem PySem.Spec PyProof.Rows L2
section
variable {X : Cx} {CX : CXT} {C f : Addr} {fd : FuncData} {ps : List Str} {sp : Sp} {E : XK} {n : Nat}
theorem range_size (i j : Int) : Builtin.Range.rangeSize i j 1 = ((j - i).toNat : Nat) := by
  unfold Builtin.Range.rangeSize
  simp
  split <;> omega
/-- len(range(i, j)) -/
theorem call_lenR : CallR X (.builtin "len") (fun xs H Q => ∃ (a : Addr) (lo hi : Int), xs = [.ref a] ∧ H a = some (.rng lo hi) ∧ hi - lo < 2 ^ 63 ∧ Q (.int ((hi - lo).toNat : Nat)) H) := by
  intro pins s σ H vs us Q I r h
  obtain ⟨a, lo, hi, rfl, ea, hz, q⟩ := h
  obtain ⟨u, rfl, ru⟩ := vals1 r
  cases (show u = Value.ref a from ru)
  obtain ⟨t, t2, t3, e⟩ := (show ObjOk X.prog X.w H s.heap a (.rng lo hi) from I.hok a _ ea)
  exact call_len_range (n := (hi - lo).toNat) e (range_size lo hi) (by omega) ⟨.int ((hi - lo).toNat : Nat), H, I.tok _, ⟨_, rfl⟩, q⟩

/-! ### bool(x) by an own __len__ -/
open Builtin in
theorem len_body {prog : Program} {w : World} {A : Around} {E : Value → Shared → Prop} {Q : Value → Shared → Prop} {s : Shared} {K : PySem.W.Frag} {x : Addr} {ox : Obj} {od : Option Obj} (Xk : K.In s.heap) (I : PySem.W.InstAt s.heap x ox C od)
    (hs : PySem.W.findIn K (.ref C) "__len__" = some (some (.ref f))) (hf : PySem.W.isFn K (.ref f) = true)
    (h : wpAny (model prog w) A (call (.ref f) [.ref x]) (fun v s' => ∃ i t, v = .int i t ∧ (0 ≤ i ∧ i < 2 ^ 63) ∧ Q (.int i s'.toks) { s' with toks := s'.toks + 1 }) E s) :
    wpAny (model prog w) A (Builtin.«len» ⟨[.ref x], []⟩) (fun fin s' => ∃ v, fin = .done (.ret v) ∧ Q v s') E s := by
  unfold Builtin.«len»
  refine wpAny_bind (m := oneArg "len" _) (wpAny_pure ?_)
  refine wpAny_bind (m := callSpecial? (.ref x) (Str.ofString "__len__")) (PySem.W.special_fn Xk I hs (beq_iff_eq.mp hf) (wpAny_mono h (fun r s' hr => ?_) fun _ _ y => y))
  obtain ⟨i, t, rfl, ⟨h0, h1⟩, hq⟩ := hr
  refine wpAny_bind (wpAny_holding (wpAny_pure ?_))
  refine wpAny_bind (wpAny_letGo ?_)
  show wpAny _ _ (if i < 0 then _ else _) _ _ _
  rw [if_neg (show ¬ i < 0 by omega)]
  show wpAny _ _ (if i ≥ 2 ^ 63 then _ else _) _ _ _
  rw [if_neg (show ¬ i ≥ 2 ^ 63 by omega)]
  exact wpAny_bind (wpAny_mkInt (wpAny_pure ⟨_, rfl, hq⟩))
theorem truthy_len {prog : Program} {w : World} {A : Around} {E : Value → Shared → Prop} {s : Shared} {K : PySem.W.Frag} {x : Addr} {ox : Obj} {od : Option Obj} {Q : Bool → Shared → Prop} (Xk : K.In s.heap) (I : PySem.W.InstAt s.heap x ox C od)
    (hb : PySem.W.findIn K (.ref C) "__bool__" = some none) (hs : PySem.W.findIn K (.ref C) "__len__" = some (some (.ref f))) (hf : PySem.W.isFn K (.ref f) = true)
    (h : wpAny (model prog w) A.in1 (call (.ref f) [.ref x]) (fun v s' => ∃ i t, v = .int i t ∧ (0 ≤ i ∧ i < 2 ^ 63) ∧ Q (i != 0) { s' with toks := s'.toks + 1 }) E s) : wpAny (model prog w) A (truthy (.ref x)) Q E s := by
  unfold truthy
  refine wpAny_bind (m := callSpecial? (.ref x) (Str.ofString "__bool__")) (wpAny_bind (wpAny_bind (I.type.here ((PySem.W.looks_findIn Xk hb).here (wpAny_pure ?_)))))
  refine wpAny_bind (wpAny_bind (I.type.here ((PySem.W.looks_findIn Xk hs).here ?_)))
  refine wpAny_bind (wpAny_runValue (codeAny_builtin entry_len ?_))
  rw [Around.under_plainId plain_len _]
  refine wpAny_mono (len_body (Q := fun v s' => ∃ i t, v = .int i t ∧ Q (i != 0) s') Xk I hs hf (wpAny_mono h (fun v s' hv => ?_) fun _ _ y => y)) (fun fin s' hf => ?_) fun _ _ y => y
  · obtain ⟨i, t, rfl, hi, hq⟩ := hv
    exact ⟨i, t, rfl, hi, i, _, rfl, hq⟩
  · obtain ⟨v, rfl, i, t, rfl, hq⟩ := hf
    exact wpAny_pure hq
def rBoolO (C : Addr) (sp : Sp) (E : XK) : List V → Hp → VK → Prop := fun xs H Q => ∃ a dx fs, xs = [.ref a] ∧ H a = some (.ins C dx fs) ∧ sp [.ref a] H (fun v H' => ∃ i, v = .int i ∧ 0 ≤ i ∧ i < 2 ^ 63 ∧ Q (.bl (i != 0)) H') E
theorem call_boolO (F : FnOk X.prog X.w X.K X.mg X.base CX n f fd ps sp) (hr : Room (n + 3) X.A) (hs : PySem.W.findIn X.K (.ref C) "__len__" = some (some (.ref f))) (hf : PySem.W.isFn X.K (.ref f) = true)
    (hbo : PySem.W.findIn X.K (.ref C) "__bool__" = some none) (hb : Binds X.K fd ps []) (hx : Passes CX X E) : CallR X (.type "bool") (rBoolO C sp E) := by
  intro pins s σ H vs us Q I r h
  obtain ⟨a, dx, fs, rfl, ea, q⟩ := h
  obtain ⟨u, rfl, ru⟩ := vals1 r
  cases (show u = Value.ref a from ru)
  obtain ⟨mA, O, _⟩ := ins_get I.hok ea
  obtain ⟨od, J, _⟩ := O.look
  have hr2 : Room (n + 2) X.A.in1 := hr.in1
  have hr1 : Room (n + 1) X.A.in1.in1 := hr2.in1
  have hr0 : Room n X.A.in1.in1.in1 := hr1.in1
  refine callType_codes (T := "bool") (Bi := Builtin.«object.__init__») (Q₁ := fun r s₁ => ∃ b, r = .bool b ∧ EP X pins σ Q r s₁) PySem.F.called_bool (PySem.F.typeCall_bool_1 _) PySem.F.entry_object_init ?_ ?_
  · refine codeAny_of_tree ?_
    show wpAny _ X.A.in1.in1 (do checkBuiltinCall "bool.__new__" ⟨[.type "bool", .ref a], []⟩; again (.builtin "bool.__new__" ⟨[.type "bool", .ref a], []⟩)) _ _ s
    refine wpAny_bind (wpAny_of_eq (PySem.F.newCall_bool_1 _) (wpAny_pure ⟨plainId_quiet (by decide +kernel) _, codeAny_builtin PySem.F.entry_bool_new ?_⟩))
    rw [Around.under_plainId (by decide +kernel) _]
    have key : wpAny (model X.prog X.w) X.A.in1.in1 (truthy (.ref a)) (fun b s1 => EP X pins σ Q (.bool b) s1) X.xe s := by
      refine truthy_len I.kIn J hbo hs hf (thn (at_fn F hr0 I.env0.in1.in1.in1 hb hx I (vs := [.ref a]) (us := [.ref a]) (.cons rfl .nil) q) fun w s' z => ?_)
      obtain ⟨z', H', I', rz, i, e, h0, h1, qz⟩ := z
      subst e
      obtain ⟨t, e⟩ := (show ∃ t, w = Value.int i t from rz)
      cases e
      exact ⟨i, t, rfl, ⟨h0, h1⟩, .bl (i != 0), H', I'.tok _, rfl, qz⟩
    have f1 := PySem.F.conv_sub_bool
    obtain ⟨hp, g, d, tk, os⟩ := s
    unfold Builtin.«bool.__new__»
    repeat (any_goals (first | assumption | with_reducible exact wpAny_bind (m := truthy (.ref a)) (wpAny_mono key (fun b s1 z => wpAny_pure ⟨b, rfl, z⟩) fun _ _ y => y) | wp_step))
  · rintro obj s₁ ⟨b, rfl, hq⟩
    exact ⟨PySem.typeIs_bool _ _, PySem.F.args_object_init_2 _ _, object_init_meets PySem.F.called_bool.init.lookup PySem.F.called_bool.made (by decide) X.prog X.w X.A.in1 _ s₁ ⟨PySem.typeIs_bool _ _, rfl, hq⟩⟩
end
end Yarn
namespace Yarn
open PySem PySem.Spec PyProof.Rows L2
section
variable {X : Cx}
theorem cr_range2Y : CallR X (.type "range") (fun vs H Q => ∃ i j, vs = [V.int i, V.int j] ∧ ∀ p H2, H p = none → Same H H2 → H2 p = some (.rng i j) → Q (.ref p) H2) := fun pins s σ H vs us Q I r ⟨i, j, e, q⟩ =>
  cr_range2 pins s σ H vs us Q I r ⟨i, j, e, fun p hp => q p _ hp (same_upd hp) upd_same⟩
end
/-! ### numbers as texts -/
theorem log_small {i : Int} (h0 : 0 ≤ i) (h1 : i < 10 ^ 60) : i.natAbs.log2 < 1920 := by
  have h : i.natAbs < 2 ^ 1920 := by
    have e : (10 : Nat) ^ 60 < 2 ^ 1920 := by decide
    omega
  exact PySem.Flt.log2_lt_of (by decide) h
theorem num_len {i : Int} (h0 : 0 ≤ i) (h1 : i < 10 ^ 60) : (Str.ofString (toString i)).length ≤ 60 := toString_length_le h0 (by decide) h1
theorem line_big {n : Nat} (h : n ≤ 1000000) : n ≤ sizeLine := Nat.le_trans h (by decide)
end Yarn
namespace Yarn
open PySem PySem.Spec PyProof.Rows L2
theorem eqv_pair (a b c d : Int) : PyData.eqv (.tuple [.int a, .int b]) (.tuple [.int c, .int d]) = (decide (a = c) && decide (b = d)) := by
  have e : ∀ x y : Int, (x == y) = decide (x = y) := fun x y => by by_cases h : x = y <;> simp [h]
  simp [PyData.eqv, PyData.eqvAll]
  rw [e, e]
theorem shaped_pair (a b : Int) : SeqAt.shaped (.tuple [.int a, .int b]) = true := by
  simp [SeqAt.shaped, PyData.canLay0, PyData.canLayAll0, PyData.depth, PyData.depthAll]
theorem dp_pair {K : PySem.W.Frag} {H : Hp} (a b : Int) : DpAll K H [.int a, .int b] [.int a, .int b] := .cons (.int a) (.cons (.int b) .nil)
theorem iteNP {a b c d : Int} {A B : Prop} (h1 : a = c) (h2 : b = d) (h : B) : if (!PyData.eqv (.tuple [.int a, .int b]) (.tuple [.int c, .int d])) = true then A else B := by
  rw [eqv_pair, decide_eq_true h1, decide_eq_true h2]
  exact iteF h
theorem iteNBl {a b : Bool} {A B : Prop} (h : a = b) (hB : B) : if (!decide (V.bl a = V.bl b)) = true then A else B := by
  subst h
  rw [decide_eq_true rfl]
  exact iteF hB
theorem iteNSt {a b : Str} {A B : Prop} (h : a = b) (hB : B) : if (!decide (V.str a = V.str b)) = true then A else B := by
  subst h
  rw [decide_eq_true rfl]
  exact iteF hB
theorem str_len (x y : Str) : (x ++ y).length = x.length + y.length := by
  have h2 : (TL.tl (x ++ y)).length = (TL.tl x).length + (TL.tl y).length := by rw [TL.tl_append, List.length_append]
  rw [TL.len_tl, TL.len_tl x, TL.len_tl y]
  exact h2
end Yarn

set_option Elab.async false
set_option linter.all false
set_option maxRecDepth 100000
set_option maxHeartbeats 4000000
namespace Yarn
open PySem PySem.Spec PyProof.Rows L2

/-! ### own errors over any built-in one -/
/-- what the written part says of the error's class at C, which stands over the built-in B -/
structure ErrC (K : PySem.W.Frag) (C : Addr) (B nI iI : String) (bmB : List Value) : Prop where
  cls : ∃ nm q N bs bm sn sub ab col dd k0 k1 k2 k3 k5, K.lookup C = some (excClassObj nm q C N bs bm true sn sub ab col dd k0 k1 k2 k3 k5 nI) ∧ PySem.W.excTail bmB bm = true
  FB : ExcBaseFacts B nI iI bmB
  SF : StoreFacts B bmB "object.__setattr__" "object"
  sa : PySem.W.findIn K (.ref C) "__setattr__" = some (some (.builtin "object.__setattr__"))
  exC : PySem.W.subIn K (.ref C) (.type "BaseException") = some true
  tyC : PySem.W.typeIn K (.ref C) = some (.type "type")
  kC : PySem.W.keepIn K (.ref C) = true
section
variable {K : PySem.W.Frag} {C : Addr} {B nI iI : String} {bmB : List Value}
theorem ErrC.over (T : ErrC K C B nI iI bmB) : PySem.W.excOver K C bmB = true := by
  obtain ⟨nm, q, N, bs, bm, sn, sub, ab, col, dd, k0, k1, k2, k3, k5, hC, hb⟩ := T.cls
  unfold PySem.W.excOver PySem.W.clsIn
  rw [hC]
  show (C == C && PySem.W.excTail bmB bm) = true
  rw [hb, beq_self_eq_true]
  rfl
theorem ErrC.dict (T : ErrC K C B nI iI bmB) : PySem.W.hasDictIn K C = true := by
  obtain ⟨nm, q, N, bs, bm, sn, sub, ab, col, dd, k0, k1, k2, k3, k5, hC, hb⟩ := T.cls
  unfold PySem.W.hasDictIn PySem.W.clsIn
  rw [hC]
  rfl
theorem taker_no {f : Str} (h : PySem.W.findIn K (.ref C) f = some none) : PySem.W.takerIn K C f = some none := by
  unfold PySem.W.takerIn
  rw [h]
  rfl
/-- the error at e, its record's first field t, its dict d -/
abbrev erO (C t : Addr) (d : Option Addr) : Obj := { cls := .ref C, dict := d, data := .fields #[.ref t, .none, .none, .none, .bool false, .none] }
section
variable {prog : Program} {w : World} {A : Around} {R : Result → Shared → Prop} {hp : Heap} {g : Array GenState} {dr : Drawn} {tk : Nat} {os : OsState} {x t dx : Addr} {f : Str} {tok : Tok} {v : Value}
theorem er_first (T : ErrC K C B nI iI bmB) (X : K.In hp) (hx : hp.get? x = some (erO C t none)) (hno : PySem.W.findIn K (.ref C) f = some none)
    (hq : ∀ h' tk' dx, (∀ b o, b ≠ x → hp.get? b = some o → h'.get? b = some o) → hp.objs.size ≤ dx → dx ≠ x → h'.get? x = some (erO C t (some dx)) → h'.Ns1 dx (fun y => if y = f then some v else none) → R (.ok (.ret .none)) ⟨h', g, dr, tk', os⟩) :
    codeAny (model prog w) A (.call (.builtin "object.__setattr__") ⟨[.ref x, .str f tok, v], []⟩) R ⟨hp, g, dr, tk, os⟩ := by
  have hlt := Heap.lt_size hx
  have hne : x ≠ hp.objs.size := Nat.ne_of_lt hlt
  obtain ⟨cd, hc, hd⟩ := PySem.W.any_some T.dict
  refine PySem.W.osa_openX (s := ⟨hp, g, dr, tk, os⟩) (od := none) T.SF X ⟨hx, rfl, rfl, trivial⟩ T.over (taker_no hno) fun b => ?_
  refine wpAny_bind (wpAny_pure (wpAny_bind (PySem.W.instanceDict_exc (s := ⟨hp, g, dr, tk, os⟩) hx (PySem.W.looks_clsIn X hc) hd ?_)))
  have hx1 : (hp.push (PySem.W.dictOf [] 0)).get? x = some (erO C t none) := Heap.get?_push_of_some _ hx
  have e1 : ((hp.push (PySem.W.dictOf [] 0)).update x fun o => { o with dict := some hp.objs.size }).get? hp.objs.size = some (PySem.W.dictOf [] 0) :=
    (Heap.get?_update_ne _ _ _ _ hne.symm).trans (Heap.get?_push_at rfl rfl)
  have e2 : ((hp.push (PySem.W.dictOf [] 0)).update x fun o => { o with dict := some hp.objs.size }).get? x = some (erO C t (some hp.objs.size)) := Heap.get?_update_self _ hx1 rfl
  refine HandSPX.store_in_new ⟨_, #[], _, e1, rfl, fun e he => absurd he (by simp), fun _ => rfl⟩ fun h' tk' hn hs => ?_
  refine hq h' tk' hp.objs.size (fun b o hb ho => ?_) (Nat.le_refl _) hne.symm ((hs.2 x hne).trans e2) hn
  exact (hs.2 b (Nat.ne_of_lt (Heap.lt_size ho))).trans ((Heap.get?_update_ne _ _ _ _ hb).trans (Heap.get?_push_of_some _ ho))
theorem er_more {m0 : Str → Option Value} {nl : List Str} (T : ErrC K C B nI iI bmB) (X : K.In hp) (hx : hp.get? x = some (erO C t (some dx))) (hns : hp.Ns1 dx m0) (hw : Within m0 nl) (hz : nl.length ≤ 1000) (hno : PySem.W.findIn K (.ref C) f = some none)
    (hq : ∀ h' tk', (∀ b o, b ≠ dx → hp.get? b = some o → h'.get? b = some o) → h'.Ns1 dx (fun y => if y = f then some v else m0 y) → R (.ok (.ret .none)) ⟨h', g, dr, tk', os⟩) :
    codeAny (model prog w) A (.call (.builtin "object.__setattr__") ⟨[.ref x, .str f tok, v], []⟩) R ⟨hp, g, dr, tk, os⟩ := by
  obtain ⟨oD, _, _, hoD, _, _⟩ := hns.count hw
  obtain ⟨cd, hc, hd⟩ := PySem.W.any_some T.dict
  refine PySem.W.osa_openX (s := ⟨hp, g, dr, tk, os⟩) (od := some oD) T.SF X ⟨hx, rfl, rfl, hoD⟩ T.over (taker_no hno) fun b => ?_
  refine wpAny_bind (wpAny_pure (wpAny_bind (wpAny_bind (wpAny_loadPart hx (wpAny_bind ((PySem.W.looks_clsIn X hc).here ?_))))))
  rw [hd]
  refine wpAny_pure (a := some dx) ?_
  exact OEX.store_in_old hns hw hz fun h' tk' hn hs => hq h' tk' (fun b o hb ho => (hs.2 b hb).trans ho) hn
end
end

/-! ### over the abstract heap: exo is the error being made, exd its dict -/
section
variable {X : Cx} {pins : List (Addr × Obj)} {σ : L2.St} {H : Hp} {s : Shared} {a C dx : Addr} {B nI iI : String} {bmB : List Value} {f : Str} {y : V} {u : Value} {fs : List (Str × V)}
/-- an abstract heap that differs at a (an error being made) and at d (its dict, new), and has the rest -/
theorem er_un {hp h' : Heap} {o1 o2 : HO} (I : Inv X pins σ H s) (ea : H a = some (exo a C none)) (e : s.heap = hp) (hd : hp.objs.size ≤ dx) (hne : dx ≠ a) (k : ∀ b o, b ≠ a → hp.get? b = some o → h'.get? b = some o) (there : ∃ o, h'.get? a = some o) :
    Un X.fs [] H (upd (upd H dx o1) a o2) hp h' := by
  subst e
  have nd : H dx = none := I.hok.fresh hd
  have na : ∀ b, H b = none → b ≠ a := fun b n z => by
    rw [z, ea] at n
    cases n
  have ot : ∀ b o, H b = some o → o ≠ exo a C none → upd (upd H dx o1) a o2 b = some o := fun b o q n => by
    have h1 : b ≠ a := fun z => n (by rw [z, ea] at q; exact (Option.some.inj q).symm)
    rw [upd_ne h1, upd_ne (ne_of_none q nd)]
    exact q
  refine ⟨fun b o q n _ _ => k b o (na b n) q, fun b o q n _ _ => ⟨o.slots, k b o (na b n) q⟩, fun b o q n _ => ?_, fun b o q _ => ?_, fun b xs q => ot b _ q exo_tup.symm, fun b o v q => ot b _ q exo_frz.symm, fun b ps q => ⟨#[], by rw [ot b _ q exo_tbl.symm]; simp⟩⟩
  · rw [upd_ne (na b n), upd_ne (Nat.ne_of_lt (Nat.lt_of_lt_of_le (Heap.lt_size q) hd))]
    exact n
  · by_cases h : b = a
    · rw [h]; exact there
    · exact ⟨o, k b o h q⟩
theorem er_put1 {A : Around} {E : Value → Shared → Prop} {Q : Unit → Shared → Prop} (T : ErrC X.K C B nI iI bmB) (I : Inv X pins σ H s) (e : H a = some (exo a C none)) (hno : PySem.W.findIn X.K (.ref C) f = some none) (ry : RelV y u)
    (h : ∀ dx s', H dx = none → dx ≠ a → Inv X pins σ (upd (upd H dx (exd dx [(f, y)])) a (exo a C (some dx))) s' → Q () s') : wpAny (model X.prog X.w) A (setAttr (.ref a) f u) Q E s := by
  obtain ⟨t1, ho⟩ := exo_at I.hok e
  obtain ⟨hp, g, d, t, os⟩ := s
  refine PySem.W.set_plain I.kIn (ox := erO C t1 none) (od := none) ⟨ho, rfl, rfl, trivial⟩ T.sa ?_
  refine er_first T I.kIn ho hno (fun h' tk' dx k dn dne hx hn => ?_)
  have hnd : H dx = none := I.hok.fresh dn
  refine h dx _ hnd dne (I.un (t' := tk') (er_un I e rfl dn dne k ⟨_, hx⟩) fun b o q => ?_)
  by_cases hb : b = a
  · rw [hb] at q ⊢
    rw [upd_same] at q
    cases q
    exact exo_ok hx
  · rw [upd_ne hb] at q
    by_cases hd : b = dx
    · rw [hd] at q ⊢
      rw [upd_same] at q
      cases q
      exact exd_ok hn (relO_put (fs := []) ry fun g => True.intro)
    · rw [upd_ne hd] at q
      have st : ∀ c (o' : HO), H c = some o' → o' ≠ exo a C none → upd (upd H dx (exd dx [(f, y)])) a (exo a C (some dx)) c = some o' := fun c o' z n => by
        have h1 : c ≠ a := fun r => n (by rw [r, e] at z; exact (Option.some.inj z).symm)
        rw [upd_ne h1, upd_ne (ne_of_none z hnd)]
        exact z
      refine (I.hok b o q).stay (fun c v hc z => k c v ?_ z) (fun c hc => st c _ hc exo_own.symm) fun c xs hc => st c _ hc exo_tup.symm
      rcases hc with hc | hc
      · rw [hc]
        exact hb
      · exact fun r => by
          rw [r, e] at hc
          exact exo_own (Option.some.inj hc)
theorem er_put2 {A : Around} {E : Value → Shared → Prop} {Q : Unit → Shared → Prop} (T : ErrC X.K C B nI iI bmB) (I : Inv X pins σ H s) (e : H a = some (exo a C (some dx))) (ed : H dx = some (exd dx fs)) (hl : fs.length ≤ 900) (hno : PySem.W.findIn X.K (.ref C) f = some none) (ry : RelV y u)
    (h : ∀ s', Inv X pins σ (upd H dx (exd dx ((f, y) :: fs))) s' → Q () s') : wpAny (model X.prog X.w) A (setAttr (.ref a) f u) Q E s := by
  obtain ⟨t1, ho⟩ := exo_at I.hok e
  obtain ⟨mA, hns, rel⟩ := exd_at I.hok ed
  have hw := within_of rel
  obtain ⟨hp, g, d, t, os⟩ := s
  obtain ⟨oD, _, _, hoD, _, _⟩ := hns.count hw
  refine PySem.W.set_plain I.kIn (ox := erO C t1 (some dx)) (od := some oD) ⟨ho, rfl, rfl, hoD⟩ T.sa ?_
  refine er_more T I.kIn ho hns hw (by rw [List.length_map]; omega) hno (fun h' tk' k hn => ?_)
  have hd : ∃ o, h'.get? dx = some o := let ⟨o, _, _, z, _⟩ := hn; ⟨o, z⟩
  exact h _ (I.write (t' := tk') (x := dx) (e := dx) (o := exd dx ((f, y) :: fs)) (by rw [ed]; exact True.intro) (.inl rfl) k hd (exd_ok hn (relO_put ry rel)))
/-- B.__init__(self, ..) -/
theorem er_base {A : Around} {E : Value → Shared → Prop} {us : List Value} {Q : Value → Shared → Prop} (T : ErrC X.K C B nI iI bmB) (I : Inv X pins σ H s) (e : H a = some (exo a C none)) (hl : us.length ≤ sizeLine) (h : ∀ s', Inv X pins σ H s' → Q .none s') :
    wpAny (model X.prog X.w) A (call (.builtin iI) (.ref a :: us)) Q E s := by
  obtain ⟨nm, q, N, bs, bm, sn, sub, ab, col, dd, k0, k1, k2, k3, k5, hC, hbm⟩ := T.cls
  obtain ⟨t1, ho⟩ := exo_at I.hok e
  obtain ⟨hp, g, d, t, os⟩ := s
  refine wpAny_call (HandSPX.init_base T.FB (fun Y => PySem.W.excTail_contains Y bm hbm) (I.kIn _ _ hC) ho hl fun h' t2 k hx => ?_)
  have J := I.write (t' := t) (x := a) (e := a) (o := exo a C none) (by rw [e]; exact True.intro) (.inl rfl) k ⟨_, hx⟩ (exo_ok hx)
  have eu : upd H a (exo a C none) = H := funext fun b => by
    by_cases hb : b = a
    · rw [hb, upd_same, e]
    · rw [upd_ne hb]
  rw [eu] at J
  exact h _ J
end

/-! ### the readings -/
/-- B.__init__(self, ..): nothing of it is told -/
def tErI (K : PySem.W.Frag) (B nI iI : String) (bmB : List Value) (ta : TA) : TE := fun σ H Q => ta σ H fun vs H1 => ∃ (a C : Addr) (ws : List V), vs = .ref a :: ws ∧ ws.length ≤ 1000 ∧ ErrC K C B nI iI bmB ∧ H1 a = some (exo a C none) ∧ Q .non H1
/-- self.f = e -/
def tErP (K : PySem.W.Frag) (B nI iI : String) (bmB : List Value) (f : Str) (to te : TE) : TS := fun D σ H => te σ H fun y H1 => to σ H1 fun x H2 => ∃ a C : Addr, x = .ref a ∧ ErrC K C B nI iI bmB ∧ PySem.W.findIn K (.ref C) f = some none ∧
  ((H2 a = some (exo a C none) ∧ ∀ dx H3, H2 dx = none → But a H2 H3 → H3 a = some (exo a C (some dx)) → H3 dx = some (exd dx [(f, y)]) → D.nx σ H3) ∨
    ∃ (dx : Addr) (fs : List (Str × V)), H2 a = some (exo a C (some dx)) ∧ H2 dx = some (exd dx fs) ∧ fs.length ≤ 900 ∧ ∀ H3, But dx H2 H3 → H3 dx = some (exd dx ((f, y) :: fs)) → D.nx σ H3)
/-- C(e, ..): behind it the error is out of sight, its dict d is told -/
def tErM (C : Addr) (sp : Sp) (dvs : List V) (ta : TA) : L2.St → Hp → XK → Prop := fun σ H Q => ta σ H fun vs H1 => vs.length ≤ 1000 ∧ ∀ a H2, H1 a = none → Same H1 H2 → H2 a = some (exo a C none) → sp (.ref a :: (vs ++ dvs)) H2
  (fun v H3 => v = .non ∧ ∃ (d : Addr) (fs : List (Str × V)), But a H2 H3 ∧ H3 a = some (exo a C (some d)) ∧ H3 d = some (exd d fs) ∧ H2 d = none ∧ ∀ H4, Same H1 H4 → (∀ b o, b ≠ a → b ≠ d → H3 b = some o → H4 b = some o) → H4 d = some (.xd fs) → Q (.ref C) (some d) H4) (fun _ _ _ => False)
section
variable {X : Cx} {o e : Expr} {es : List Expr} {to te : TE} {ta : TA} {f x : Str} {p p' p1 p2 pos : Pos} {B nI iI : String} {bmB : List Value}
theorem pe_erI {pl : Sem Bool} (hg : Gl X x) (hm : X.mg x = none) (hbt : bootBuiltins x = some (.type B)) (hty : typeOf (.type B) = pure (.type "type")) (vV : PySem.W.findCls X.K (.type B) (.type "type") "__init__" = some (.val (.builtin iI))) (ha : PA X (e :: es) ta)
    (hst : Manifest.isStub B = false := by decide +kernel) (hh : PySem.W.handedIn (.builtin iI) = true := by decide +kernel)
    (hn : x ≠ "__name__" := by decide) (hdb : (x == ("__debug__" : Str)) = false := by decide)
    (hc : eval (.Call (.Attribute (.Name x p1) "__init__" p2) (e :: es) [] pos) X.env = (do
      let ov ← eval (.Name x p1) X.env
      standAt p2.atName
      let (f, first) ← holding [ov] (getMethod ov "__init__" pl)
      callWith pos f first (backTo pos (starEach (e :: es) X.env)) (backToKw pos (keywordEach [] X.env))) := by rfl)
    (he : starEach (e :: es) X.env = (false, eval e X.env) :: starEach es X.env := by rfl) (hpl : (backTo pos (starEach es X.env)).any (·.1) = false := by rfl) :
    PE X (.Call (.Attribute (.Name x p1) "__init__" p2) (e :: es) [] pos) (tErI X.K B nI iI bmB ta) := by
  refine ⟨fun pins s σ H Q I h => ?_⟩
  refine PySem.W.methodCall_KW (ld_blt I hg hm hbt ?_ hn hdb) hc
  obtain ⟨m, fr⟩ := I.fr
  refine PySem.W.method_type fr I.ok.mod.kin hty hst vV hh ?_
  show wpAny _ _ (callWith pos (Value.builtin iI) [] (backTo pos (starEach (e :: es) X.env)) []) _ _ _
  refine PyProof.Rows.callWith_method1 (thn (ha.run pos pins _ σ H _ (I.tok _) h) fun us s1 ⟨vs, H1, I1, r1, a, C, ws, ev, hl, T, ea, q⟩ => ?_) he hpl
  subst ev
  cases r1 with
  | @cons _ u0 _ ur ra rw' =>
    obtain rfl : u0 = Value.ref a := ra
    have hlen : ur.length ≤ sizeLine := by
      rw [← Paired.length rw', sizeLine_eq]
      omega
    exact er_base T I1 ea hlen fun s' J => ⟨.non, H1, J, rfl, q⟩
theorem ps_erP (ho : PE X o to) (he : PE X e te) (hs : swapsWith e (some (.Attribute o f p')) pos.line X.env = pure false := by rfl) : PS X (.Assign [.Attribute o f p'] e pos) (tErP X.K B nI iI bmB f to te) := by
  refine ⟨fun pins s σ H D I h => ?_⟩
  refine plainObj_wpAny_Assign_Attribute (thn (he.run pins s σ H _ I h) fun v s1 ⟨y, H1, I1, r1, q1⟩ => thn (ho.run pins s1 σ H1 _ I1 q1) fun u s2 ⟨x, H2, I2, r2, a, C, ex, T, hno, q⟩ => ?_) hs
  subst ex
  obtain rfl : u = Value.ref a := r2
  rcases q with ⟨ea, q⟩ | ⟨dx, fs, ea, ed, hl, q⟩
  · refine er_put1 T I2 ea hno r1 fun dx s' n ne J => ⟨σ, _, J, q dx _ n (fun b o hb z => ?_) upd_same ?_⟩
    · rw [upd_ne hb, upd_ne (ne_of_none z n)]
      exact z
    · rw [upd_ne ne, upd_same]
  · exact er_put2 T I2 ea ed hl hno r1 fun s' J => ⟨σ, _, J, q _ but_upd upd_same⟩
theorem pmk_er {CX : CXT} {C fI : Addr} {k : Nat} {fd : FuncData} {ps : List Str} {sp : Sp} {ds : List Value} {dvs : List V} (T : ErrC X.K C B nI iI bmB) (iC : PySem.W.findIn X.K (.ref C) "__init__" = some (some (.ref fI))) (tI : PySem.W.typeIn X.K (.ref fI) = some (.type "function"))
    (F1 : FnOk X.prog X.w X.K X.mg X.base CX k fI fd ps sp) (hr : Room (k + 1) X.A) (hb : Binds X.K fd ps ds) (hd : Vals dvs ds) (hx : Passes CX X (fun _ _ _ => False)) (hg : Gl X x) (hm : X.mg x = some (.ref C)) (ha : PA X (e :: es) ta)
    (hdb : (x == ("__debug__" : Str)) = false := by decide) (he : starEach (e :: es) X.env = (false, eval e X.env) :: starEach es X.env := by rfl) (hpl : (backTo pos (starEach es X.env)).any (·.1) = false := by rfl) :
    PMk X (.Call (.Name x p) (e :: es) [] pos) (tErM C sp dvs ta) := by
  intro pins s σ H Q I h
  obtain ⟨nm, q, N, bs, bm, sn, sub, ab, col, dd, k0, k1, k2, k3, k5, hC, hbm⟩ := T.cls
  refine wpAny_Call_Name_kw (ld_glob I hg hm ?_ hdb)
  refine PySem.W.callWith_K (h₀ := X.base) I.ok.mod.kin T.kC (thn (ha.run pos pins s σ H _ I h) fun us s1 ⟨vs, H1, I1, r1, hz, q1⟩ => ⟨I1.kIn, ?_⟩) he hpl
  show wpAny _ _ (call (.ref C) us) _ _ _
  obtain ⟨hp, g, dr, tk, os⟩ := s1
  obtain ⟨n0, en⟩ : ∃ n, n = hp.objs.size + 1 := ⟨_, rfl⟩
  have hsz : hp.objs.size ≤ n0 := by rw [en]; exact Nat.le_succ _
  have hn : H1 n0 = none := I1.hok.fresh hsz
  have hq := q1 n0 (upd H1 n0 (exo n0 C none)) hn (same_upd hn) upd_same
  have kk : ∀ b o, hp.get? b = some o → ((hp.push (PySem.W.kdv_tup us)).push (PySem.HandSPX.excO C hp.objs.size)).get? b = some o := fun b o z => Heap.get?_push_of_some _ (Heap.get?_push_of_some _ z)
  have hget : ((hp.push (PySem.W.kdv_tup us)).push (PySem.HandSPX.excO C hp.objs.size)).get? n0 = some (PySem.HandSPX.excO C hp.objs.size) := by
    rw [en]
    heap_get
  have I2 : Inv X pins σ (upd H1 n0 (exo n0 C none)) ⟨(hp.push (PySem.W.kdv_tup us)).push (PySem.HandSPX.excO C hp.objs.size), g, dr, tk, os⟩ := I1.laid (t' := tk) kk hsz (exo_ok hget)
  have r2 : Vals (V.ref n0 :: (vs ++ dvs)) (Value.ref n0 :: (us ++ ds)) := .cons rfl (r1.append hd)
  have hl : (Value.ref n0 :: us ++ ds).length = ps.length := r2.length.symm.trans (F1.len _ _ _ _ hq)
  have hus : us.length ≤ sizeLine := by
    rw [← Paired.length r1, sizeLine_eq]
    omega
  have J := F1.run (X.A.under (.builtin "type.__call__" ⟨.ref C :: us, []⟩)) X.stack _ _ ⟨Value.ref n0 :: us, []⟩ (Value.ref n0 :: (us ++ ds)) _ _ (fun _ _ _ => False) (hr.make C us []) (I2.env0.make C us []) (hb _ (Value.ref n0 :: us) I2.kIn hl) r2 hq
  refine wpAny_call (PySem.HandSPX.call_own T.FB (fun Y => PySem.W.excTail_contains Y bm hbm) (I1.kIn _ _ hC) (PySem.W.looks_findIn I1.kIn iC) (fun self => PySem.W.bind_fn I1.kIn self tI) hus (en ▸ codeAny_mono J fun r s' hq' => ?_))
  cases r with
  | error er => exact hx pins σ _ _ er s' I2 hq'
  | ok fl =>
    cases fl with
    | ret u =>
      obtain ⟨v, H3, os3, bare3, un3, hok3, rv, ev, d, fs, bu, ea, ed, hd1, q3⟩ := hq'
      subst ev
      have d1 : H1 d = none := by
        cases z : H1 d with
        | none => rfl
        | some o =>
          have y := same_upd (o := exo n0 C none) hn d o z
          rw [hd1] at y
          cases y
      have dne : d ≠ n0 := fun z => by
        rw [z, upd_same] at hd1
        cases hd1
      obtain ⟨h3, g3, dr3, t3, os'⟩ := s'
      refine ⟨rv, mk_end (raises_own T.exC T.tyC) I1 hsz kk un3 hok3 os3 bare3 ea ed d1 (q3 _ (fun b o z => ?_) (fun b o h1 h2 z => ?_) upd_same)⟩
      · have b1 : b ≠ n0 := ne_of_none z hn
        rw [upd_ne (ne_of_none z d1), del_ne b1]
        exact bu b o b1 (same_upd hn b o z)
      · rw [upd_ne h2, del_ne h1]
        exact z
    | next => exact hq'.elim
    | brk => exact hq'.elim
    | cont => exact hq'.elim
end

/-! ### an error that is kept behind its suite -/
/-- at a: an error of class cls, its dict d -/
def ExK (a : Addr) (cls : Value) (d : Option Addr) : HO := .ext fun h => ∃ oe vs, h.get? a = some oe ∧ Zc cls d oe ∧ oe.data = .fields vs
theorem exk_own {a x : Addr} {cls : Value} {d : Option Addr} : ExK a cls d ≠ .own x := fun z => by
  have z' : HO.ext _ = HO.own x := z
  cases z'
theorem exk_ok {P : Program} {w : World} {H : Hp} {h : Heap} {a : Addr} {cls : Value} {d : Option Addr} {oe : Obj} {vs : Array Value} (he : h.get? a = some oe) (hz : Zc cls d oe) (hd : oe.data = .fields vs) : ObjOk P w H h a (ExK a cls d) :=
  ⟨⟨oe, vs, he, hz, hd⟩, ⟨_, he⟩, fun h1 h2 ⟨o, v, q, r⟩ k => ⟨o, v, k _ q, r⟩⟩
theorem exk_at {P : Program} {w : World} {H : Hp} {h : Heap} {a : Addr} {cls : Value} {d : Option Addr} (hok : HOk P w H h) (e : H a = some (ExK a cls d)) : ∃ oe vs, h.get? a = some oe ∧ Zc cls d oe ∧ oe.data = .fields vs := by
  have x : ObjOk P w H h a (.ext fun h => ∃ oe vs, h.get? a = some oe ∧ Zc cls d oe ∧ oe.data = .fields vs) := hok a _ e
  exact x.1
section
variable {X : Cx} {pins : List (Addr × Obj)} {σ : L2.St} {H : Hp} {s : Shared} {a : Addr} {oe : Obj} {vs : Array Value} {cls : Value} {d : Option Addr}
/-- a known object, untold as yet, is told -/
theorem tell (I : Inv X pins σ H s) (he : s.heap.get? a = some oe) (hz : Zc cls d oe) (hd : oe.data = .fields vs) (na : H a = none) (nL : a ≠ X.env.locals) (n0 : X.s_0.heap.get? a = none) (np : ∀ p ∈ X.pn ++ pins, p.1 ≠ a) : Inv X pins σ (upd H a (ExK a cls d)) s := by
  have ot : ∀ b o, H b = some o → upd H a (ExK a cls d) b = some o := fun b o z => by
    rw [upd_ne (ne_of_none z na)]
    exact z
  have no : ∀ b, b ≠ a → H b = none → upd H a (ExK a cls d) b = none := fun b h z => by
    rw [upd_ne h]
    exact z
  refine ⟨I.ok, I.os, I.bare, ⟨I.base.keep, I.base.slot, fun b o e n hx => no b (fun z => ?_) (I.base.free b o e n hx), I.base.there, fun b xs e => ot b _ (I.base.tups b xs e), fun b o v e => ot b _ (I.base.frzs b o v e), fun b ps e => ?_⟩, I.loc, I.cell, no _ nL.symm I.free,
    fun x c e => no c (fun z => ?_) (I.freeC x c e), fun p hp => ?_, fun b o e => ?_, I.len⟩
  · rw [z, n0] at e
    cases e
  · obtain ⟨more, q⟩ := I.base.tbls b ps e
    exact ⟨more, ot b _ q⟩
  · obtain ⟨v, oc, q, r⟩ := I.cell x c e
    rw [z, he] at q
    cases q
    have r' : oe.data = .cell v := by first | exact r | exact r.2 | exact r.1
    rw [hd] at r'
    cases r'
  · obtain ⟨h1, h2, h3⟩ := I.pin p hp
    exact ⟨h1, no _ (np p hp) h2, h3⟩
  · by_cases hb : b = a
    · rw [hb] at e ⊢
      rw [upd_same] at e
      cases e
      exact exk_ok he hz hd
    · rw [upd_ne hb] at e
      exact (I.hok b o e).stay (fun _ _ _ q => q) (fun c q => ot c _ q) fun c xs q => ot c _ q
theorem suite_out {q : Addr × Obj} {pn' : List (Addr × Obj)} (I : Inv (X.suite a (q :: (X.pn ++ pins))) pn' σ H s) (ok : X.Ok) : Inv X (q :: pins) σ H s :=
  ⟨ok, I.os, I.bare, I.base, I.loc, I.cell, I.free, I.freeC, fun p hp => I.pin p (List.mem_append_left _ (by
    rcases List.mem_append.mp hp with z | z
    · exact List.mem_cons_of_mem _ (List.mem_append_left _ z)
    · rcases List.mem_cons.mp z with z | z
      · rw [z]
        exact List.mem_cons_self
      · exact List.mem_cons_of_mem _ (List.mem_append_right _ z))), I.hok, I.len⟩
end

/-- every way out of a suite, with the error at a told from then on -/
def keepD (i : Nat) (a : Addr) (cls : Value) (d : Option Addr) (D : Ends) : Ends :=
  { nx := fun σ' H' => ∀ H2, Same H' H2 → H2 a = some (ExK a cls d) → D.nx (σ'.set i none) H2, bk := fun σ' H' => ∀ H2, Same H' H2 → H2 a = some (ExK a cls d) → D.bk (σ'.set i none) H2,
    ct := fun σ' H' => ∀ H2, Same H' H2 → H2 a = some (ExK a cls d) → D.ct (σ'.set i none) H2, rt := fun v H' => ∀ H2, Same H' H2 → H2 a = some (ExK a cls d) → D.rt v H2 }
/-- what 'except x as n' wishes of the body's errors; slot i is n's -/
def wKp (K : PySem.W.Frag) (c : Value) (i : Nat) (ts : Addr → Value → Option Addr → TS) (Wout : WX) (D : Ends) : WX := fun cls d σ H =>
  ∃ b, PySem.W.exmOne K cls c = some b ∧ (b = true → ∀ a, H a = none → ts a cls d (keepD i a cls d D) (σ.set i (some (.ref a))) H) ∧ (b = false → Wout cls d σ H)
section
variable {X : Cx} {x n : Str} {c : Value} {i : Nat} {body suite : List Stmt} {b₀ : Stmt} {np pos pos' : Pos} {tb : WX → TS} {ts : Addr → Value → Option Addr → TS} {Wout : WX}
theorem sky_new {B : Heap} {l : List Env} {a L : Addr} {Z : Obj → Prop} {h : Heap} (x : Sky B l a Z L h) : B.get? a = none := by
  rcases x with x | x | x <;> exact x.2.1
/-- the suite's end: the name goes, the error is told -/
theorem suite_end {pins : List (Addr × Obj)} {σ : L2.St} {H : Hp} {s : Shared} {a : Addr} {oe : Obj} {vs : Array Value} {cls : Value} {d : Option Addr} {R : Shared → Prop} (I : Inv (X.suite a ((a, oe) :: (X.pn ++ pins))) [] σ H s) (ok : X.Ok) (hN : X.N.Nodup) (hi : X.N[i]? = some n) (hln : X.env.kindOf n = some .local)
    (hz : Zc cls d oe) (hd : oe.data = .fields vs) (n0 : X.s_0.heap.get? a = none) (np : ∀ p ∈ X.pn ++ pins, p.1 ≠ a) (hR : ∀ H2 s', Same H H2 → H2 a = some (ExK a cls d) → Inv X pins (σ.set i none) H2 s' → R s') :
    wpAny (model X.prog X.w) X.A (do bindName X.env n .none; unbindBehindTheSuite X.env n pos') (fun _ s' => R s') X.xe s := by
  refine gone_ok (suite_out I ok) hN hi hln fun s7 J => ?_
  obtain ⟨h1, h2, h3, h4, h5⟩ := J.pin (a, oe) (List.mem_append_right _ List.mem_cons_self)
  have J' : Inv X pins (σ.set i none) H s7 := ⟨ok, J.os, J.bare, J.base, J.loc, J.cell, J.free, J.freeC, fun p hp => J.pin p (by
    rcases List.mem_append.mp hp with z | z
    · exact List.mem_append_left _ z
    · exact List.mem_append_right _ (List.mem_cons_of_mem _ z)), J.hok, J.len⟩
  exact hR _ s7 (same_upd h2) upd_same (tell J' h1 hz hd h2 h3 n0 np)
theorem ps_try_keep (hex : X.ex = []) (hs : X.stack = X.env :: X.outer) (hf : X.env.frame = some X.env.locals) (hN : X.N.Nodup) (hi : X.N[i]? = some n) (hln : X.env.kindOf n = some .local) (hc : Names X x c) (tk : Takes X Wout)
    (hb : ∀ (W : WX) (pn : List (Addr × Obj)) (xe : Value → Shared → Prop), Takes (X.tr pn xe) W → PassesOwn (model X.prog X.w) X.A X.env xe → PSs (X.tr pn xe) body (tb W))
    (hsu : ∀ (a : Addr) (oe : Obj) (cls : Value) (d : Option Addr) (pn : List (Addr × Obj)), Zc cls d oe → (∃ vs, oe.data = .fields vs) → PSs (X.suite a ((a, oe) :: pn)) (b₀ :: suite) (ts a cls d)) :
    PS X (.Try body [.ExceptHandler (some (.Name x np)) (some n) (b₀ :: suite) pos'] [] [] pos) (fun D σ H => tb (wKp X.K c i ts Wout D) D σ H) := by
  refine ⟨fun pins s σ H D I h => ?_⟩
  have ok := I.ok
  have hfr : X.A.frames = some (X.env :: X.outer) := ok.frames.trans (congrArg some hs)
  refine wpAny_Try_except (wpAny_mono ((hb (wKp X.K c i ts Wout D) (X.pn ++ pins) (fun e s₁ => wpAny (model X.prog X.w) X.A (noteFrame e X.env) (fun _ s₂ => wpAny (model X.prog X.w) X.A (setFlight e none) (fun _ s₃ =>
    wpAny (model X.prog X.w) X.A (handleBy e X.env [.ExceptHandler (some (.Name x np)) (some n) (b₀ :: suite) pos']) (SP X pins D) X.xe s₃) X.xe s₂) X.xe s₁) (fun u s' xx => ?_) PassesOwn.looking).run [] s σ H D (I.toTry _) h) (fun f s1 hsp => ?_) fun e s1 he => he)
  · obtain ⟨a, B, sI, pins', σ', H', cls, d, rfl, J', nb, up, sky, na, os, ag, b, hb1, hyes, hno⟩ := xx
    have J : Inv X pins σ' H' sI := J'.ofTry ok
    have sky' : Sky B (X.env :: X.outer) a (Zc cls d) X.env.locals s'.heap := hs ▸ sky
    have Ba := sky_new sky'
    show wpAny (model X.prog X.w) X.A (noteFrame (.ref a) X.env) _ _ _
    refine Sky.land Zc.steady hfr hf sky' fun h3 fl3 up3 => ?_
    have J3 : Inv X pins σ' H' { s' with heap := h3 } := J.landed nb fl3.1 (up.trans up3) os ag
    obtain ⟨oe3, vs3, he3, hz3, hd3⟩ := fl3.there
    have nfr : a ∉ frs (X.env :: X.outer) := fun hm => by
      obtain ⟨_, o', e', hnf⟩ := fl3.2.2.1.mem hm
      rw [he3] at e'
      cases e'
      exact hnf _ hd3
    have nL : a ≠ X.env.locals := fun z => nfr (List.mem_filterMap.mpr ⟨X.env, List.mem_cons_self, by rw [hf, z]⟩)
    have nF : a ∉ X.fs := fun hm => by
      obtain ⟨e, h1, q⟩ := List.mem_filterMap.mp hm
      exact nfr (List.mem_filterMap.mpr ⟨e, List.mem_cons_of_mem _ h1, q⟩)
    -- nothing of the entry, nothing pinned, is the error
    have isnt : ∀ b o, sI.heap.get? b = some o → b ∉ frs (X.env :: X.outer) → b ≠ a := fun b o q h1 z => by
      have y := nb b o q (hs.symm ▸ h1)
      rw [z, Ba] at y
      cases y
    have n0 : X.s_0.heap.get? a = none := by
      cases q : X.s_0.heap.get? a with
      | none => rfl
      | some o =>
        obtain ⟨o', q'⟩ := J.base.there a o q (by rw [hex]; exact List.not_mem_nil)
        exact absurd rfl (isnt a o' q' nfr)
    have npin : ∀ p ∈ X.pn ++ pins, p.1 ≠ a := fun p hp => by
      obtain ⟨h1, _, h2, h3, _⟩ := J.pin p hp
      refine isnt p.1 p.2 h1 fun hm => ?_
      rcases List.mem_cons.mp (J.stkSub p.1 (hs.symm ▸ hm)) with z | z
      · exact h2 z
      · exact h3 z
    have S3 := J3.suite he3 hd3 na nL nF
    refine wpAny_handleBy_cons (codeAny_handlers_test ?_) fun q => nomatch q
    have LT : PySem.W.Looks (model X.prog X.w) h3 (typeOf (.ref a)) cls := fun A Q E s k q => wpAny_typeOf_ref (k _ _ he3) (by rw [hz3.1]; exact q)
    have LM := PySem.W.exm_one (M := model X.prog X.w) J3.kIn LT hb1
    have test : ∀ {Q : Value → Shared → Prop} {E : Value → Shared → Prop}, Q c { s' with heap := h3 } → wpAny (model X.prog X.w) (X.A.mark (some (.ref a))) (eval (.Name x np) X.env) Q E { s' with heap := h3 } := fun {Q E} q => by
      obtain ⟨hg, hdbg, hm | ⟨hm, hv, hnn⟩⟩ := hc
      · exact ld_glob (X := X.suite a ((a, oe3) :: (X.pn ++ pins))) S3 hg hm q hdbg
      · exact ld_blt (X := X.suite a ((a, oe3) :: (X.pn ++ pins))) S3 hg hm hv q hnn hdbg
    refine test (LM.here ?_)
    cases b with
    | true =>
      refine codeAny_handlers_suite_as (HandSPX.lands_againZ fl3 fun h4 fl4 up4 => ?_)
      have J4 : Inv X pins σ' H' { s' with heap := h4 } := J.landed nb fl4.1 ((up.trans up3).trans up4) os ag
      obtain ⟨oe4, vs4, he4, hz4, hd4⟩ := fl4.there
      refine store_ok (X := X.suite a ((a, oe4) :: (X.pn ++ pins))) (v := .ref a) (J4.suite he4 hd4 na nL nF) hN hi (.inl hln) rfl (fun s5 S5 => ?_) (.inr hln)
      refine wpAny_mono ((hsu a oe4 cls d (X.pn ++ pins) hz4 ⟨_, hd4⟩).run [] s5 _ H' _ S5 (hyes rfl a na)) (fun f s6 hsp => ?_) fun _ _ z => False.elim z
      cases f with
      | next =>
        obtain ⟨σ6, H6, S6, q6⟩ := hsp
        exact suite_end S6 ok hN hi hln hz4 hd4 n0 npin fun H2 s7 w1 w2 J7 => ⟨_, _, J7, q6 H2 w1 w2⟩
      | brk =>
        obtain ⟨σ6, H6, S6, q6⟩ := hsp
        exact suite_end S6 ok hN hi hln hz4 hd4 n0 npin fun H2 s7 w1 w2 J7 => ⟨_, _, J7, q6 H2 w1 w2⟩
      | cont =>
        obtain ⟨σ6, H6, S6, q6⟩ := hsp
        exact suite_end S6 ok hN hi hln hz4 hd4 n0 npin fun H2 s7 w1 w2 J7 => ⟨_, _, J7, q6 H2 w1 w2⟩
      | ret u =>
        obtain ⟨v6, σ6, H6, S6, r6, q6⟩ := hsp
        exact suite_end S6 ok hN hi hln hz4 hd4 n0 npin fun H2 s7 w1 w2 J7 => ⟨_, _, _, J7, r6, q6 H2 w1 w2⟩
    | false =>
      show wpAny _ X.A (handleBy (.ref a) X.env []) _ _ _
      refine wpAny_handleBy_nil ?_
      obtain ⟨k1, k2, k3, oe, vs, T, oT, ts', he, hz, hd, h1, hr⟩ := id fl3
      unfold PySem.passOn
      refine wpAny_bind (wpAny_field he hd h1 ?_)
      rw [if_neg (show ¬ ((Value.ref T == Value.none) = true) from by simp)]
      have fin : wpAny (model X.prog X.w) X.A (setFlight (.ref a) X.env.frame) (fun _ s4 => wpAny (model X.prog X.w) X.A (throw (.ref a) : Sem Flow) (SP X pins D) X.xe s4) X.xe { s' with heap := h3 } := by
        rw [hf]
        refine HandSPX.setFlight_upZ fl3 fun h4 hh4 up4 => wpAny_throw (tk _ _ ?_)
        exact ⟨a, B, sI, pins, σ', H', cls, d, rfl, J, nb, (up.trans up3).trans up4, .inr (.inr (by rw [hs]; exact hh4)), na, os, ag, hno rfl⟩
      first
        | exact wpAny_bind (wpAny_pure (wpAny_bind fin))
        | exact wpAny_bind fin
  · cases f with
    | next =>
      obtain ⟨σ', H', J', q⟩ := hsp
      exact wpAny_execs_nil ⟨σ', H', J'.ofTry ok, q⟩
    | brk =>
      obtain ⟨σ', H', J', q⟩ := hsp
      exact ⟨σ', H', J'.ofTry ok, q⟩
    | cont =>
      obtain ⟨σ', H', J', q⟩ := hsp
      exact ⟨σ', H', J'.ofTry ok, q⟩
    | ret u =>
      obtain ⟨v, σ', H', J', r, q⟩ := hsp
      exact ⟨v, σ', H', J'.ofTry ok, r, q⟩
end

/-! ### what is asked of a kept error -/
/-- what the written part says of the class C of errors -/
structure ErrA (K : PySem.W.Frag) (C : Addr) : Prop where
  ic : (PySem.W.clsIn K C).isSome = true
  hd : PySem.W.hasDictIn K C = true
  ga : PySem.W.findIn K (.ref C) "__getattribute__" = some (some (.builtin "BaseException.__getattribute__"))
  gg : PySem.W.findIn K (.ref C) "__getattr__" = some none
  ex : PySem.W.subIn K (.ref C) (.type "BaseException") = some true
  ca : PySem.W.findIn K (.ref C) "__class__" = some (some (.builtin "object.__class__"))
  cn : PySem.W.specialIn K (.builtin "object.__class__") "__get__" = some (some (.builtin "getset_descriptor.__get__"))
  ct : PySem.W.takesIn K (.builtin "object.__class__") = some true
  mo : PySem.W.mroIn K C (.type "object") = some true
section
variable {X : Cx} {pins : List (Addr × Obj)} {σ : L2.St} {H : Hp} {s : Shared} {a C dd : Addr} {fs : List (Str × V)} {f n : Str} {v : V}
theorem exk_inst (T : ErrA X.K C) (I : Inv X pins σ H s) (ea : H a = some (ExK a (.ref C) (some dd))) (ed : H dd = some (.xd fs)) :
    ∃ (oe od : Obj) (mA : Str → Option Value), PySem.W.InstAt s.heap a oe C (some od) ∧ (∀ f, RelO (fs.lookup f) (mA f)) ∧ ∀ f, PySem.W.lookIn f od = some (mA f) := by
  obtain ⟨oe, vs, he, hz, hd⟩ := exk_at I.hok ea
  have hx : ObjOk X.prog X.w H s.heap dd (.xd fs) := I.hok dd _ ed
  obtain ⟨mA, hns, hr⟩ := hx
  obtain ⟨od, ho, hl⟩ := lookIn_ns hns
  exact ⟨oe, od, mA, ⟨he, hz.1, by unfold PySem.W.notCls; rw [hd], by rw [hz.2]; exact ho⟩, hr, hl⟩
/-- isinstance(e, c) -/
def rIsK (K : PySem.W.Frag) (C : Addr) : List V → Hp → VK → Prop := fun xs H Q => ∃ (a dd : Addr) (fs : List (Str × V)) (c : V) (cv : Value) (b : Bool), xs = [.ref a, c] ∧ H a = some (ExK a (.ref C) (some dd)) ∧ H dd = some (.xd fs) ∧ (∀ u, RelV c u → u = cv) ∧ PySem.W.kitOne K (.ref C) cv = some b ∧ Q (.bl b) H
theorem call_isK (T : ErrA X.K C) : CallR X (.builtin "isinstance") (rIsK X.K C) := by
  intro pins s σ H xs us Q I r h
  obtain ⟨a, dd, fs, c, cv, b, rfl, ea, ed, hcv, e, q⟩ := h
  cases r with
  | cons rx rr =>
    cases rr with
    | cons rt rr =>
      cases rr
      cases rx
      have ec := hcv _ rt
      subst ec
      obtain ⟨oe, od, mA, J, _, _⟩ := exk_inst T I ea ed
      exact PySem.W.kia_one (PySem.W.kitx_exc T.ic T.ga T.gg T.ex T.ca T.cn T.ct T.mo) I.kIn J e (fun z => nomatch z) fun tk => ⟨.bl b, H, I.kept (t' := tk) fun _ _ z => z, rfl, q⟩
/-- e.f -/
def tXk (C : Addr) (f : Str) (te : TE) : TE := fun σ H Q => te σ H fun x H1 => ∃ (a dd : Addr) (fs : List (Str × V)) (v : V), x = .ref a ∧ H1 a = some (ExK a (.ref C) (some dd)) ∧ H1 dd = some (.xd fs) ∧ fs.lookup f = some v ∧ Q v H1
theorem pe_xk {e : Expr} {te : TE} {pos : Pos} (T : ErrA X.K C) (hno : PySem.W.findIn X.K (.ref C) n = some none) (he : PE X e te) (hb : attributeBase e n X.env (eval e X.env) = eval e X.env := by rfl) : PE X (.Attribute e n pos) (tXk C n te) := by
  refine ⟨fun pins s σ H Q I h => ?_⟩
  refine attr_of hb (thn (he.run pins s σ H _ I h) fun u s1 hh => ?_)
  obtain ⟨x, H1, I1, rx, a, dd, fs, v, ex, ea, ed, l, q⟩ := hh
  subst ex
  obtain rfl : u = Value.ref a := rx
  obtain ⟨oe, od, mA, J, hr, hl⟩ := exk_inst T I1 ea ed
  obtain ⟨u, hu, ru⟩ := RelO.some_of (v := v) (o := mA n) (by rw [← l]; exact hr n)
  exact HandSPX.exc_get I1.kIn J T.ga T.gg T.ex (PySem.W.findObj_own T.hd hno rfl (by rw [hl, hu])) (handed_of ru) ⟨v, H1, I1.tok _, ru, q⟩
end
/-- isinstance's answer over an own class: of a built-in type, of an own one -/
theorem kit_ty {K : PySem.W.Frag} {C : Addr} {t : String} {b : Bool} (h1 : PySem.W.kitMeta t = true) (h2 : PySem.W.subIn K (.ref C) (.type t) = some b) : PySem.W.kitOne K (.ref C) (.type t) = some b := by
  have hne : (Value.ref C == Value.type t) = false := Bool.eq_false_iff.mpr fun q => by cases beq_iff_eq.mp q
  unfold PySem.W.kitOne
  rw [hne]
  simp [PySem.W.kitCls, h1, h2]
/-- 'except C' catches C's own -/
theorem exm_own {K : PySem.W.Frag} {C : Addr} (h1 : PySem.W.subIn K (.ref C) (.type "BaseException") = some true) (h2 : PySem.W.hasDictIn K C = true) (h3 : PySem.W.typeIn K (.ref C) = some (.type "type")) (h4 : PySem.W.subIn K (.ref C) (.ref C) = some true) :
    PySem.W.exmOne K (.ref C) (.ref C) = some true := PySem.W.exm_ref h1 h2 h3 h4

/-! ### a method that may raise, in a body of try -/
def tMethX (C : Addr) (m : Str) (sp : Sp) (dvs : List V) (E : L2.St → XK) (ta : TE) (t : TA) : TE := fun σ H Q => ta σ H fun x H1 => ∃ a dx fs, x = .ref a ∧ H1 a = some (.ins C dx fs) ∧ fs.lookup m = none ∧ t σ H1 fun vs H2 => sp (x :: (vs ++ dvs)) H2 Q (E σ)
theorem pe_methX {X : Cx} {CX : CXT} {k : Nat} {f C : Addr} {fd : FuncData} {ps : List Str} {sp : Sp} {dvs : List V} {ds : List Value} {E : L2.St → XK} {m : Str} {apos pos : Pos} {e o : Expr} {es : List Expr} {ta : TE} {t : TA} {pl : Sem Bool} (he : PE X o ta) (c : Cls X.K C) (hm : Meth X.K C m f)
    (F : FnOk X.prog X.w X.K X.mg X.base CX k f fd ps sp) (hr : Room k X.A) (hb : Binds X.K fd ps ds) (hd : Vals dvs ds) (hx : ∀ σ, PassesAt CX X σ (E σ)) (ha : PA X (e :: es) t)
    (hst : starEach (e :: es) X.env = (false, eval e X.env) :: starEach es X.env := by rfl) (hpl : (backTo pos (starEach es X.env)).any (·.1) = false := by rfl)
    (ht : eval (.Call (.Attribute o m apos) (e :: es) [] pos) X.env = (do
      let ov ← eval o X.env
      standAt apos.atName
      let (f, first) ← holding [ov] (getMethod ov m pl)
      callWith pos f first (backTo pos (starEach (e :: es) X.env)) (backToKw pos (keywordEach [] X.env))) := by rfl) :
    PE X (.Call (.Attribute o m apos) (e :: es) [] pos) (tMethX C m sp dvs E ta t) := by
  refine ⟨fun pins s σ H Q I h => ?_⟩
  refine PySem.W.methodCall_KW (pl := pl) (thn (he.run pins s σ H _ I h) fun u s1 ⟨x, H1, I1, rx, a, dx, fs, ex, ea, l, q⟩ => ?_) ht
  subst ex
  obtain rfl : u = Value.ref a := rx
  refine getmeth_ok I1 ea c hm l ?_
  exact PySem.W.callWith_K (first := [.ref a]) (h₀ := X.base) I.ok.mod.kin hm.kp (thn (ha.run pos pins s1 σ H1 _ I1 q) fun us s2 ⟨vs, H2, I2, r, q2⟩ => ⟨I2.kIn, run_fnSD (us := .ref a :: us) (vs := .ref a :: vs) F hr hb hd (hx σ) I2 (.cons rfl r) q2⟩) hst hpl

/-! ### {x} of an instance with an own __str__ -/
def tFmtO (C : Addr) (sp : Sp) (E : XK) (te : TE) : TE := fun σ H Q => te σ H fun x H1 => ∃ a dx fs, x = .ref a ∧ H1 a = some (.ins C dx fs) ∧ sp [.ref a] H1 (fun v H2 => ∃ z : Str, v = .str z ∧ Q (.str z) H2) E
theorem pe_fmtO {X : Cx} {CX : CXT} {n : Nat} {C f : Addr} {fd : FuncData} {ps : List Str} {sp : Sp} {E : XK} {e : Expr} {te : TE} {pos : Pos} (F : FnOk X.prog X.w X.K X.mg X.base CX n f fd ps sp) (hr : Room (n + 1) X.A) (hs : PySem.W.findIn X.K (.ref C) "__str__" = some (some (.ref f))) (hf : PySem.W.isFn X.K (.ref f) = true)
    (hfm : PySem.W.findIn X.K (.ref C) "__format__" = some (some (.builtin "object.__format__"))) (hm : PySem.W.mroIn X.K C (.type "object") = some true) (hb : Binds X.K fd ps []) (hx : Passes CX X E) (he : PE X e te) : PE X (.FormattedValue e (-1) none pos) (tFmtO C sp E te) := by
  refine ⟨fun pins s σ H Q I h => ?_⟩
  refine wpAny_FormattedValue_plain (thn (he.run pins s σ H _ I h) fun u s1 ⟨x, H1, I1, rx, a, dx, fs, ex, ea, q⟩ => ?_)
  subst ex
  obtain rfl : u = Value.ref a := rx
  obtain ⟨mA, O, _⟩ := ins_get I1.hok ea
  obtain ⟨od, J, _⟩ := O.look
  refine PySem.W.kfo_fieldS hr.in1.units0 I1.kIn J hfm hm hs hf (thn (at_fn F hr.in1 (I1.tok _).env0.in1 hb hx (I1.tok _) (vs := [.ref a]) (us := [.ref a]) (.cons rfl .nil) q) fun w s' z => ?_)
  obtain ⟨z', H', I', rz, y, ey, qz⟩ := z
  subst ey
  obtain ⟨t, et⟩ := (show ∃ t, w = Value.str y t from rz)
  cases et
  exact ⟨.str y, H', I', ⟨t, rfl⟩, qz⟩

/-! ### a dict of the written part, walked by its items -/
/-- the entries of a written dict, as they are told -/
def RowsE (es : Array DictEntry) (kvs : List (V × V)) : Prop := es.size = kvs.length ∧ ∀ i (h : i < es.size) k v, kvs[i]? = some (k, v) → RelV k es[i].key ∧ RelV v es[i].val
def Itw (kvs : List (V × V)) : It :=
  ⟨fun i _ => i < kvs.length, fun i H x H' => ∃ T k v, kvs[i]? = some (k, v) ∧ x = .ref T ∧ H T = none ∧ H' = upd H T (.tup [k, v]), fun i _ => kvs.length ≤ i⟩
theorem turn_written {P : Program} {w : World} {K : PySem.W.Frag} {d : Addr} {es : Array DictEntry} {ep : Nat} {kvs : List (V × V)} {elts : List Expr} {kk : Nat} {tpos : Pos} (it : Addr) (at_ : K.lookup d = some ⟨.type "dict", none, .dict es ep, #[]⟩) (R : RowsE es kvs) :
    Turn P w K (.Tuple elts kk tpos) (Itw kvs) [it] it (fun i h => ∃ ok ov, IsItemIter h it d i es.size ep ok ov) where
  mem := by simp
  obj := fun i h st b hb => by
    obtain rfl : b = it := by simpa using hb
    obtain ⟨ok, ov, e⟩ := st
    exact ⟨_, e, fun v z => nomatch z⟩
  keep := fun i h h' st k => let ⟨ok, ov, e⟩ := st; ⟨ok, ov, k it (by simp) _ e⟩
  item := by
    intro X hP hw hK hc i pins s σ H E I hf st hi
    subst hP hw hK
    obtain ⟨hz, hr⟩ := R
    have hi' : i < kvs.length := hi
    have hie : i < es.size := by omega
    obtain ⟨⟨k, v⟩, hkv⟩ : ∃ p, kvs[i]? = some p := ⟨kvs[i], List.getElem?_eq_getElem hi'⟩
    obtain ⟨rk, rv⟩ := hr i hie k v hkv
    obtain ⟨ok, ov, he⟩ := st
    have hraw : s.heap.DictRaw d es ep := ⟨_, I.kIn _ _ at_, ⟨rfl, rfl, rfl⟩, rfl⟩
    have hlt : it < s.heap.objs.size := Heap.lt_size he
    refine wpAny_pyNext_items_item_raw he hraw hie fun h' ho hT hz hk => ?_
    refine ⟨_, rfl, wpAny_letOwnedTupleGo_items (s := { s with heap := h' }) ho fun h'' he' sb => ?_⟩
    have hT2 : h''.get? s.heap.objs.size = some { cls := .type "tuple", data := .seq #[es[i].key, es[i].val] } := (sb.2 _ (Nat.ne_of_gt hlt)).trans hT
    have new : ObjOk X.prog X.w (upd H s.heap.objs.size (.tup [k, v])) h'' s.heap.objs.size (.tup [k, v]) :=
      ⟨by show 2 ≤ sizeLine; decide, [es[i].key, es[i].val], .cons rk (.cons rv .nil), ⟨_, hT2, rfl, _, rfl⟩⟩
    have I1 : Inv X pins σ (upd H s.heap.objs.size (.tup [k, v])) { s with heap := h'' } :=
      I.turnedNew (t' := s.toks) (ch := [it]) (fun b ob hb e => (sb.2 b (by simpa using hb)).trans (hk b ob (by simpa using hb) e)) hf (Nat.le_refl _) new
    refine ⟨.ref s.heap.objs.size, _, I1, rfl, ⟨_, k, v, hkv, rfl, I.hok.fresh (Nat.le_refl _), rfl⟩, ⟨es[i].key, es[i].val, he'⟩, fun b hb => ?_⟩
    obtain rfl : b = it := by simpa using hb
    rw [upd_ne (Nat.ne_of_lt hlt)]
    exact (hf b (by simp)).1
  done := by
    intro X hP hw hK hc i pins s σ H E I hf st hi
    subst hP hw hK
    obtain ⟨f0, f1, f2, f3, f4, f5⟩ := hf it (by simp)
    obtain ⟨ok, ov, he⟩ := st
    have hi' : kvs.length ≤ i := hi
    have hge : es.size ≤ i := by rw [R.1]; exact hi'
    have hraw : s.heap.DictRaw d es ep := ⟨_, I.kIn _ _ at_, ⟨rfl, rfl, rfl⟩, rfl⟩
    exact wpAny_pyNext_items_end_raw (I.ok.hd hc) he hraw hge fun h' eb => ⟨rfl, I.turned (t' := s.toks) (fun b ob hb e => eb b ob hb e) f0 f1 f3 f4 f5⟩
  self := fun A i s Q E st h => let ⟨_, _, e⟩ := st; PySem.W.kcp_self e h
def iWritten (kvs : List (V × V)) (d : Addr) (td : TE) : TI := fun σ H R => td σ H fun x H1 => x = .ref d ∧ R (Itw kvs) H1
theorem pi_written {X : Cx} {e : Expr} {td : TE} {apos cpos : Pos} {d : Addr} {es : Array DictEntry} {ep : Nat} {kvs : List (V × V)} {elts : List Expr} {kk : Nat} {tpos : Pos} (at_ : X.K.lookup d = some ⟨.type "dict", none, .dict es ep, #[]⟩) (hs : (d == sysModules) = false) (R : RowsE es kvs) (he : PE X e td)
    (hbase : attributeBase e "items" X.env (eval e X.env) = eval e X.env := by rfl) (hline : (apos.endLine == cpos.line) = true := by rfl) : PI X (.Tuple elts kk tpos) (.Call (.Attribute e "items" apos) [] [] cpos) (iWritten kvs d td) := by
  refine ⟨fun pins s σ H R0 I h => ?_⟩
  refine wpAny_Call_method (T := "dict") (id := "dict.items") hbase rfl hline F.plainAttrs_dict F.slot_dict_items F.type_dict_items (thn (he.run pins s σ H _ I h) fun u s1 ⟨x, H1, I1, rx, ex, q⟩ => ?_)
  subst ex
  obtain rfl : u = Value.ref d := rx
  have hraw : s1.heap.DictRaw d es ep := ⟨_, I1.kIn _ _ at_, ⟨rfl, rfl, rfl⟩, rfl⟩
  refine ⟨hraw.typeIs, ?_, ?_⟩
  · exact fun b q => by
      cases q
      exact ⟨_, I1.kIn _ _ at_, rfl⟩
  · have I2 : Inv X pins σ H1 { s1 with heap := s1.heap.push { cls := .type "dict_items", data := .fields #[.ref d] } } := I1.kept (t' := s1.toks) fun b ob q => Heap.get?_push_of_some _ q
    have fin : wpAny (model X.prog X.w) X.A (pyIter (.ref s1.heap.objs.size)) (PIE X pins σ (.Tuple elts kk tpos) R0) X.xe { s1 with heap := s1.heap.push { cls := .type "dict_items", data := .fields #[.ref d] } } :=
      wpAny_pyIter_items_raw (d := d) (es := es) (ep := ep) ⟨_, Heap.get?_push_size _ rfl, rfl, rfl⟩ (hraw.at fun o q => Heap.get?_push_of_some _ q) (pi_one (tk := s1.toks) I2 _ (turn_written _ at_ R) ⟨.none, .none, Heap.get?_push_size _ rfl⟩ q)
    show wpAny _ _ (callWith cpos (.builtin "dict.items") [.ref d] [] []) _ X.xe s1
    exact method_meetsIn F.slot_dict_items F.entry_dict_items rfl (PySem.evalArgs_none ⟨rfl, hraw.typeIs, F.args_dict_items_1 _, _, meets_dict_items_raw d hs, ⟨es, ep, hraw⟩, fin⟩)
theorem for_written {kvs : List (V × V)} {g : TG} {tb : TS} {D : Ends} {σ : L2.St} {H : Hp} (Pv : Nat → L2.St → Hp → Prop) (h0 : Pv 0 σ H)
    (hs : ∀ i k v σ H T H', kvs[i]? = some (k, v) → Pv i σ H → H T = none → Same H H' → H' T = some (.tup [k, v]) → g (.ref T) σ H' fun σ2 H2 => tb { D with nx := Pv (i + 1), ct := Pv (i + 1), bk := D.nx } σ2 H2) (hd : ∀ σ H, Pv kvs.length σ H → D.nx σ H) :
    ∃ W : Nat → Nat → L2.St → Hp → Prop, (∃ m, W 0 m σ H) ∧ ∀ i m σ H, W i m σ H →
      ((Itw kvs).stop i H ∧ D.nx σ H) ∨ ((Itw kvs).go i H ∧ ∃ N : L2.St → Hp → Prop, (∀ σ' H', N σ' H' → ∃ m', m' < m ∧ W (i + 1) m' σ' H') ∧ ∀ x H', (Itw kvs).yld i H x H' → g x σ H' fun σ2 H2 => tb { D with nx := N, ct := N, bk := D.nx } σ2 H2) := by
  refine ⟨fun i m σ H => m + i = kvs.length ∧ Pv i σ H, ⟨kvs.length, rfl, h0⟩, ?_⟩
  rintro i m σ H ⟨e, p⟩
  by_cases hlt : i < kvs.length
  · refine .inr ⟨hlt, Pv (i + 1), fun σ' H' p' => ⟨m - 1, by omega, by omega, p'⟩, fun x H' y => ?_⟩
    obtain ⟨T, k, v, hk, rfl, hn, rfl⟩ := y
    exact hs i k v σ H T _ hk p hn (same_upd hn) upd_same
  · obtain rfl : i = kvs.length := by omega
    exact .inl ⟨Nat.le_refl _, hd σ H p⟩
/-- the rows of a written dict, read off its entries -/
def rowsOk : List DictEntry → List (V × V) → Prop
  | [], [] => True
  | e :: es, p :: r => (RelV p.1 e.key ∧ RelV p.2 e.val) ∧ rowsOk es r
  | _, _ => False
theorem rowsOk_get : ∀ {es : List DictEntry} {r : List (V × V)}, rowsOk es r → es.length = r.length ∧ ∀ i (h : i < es.length) k v, r[i]? = some (k, v) → RelV k es[i].key ∧ RelV v es[i].val
  | [], [], _ => ⟨rfl, fun i h => absurd h (Nat.not_lt_zero _)⟩
  | e :: es, p :: r, ⟨h1, h2⟩ => ⟨congrArg (· + 1) (rowsOk_get h2).1, fun i h k v q => match i, h, q with
    | 0, _, q => by
      have z : p = (k, v) := Option.some.inj q
      subst z
      exact h1
    | i + 1, h, q => (rowsOk_get h2).2 i (Nat.lt_of_succ_lt_succ h) k v q⟩
theorem rowsE_of {es : Array DictEntry} {r : List (V × V)} (h : rowsOk es.toList r) : RowsE es r := by
  obtain ⟨l⟩ := es
  exact rowsOk_get (es := l) h

/-! ### divmod, append, by what the heap keeps -/
section
variable {X : Cx}
theorem call_divmodY : CallR X (.builtin "divmod") (fun xs H Q => ∃ i j, xs = [.int i, .int j] ∧ CDiv i j ∧ ∀ p H2, H p = none → Same H H2 → H2 p = some (.tup [.int (i / j), .int (i % j)]) → Q (.ref p) H2) :=
  fun pins s σ H xs us Q I r ⟨i, j, e, c, q⟩ => call_divmod pins s σ H xs us Q I r ⟨i, j, e, c, fun p hp => q p _ hp (same_upd hp) upd_same⟩
theorem mt_appendY : MtM X "list.append" (fun x vs H Q => ∃ l xs y, x = .ref l ∧ vs = [y] ∧ H l = some (.lst xs) ∧ xs.length < sizeLine ∧ ∀ H2, But l H H2 → H2 l = some (.lst (xs ++ [y])) → Q .non H2) :=
  fun pins s σ H x vs v us Q I rx rv ⟨l, xs, y, e1, e2, e3, e4, q⟩ => mt_append pins s σ H x vs v us Q I rx rv ⟨l, xs, y, e1, e2, e3, e4, q _ but_upd upd_same⟩
end
end Yarn

set_option Elab.async false
set_option linter.all false
set_option maxRecDepth 100000
set_option maxHeartbeats 4000000
namespace Yarn
open PySem PySem.Spec PyProof.Rows L2

/-! ### every second one of a list -/
def ev {α : Type} : List α → List α
  | [] => []
  | [a] => [a]
  | a :: _ :: r => a :: ev r
def od {α : Type} : List α → List α
  | [] => []
  | [_] => []
  | _ :: b :: r => b :: od r
theorem ev_range {α : Type} : ∀ xs : List α, (List.range ((xs.length + 1) / 2)).filterMap (fun k => xs[2 * k]?) = ev xs
  | [] => by simp [ev]
  | [a] => by simp [ev]
  | a :: b :: r => by
    have e : ((a :: b :: r).length + 1) / 2 = (r.length + 1) / 2 + 1 := by simp only [List.length_cons]; omega
    rw [e, List.range_succ_eq_map, List.filterMap_cons, List.filterMap_map]
    show a :: _ = a :: ev r
    rw [← ev_range r]
    congr 1
theorem od_range {α : Type} : ∀ xs : List α, (List.range (xs.length / 2)).filterMap (fun k => xs[1 + 2 * k]?) = od xs
  | [] => by simp [od]
  | [a] => by simp [od]
  | a :: b :: r => by
    have e : (a :: b :: r).length / 2 = r.length / 2 + 1 := by simp only [List.length_cons]; omega
    rw [e, List.range_succ_eq_map, List.filterMap_cons, List.filterMap_map]
    show b :: _ = b :: od r
    rw [← od_range r]
    congr 1
theorem range_by2 (st n : Nat) (h : st ≤ n) : sliceRange (st : Int) (n : Int) 2 = (List.range ((n - st + 1) / 2)).map fun k => st + 2 * k := by
  unfold sliceRange
  have c : (if (2 : Int) > 0 then (if (st : Int) < n then ((n : Int) - st + 2 - 1) / 2 else 0) else (if (st : Int) > n then ((st : Int) - n - 2 - 1) / (-2) else 0)).toNat = (n - st + 1) / 2 := by
    rw [if_pos (by decide)]
    by_cases hlt : (st : Int) < n
    · rw [if_pos hlt]; omega
    · rw [if_neg hlt]; omega
  dsimp only
  rw [c]
  refine List.map_congr_left fun k _ => ?_
  omega
theorem pick_ev (items : Array Value) : slicePick items none none (some 2) = (ev items.toList).toArray := by
  obtain ⟨l⟩ := items
  show ((sliceRange ((0 : Nat) : Int) (l.length : Int) 2).filterMap (fun k => l.toArray[k]?)).toArray = (ev l).toArray
  rw [range_by2 0 l.length (Nat.zero_le _), List.filterMap_map, ← ev_range l]
  have ef : (fun k => l.toArray[k]?) ∘ (fun k => 0 + 2 * k) = fun k => l[2 * k]? := funext fun k => by simp
  rw [ef, Nat.sub_zero]
theorem pick_od (items : Array Value) : slicePick items (some 1) none (some 2) = (od items.toList).toArray := by
  obtain ⟨l⟩ := items
  show ((sliceRange (max 0 (min 1 (l.length : Int))) (l.length : Int) 2).filterMap (fun k => l.toArray[k]?)).toArray = (od l).toArray
  cases l with
  | nil => rfl
  | cons a r =>
    have e : max 0 (min 1 ((a :: r).length : Int)) = ((1 : Nat) : Int) := by simp only [List.length_cons]; omega
    rw [e, range_by2 1 _ (by simp), List.filterMap_map, ← od_range (a :: r)]
    have ef : (fun k => (a :: r).toArray[k]?) ∘ (fun k => 1 + 2 * k) = fun k => (a :: r)[1 + 2 * k]? := funext fun k => by simp
    have e2 : ((a :: r).length - 1 + 1) / 2 = (a :: r).length / 2 := by simp
    rw [ef, e2]
theorem ev_vals : ∀ {xs : List V} {its : List Value}, Vals xs its → Vals (ev xs) (ev its)
  | _, _, .nil => .nil
  | _, _, .cons r .nil => .cons r .nil
  | _, _, .cons r (.cons _ t) => .cons r (ev_vals t)
theorem od_vals : ∀ {xs : List V} {its : List Value}, Vals xs its → Vals (od xs) (od its)
  | _, _, .nil => .nil
  | _, _, .cons _ .nil => .nil
  | _, _, .cons _ (.cons r t) => .cons r (od_vals t)
theorem ev_len {α : Type} : ∀ xs : List α, (ev xs).length ≤ xs.length
  | [] => Nat.le_refl _
  | [_] => Nat.le_refl _
  | _ :: _ :: r => by
    have := ev_len r
    simp only [ev, List.length_cons]
    omega
theorem od_len {α : Type} : ∀ xs : List α, (od xs).length ≤ xs.length
  | [] => Nat.le_refl _
  | [_] => Nat.zero_le _
  | _ :: _ :: r => by
    have := od_len r
    simp only [od, List.length_cons]
    omega
def tBy2 (K : PySem.W.Frag) (f : List V → List V) (te : TE) : TE := fun σ H Q => te σ H fun x H1 => ∃ a xs, x = .ref a ∧ SqL K H1 a xs ∧ ∀ p H2, H1 p = none → Same H1 H2 → H2 p = some (.lst (f xs)) → Q (.ref p) H2
section
variable {X : Cx} {e : Expr} {te : TE} {k k1 : Nat} {p1 p2 p3 pos : Pos}
theorem pe_ev (he : PE X e te) : PE X (.Subscript e (.Slice none none (some (.Constant (.int 2) k p1)) p3) pos) (tBy2 X.K ev te) := by
  refine ⟨fun pins s σ H Q I h => ?_⟩
  refine Subscript_ (thn (he.run pins s σ H _ I h) fun v s1 ⟨x, H1, I1, r1, a, xs, ex, hx, q⟩ => ?_)
  subst ex
  cases r1
  have hst : PO X (some (.Constant (.int 2) k p1)) _ := po_some pe_int
  refine wpAny_Slice (thn (po_none.run pins s1 σ H1 (fun o H2 => o = none ∧ H2 = H1) I1 ⟨rfl, rfl⟩) fun vl s2 ⟨l, H2, I2, pl, el, e2⟩ => ?_)
  subst el e2
  refine thn (po_none.run pins s2 σ H2 (fun o H3 => o = none ∧ H3 = H2) I2 ⟨rfl, rfl⟩) fun vu s3 ⟨u, H3, I3, pu, eu, e3⟩ => ?_
  subst eu e3
  refine thn (hst.run pins s3 σ H3 (fun o H4 => o = some 2 ∧ H4 = H3) I3 ⟨2, rfl, rfl, rfl⟩) fun vs s4 ⟨o, H4, I4, ps, eo, e4⟩ => ?_
  subst eo e4
  have I5 : Inv X pins σ H4 { s4 with heap := s4.heap.push { cls := .type "slice", data := .fields #[vl, vu, vs] } } := I4.kept (t' := s4.toks) fun b ob q => Heap.get?_push_of_some _ q
  obtain ⟨its, r, ht, hz⟩ := I5.list hx
  have hlen := r.length
  refine tail_any (ops := [.ref a, .ref s4.heap.objs.size]) ht.isList.typeIs (PySem.slot_list_getitem.lookup) ?_ (by with_unfolding_all rfl)
  refine wpAny_getItem_list_slice ht.isList (Heap.IsSliceOf.new _ vl vu vs) pl pu ps (by decide) ?_ (by rw [List.size_toArray]; omega)
  rw [pick_ev]
  have nn := I5.hok.fresh (Nat.le_refl _)
  refine ⟨.ref _, _, I5.laid (t' := s4.toks) (o := .lst (ev xs)) (fun b ob q => Heap.get?_push_of_some _ q) (Nat.le_refl _) ?_, rfl, q _ _ nn (same_upd nn) upd_same⟩
  exact ⟨Nat.le_trans (ev_len xs) hz, _, 0, ev_vals r, Heap.get?_push_size _ rfl⟩
theorem pe_od (he : PE X e te) : PE X (.Subscript e (.Slice (some (.Constant (.int 1) k1 p2)) none (some (.Constant (.int 2) k p1)) p3) pos) (tBy2 X.K od te) := by
  refine ⟨fun pins s σ H Q I h => ?_⟩
  refine Subscript_ (thn (he.run pins s σ H _ I h) fun v s1 ⟨x, H1, I1, r1, a, xs, ex, hx, q⟩ => ?_)
  subst ex
  cases r1
  have hst : PO X (some (.Constant (.int 2) k p1)) _ := po_some pe_int
  have hlo : PO X (some (.Constant (.int 1) k1 p2)) _ := po_some pe_int
  refine wpAny_Slice (thn (hlo.run pins s1 σ H1 (fun o H2 => o = some 1 ∧ H2 = H1) I1 ⟨1, rfl, rfl, rfl⟩) fun vl s2 ⟨l, H2, I2, pl, el, e2⟩ => ?_)
  subst el e2
  refine thn (po_none.run pins s2 σ H2 (fun o H3 => o = none ∧ H3 = H2) I2 ⟨rfl, rfl⟩) fun vu s3 ⟨u, H3, I3, pu, eu, e3⟩ => ?_
  subst eu e3
  refine thn (hst.run pins s3 σ H3 (fun o H4 => o = some 2 ∧ H4 = H3) I3 ⟨2, rfl, rfl, rfl⟩) fun vs s4 ⟨o, H4, I4, ps, eo, e4⟩ => ?_
  subst eo e4
  have I5 : Inv X pins σ H4 { s4 with heap := s4.heap.push { cls := .type "slice", data := .fields #[vl, vu, vs] } } := I4.kept (t' := s4.toks) fun b ob q => Heap.get?_push_of_some _ q
  obtain ⟨its, r, ht, hz⟩ := I5.list hx
  have hlen := r.length
  refine tail_any (ops := [.ref a, .ref s4.heap.objs.size]) ht.isList.typeIs (PySem.slot_list_getitem.lookup) ?_ (by with_unfolding_all rfl)
  refine wpAny_getItem_list_slice ht.isList (Heap.IsSliceOf.new _ vl vu vs) pl pu ps (by decide) ?_ (by rw [List.size_toArray]; omega)
  rw [pick_od]
  have nn := I5.hok.fresh (Nat.le_refl _)
  refine ⟨.ref _, _, I5.laid (t' := s4.toks) (o := .lst (od xs)) (fun b ob q => Heap.get?_push_of_some _ q) (Nat.le_refl _) ?_, rfl, q _ _ nn (same_upd nn) upd_same⟩
  exact ⟨Nat.le_trans (od_len xs) hz, _, 0, od_vals r, Heap.get?_push_size _ rfl⟩
end

/-! ### a written dict asked for any text -/
theorem ns_rows {K : PySem.W.Frag} {d : Addr} {es : Array DictEntry} {n : Nat} {z : Str} {r : List (Str × V)} (at_ : K.lookup d = some ⟨.type "dict", none, .dict es n, #[]⟩) (h : rowsOk es.toList (r.map fun p => (V.str p.1, p.2))) :
    (∃ v u, (z, v) ∈ r ∧ r.lookup z = some v ∧ PySem.W.nsIn K d z = some (some u) ∧ RelV v u) ∨ (r.lookup z = none ∧ PySem.W.nsIn K d z = some none) := by
  have key : ∀ (l : List DictEntry) (r : List (Str × V)), rowsOk l (r.map fun p => (V.str p.1, p.2)) →
      (∃ v e, (z, v) ∈ r ∧ r.lookup z = some v ∧ l.find? (·.key.isStr z) = some e ∧ RelV v e.val) ∨ (r.lookup z = none ∧ l.find? (·.key.isStr z) = none ∧ l.any (·.refKey) = false) := by
    intro l
    induction l with
    | nil =>
      intro r h
      cases r with
      | nil => exact .inr ⟨rfl, rfl, rfl⟩
      | cons p r => exact h.elim
    | cons e l ih =>
      intro r h
      cases r with
      | nil => exact h.elim
      | cons p r =>
        obtain ⟨⟨hk, hv⟩, ht⟩ := h
        obtain ⟨x, v⟩ := p
        obtain ⟨t, ek⟩ := (show ∃ t, e.key = Value.str x t from hk)
        by_cases hz : z = x
        · subst hz
          refine .inl ⟨v, e, List.mem_cons_self, by simp [List.lookup], ?_, hv⟩
          rw [List.find?_cons]
          have : e.key.isStr z = true := by rw [ek]; simp [Value.isStr]
          rw [this]
        · have hb : (z == x) = false := by simpa using hz
          have e1 : e.key.isStr z = false := by
            rw [ek]
            have : ¬ x = z := fun q => hz q.symm
            simp [Value.isStr, this]
          have e2 : ((x, v) :: r).lookup z = r.lookup z := by simp [List.lookup, hb]
          have e3 : e.refKey = false := by
            unfold DictEntry.refKey
            rw [ek]
          rw [e2, List.find?_cons, e1]
          rcases ih r ht with ⟨v', e', hm, hl, hf, hr⟩ | ⟨hl, hf, ha⟩
          · exact .inl ⟨v', e', List.mem_cons_of_mem _ hm, hl, hf, hr⟩
          · exact .inr ⟨hl, hf, by rw [List.any_cons, e3, ha]; rfl⟩
  unfold PySem.W.nsIn
  rw [at_]
  rcases key es.toList r h with ⟨v, e, hm, hl, hf, hr⟩ | ⟨hl, hf, ha⟩
  · refine .inl ⟨v, e.val, hm, hl, ?_, hr⟩
    simp only [hf]
  · refine .inr ⟨hl, ?_⟩
    simp only [hf, ha]
    rfl

/-! ### zip of two lists of any length -/
theorem for_zip2 {K : PySem.W.Frag} {a b : Addr} {xs ys : List V} {g : TG} {tb : TS} {D : Ends} {σ : L2.St} {H : Hp} (Pv : Nat → L2.St → Hp → Prop) (h0 : Pv 0 σ H) (hq : ∀ i σ H, Pv i σ H → SqL K H a xs ∧ SqL K H b ys)
    (hs : ∀ (i : Nat) (x y : V) (T : Addr) (σ : L2.St) (H H' : Hp), (xs.zip ys)[i]? = some (x, y) → Pv i σ H → H T = none → Same H H' → H' T = some (.tup [x, y]) → g (.ref T) σ H' fun σ2 H2 => tb { D with nx := Pv (i + 1), ct := Pv (i + 1), bk := D.nx } σ2 H2) (hd : ∀ σ H, Pv (xs.zip ys).length σ H → D.nx σ H) :
    ∃ W : Nat → Nat → L2.St → Hp → Prop, (∃ m, W 0 m σ H) ∧ ∀ i m σ H, W i m σ H →
      ((Itz K a b).stop i H ∧ D.nx σ H) ∨ ((Itz K a b).go i H ∧ ∃ N : L2.St → Hp → Prop, (∀ σ' H', N σ' H' → ∃ m', m' < m ∧ W (i + 1) m' σ' H') ∧ ∀ v H', (Itz K a b).yld i H v H' → g v σ H' fun σ2 H2 => tb { D with nx := N, ct := N, bk := D.nx } σ2 H2) := by
  have hz : (xs.zip ys).length = min xs.length ys.length := List.length_zip
  refine ⟨fun i m σ H => m + i = (xs.zip ys).length ∧ Pv i σ H, ⟨_, Nat.add_zero _, h0⟩, ?_⟩
  rintro i m σ H ⟨e, p⟩
  obtain ⟨qx, qy⟩ := hq i σ H p
  by_cases hlt : i < (xs.zip ys).length
  · have hx : i < xs.length := by omega
    have hy : i < ys.length := by omega
    refine .inr ⟨⟨xs, ys, xs[i], ys[i], qx, qy, List.getElem?_eq_getElem hx, List.getElem?_eq_getElem hy⟩, Pv (i + 1), fun σ' H' p' => ⟨m - 1, by omega, by omega, p'⟩, fun v H' y => ?_⟩
    obtain ⟨T, x, w, rfl, hn, rfl, e1, e2⟩ := y
    refine hs i x w T σ H _ ?_ p hn (same_upd hn) upd_same
    rw [List.getElem?_zip_eq_some]
    exact ⟨e1 xs qx, e2 ys qy⟩
  · obtain rfl : i = (xs.zip ys).length := by omega
    refine .inl ⟨⟨xs, ys, qx, qy, by omega⟩, hd σ H p⟩

/-! ### a def that may raise, called where it doesn't -/
theorem passF {X : Cx} : Passes (L2.CX X.prog X.w) X (fun _ _ _ => False) := fun _ _ _ _ _ _ _ c => by
  obtain ⟨_, _, _, _, _, _, _, _, _, _, _, _, z⟩ := c
  exact z.elim
theorem passT {X : Cx} {E : XK} (tk : Takes X (fun cls d _ H => E cls d H)) : Passes (L2.CX X.prog X.w) X E := fun p σ H s e s' I c => passes_call tk (fun _ _ _ _ h => h) p σ H s e s' I c
def rSplitY : V → List V → Hp → VK → Prop := fun x xs H Q => ∃ a b, x = .str a ∧ xs = [.str b] ∧ (b.length == 0) = false ∧ a.length + 2 ≤ sizeLine ∧ ∀ p H2, H p = none → Same H H2 → H2 p = some (.lst ((Txt.split a b).map V.str)) → Q (.ref p) H2
theorem mt_splitY {X : Cx} : MtR X "str.split" rSplitY :=
  fun pins s σ H x xs v us Q I rx rs ⟨a, b, e1, e2, e3, e4, q⟩ => mt_split pins s σ H x xs v us Q I rx rs ⟨a, b, e1, e2, e3, e4, fun p hp => q p _ hp (same_upd hp) upd_same⟩
theorem pe_splitY {X : Cx} {o e : Expr} {to te : TE} {apos pos : Pos} (ho : PE X o to) (he : PE X e te) (hs : starEach [e] X.env = [(false, eval e X.env)] := by rfl) (hbase : attributeBase o "split" X.env (eval o X.env) = eval o X.env := by rfl) (hline : (apos.endLine == pos.line) = true := by rfl) :
    PE X (.Call (.Attribute o "split" apos) [e] [] pos) (tM1 rSplitY to te) :=
  pe_m1 F.slot_str_split F.type_str_split mt_splitY ho he hs hbase hline
end Yarn

set_option Elab.async false
set_option linter.all false
set_option maxRecDepth 100000
set_option maxHeartbeats 4000000
namespace Yarn
open PySem PySem.Spec PyProof.Rows L2

/-! ### a number in units, as it is written -/
def num (k : Int) : Str := Str.ofString (toString k)
def units : List (Str × Int) := [("lb", 256), ("oz", 16), ("dr", 1)]
def go : List (Str × Int) → Int → List (Int × Str × Int)
  | [], _ => []
  | (u, c) :: r, l => if l / c > 0 then (l / c, u, c) :: go r (l % c) else go r (l % c)
def lef : List (Str × Int) → Int → Int
  | [], l => l
  | (_, c) :: r, l => lef r (l % c)
theorem go_snoc {u : Str} {c : Int} : ∀ (l : List (Str × Int)) (n : Int), go (l ++ [(u, c)]) n = go l n ++ (if lef l n / c > 0 then [(lef l n / c, u, c)] else [])
  | [], n => by
    show (if n / c > 0 then _ else _) = _
    unfold lef go
    split <;> rfl
  | (v, d) :: r, n => by
    show (if n / d > 0 then (n / d, v, d) :: go (r ++ [(u, c)]) (n % d) else go (r ++ [(u, c)]) (n % d)) = (if n / d > 0 then (n / d, v, d) :: go r (n % d) else go r (n % d)) ++ (if lef r (n % d) / c > 0 then [(lef r (n % d) / c, u, c)] else [])
    rw [go_snoc r]
    split <;> rfl
theorem lef_snoc {u : Str} {c : Int} : ∀ (l : List (Str × Int)) (n : Int), lef (l ++ [(u, c)]) n = lef l n % c
  | [], n => rfl
  | (v, d) :: r, n => lef_snoc r (n % d)
theorem lef_nn : ∀ (l : List (Str × Int)) (n : Int), (∀ p ∈ l, 0 < p.2) → 0 ≤ n → 0 ≤ lef l n
  | [], _, _, h => h
  | (v, d) :: r, n, hp, h => lef_nn r (n % d) (fun p hp' => hp p (List.mem_cons_of_mem _ hp')) (Int.emod_nonneg n (by have := hp (v, d) List.mem_cons_self; omega))
theorem lef_le : ∀ (l : List (Str × Int)) (n : Int), (∀ p ∈ l, 0 < p.2) → 0 ≤ n → lef l n ≤ n
  | [], _, _, h => Int.le_refl _
  | (v, d) :: r, n, hp, h => by
    have hd : 0 < d := hp (v, d) List.mem_cons_self
    have h1 := Int.emod_nonneg n (show d ≠ 0 by omega)
    have h2 : n % d ≤ n := by
      have h3 := Int.mul_ediv_add_emod n d
      have h4 : 0 ≤ d * (n / d) := Int.mul_nonneg (by omega) (Int.ediv_nonneg h (by omega))
      omega
    exact Int.le_trans (lef_le r (n % d) (fun p hp' => hp p (List.mem_cons_of_mem _ hp')) h1) h2
def tx (p : Int × Str × Int) : Str := num p.1 ++ " " ++ p.2.1
def orD : List (Int × Str × Int) → List (Int × Str × Int)
  | [] => [(0, "dr", 1)]
  | l => l
def cs (n : Int) : List (Int × Str × Int) := orD (go units n)
def writ (n : Int) : Str := Txt.join " " ((cs n).map tx)
theorem tx_zero : tx (0, "dr", 1) = "0 dr" := by decide +kernel
def one (k : Int) (u : Str) (c : Int) : List (Int × Str × Int) := if k > 0 then [(k, u, c)] else []
theorem go_form (n : Int) : go units n = one (n / 256) "lb" 256 ++ (one (n % 256 / 16) "oz" 16 ++ one (n % 256 % 16 / 1) "dr" 1) := by
  unfold units one
  simp only [go]
  split <;> split <;> split <;> rfl
def sumC (l : List (Int × Str × Int)) : Int := (l.map fun p => p.1 * p.2.2).sum
theorem sumC_nil : sumC [] = 0 := rfl
theorem sumC_cons {p : Int × Str × Int} {l : List (Int × Str × Int)} : sumC (p :: l) = p.1 * p.2.2 + sumC l := List.sum_cons
theorem sumC_app {a b : List (Int × Str × Int)} : sumC (a ++ b) = sumC a + sumC b := by
  induction a with
  | nil => rw [List.nil_append, sumC_nil, Int.zero_add]
  | cons p a ih => rw [List.cons_append, sumC_cons, sumC_cons, ih, Int.add_assoc]
theorem one_sum {k c : Int} {u : Str} (hk : 0 ≤ k) : sumC (one k u c) = k * c := by
  unfold one
  split
  · rw [sumC_cons, sumC_nil, Int.add_zero]
  · have : k = 0 := by omega
    rw [this, Int.zero_mul]
    rfl
theorem go_sum {n : Int} (h : 0 ≤ n) : sumC (go units n) = n := by
  rw [go_form, sumC_app, sumC_app, one_sum (by omega), one_sum (by omega), one_sum (by omega)]
  omega
theorem orD_sum (l : List (Int × Str × Int)) : sumC (orD l) = sumC l := by
  cases l with
  | nil => rfl
  | cons p l => rfl
theorem cs_sum {n : Int} (h : 0 ≤ n) : sumC (cs n) = n := (orD_sum _).trans (go_sum h)
def Good (p : Int × Str × Int) : Prop := 0 ≤ p.1 ∧ (p.2.1, p.2.2) ∈ units
theorem one_mem {k c : Int} {u : Str} {p : Int × Str × Int} (h : p ∈ one k u c) : p = (k, u, c) := by
  unfold one at h
  split at h
  · exact List.mem_singleton.mp h
  · cases h
theorem go_good {n : Int} (h : 0 ≤ n) : ∀ p ∈ go units n, Good p := by
  rw [go_form]
  intro p hp
  rcases List.mem_append.mp hp with z | z
  · rw [one_mem z]; exact ⟨by show 0 ≤ n / 256; omega, by show (("lb" : Str), (256 : Int)) ∈ units; decide +kernel⟩
  · rcases List.mem_append.mp z with z | z
    · rw [one_mem z]; exact ⟨by show 0 ≤ n % 256 / 16; omega, by show (("oz" : Str), (16 : Int)) ∈ units; decide +kernel⟩
    · rw [one_mem z]; exact ⟨by show 0 ≤ n % 256 % 16 / 1; omega, by show (("dr" : Str), (1 : Int)) ∈ units; decide +kernel⟩
theorem cs_good {n : Int} (h : 0 ≤ n) : ∀ p ∈ cs n, Good p := by
  have g := go_good h
  unfold cs
  cases e : go units n with
  | nil =>
    intro p hp
    rw [List.mem_singleton.mp hp]
    exact ⟨by show (0 : Int) ≤ 0; omega, by show (("dr" : Str), (1 : Int)) ∈ units; decide +kernel⟩
  | cons q l =>
    rw [e] at g
    exact g
theorem cs_ne (n : Int) : cs n ≠ [] := by
  unfold cs
  cases go units n with
  | nil => intro z; cases z
  | cons q l => intro z; cases z
/-- all but the first are small -/
theorem cs_tail {n : Int} {p : Int × Str × Int} {l : List (Int × Str × Int)} (h : 0 ≤ n) (e : cs n = p :: l) : ∀ q ∈ l, q.1 < 16 := by
  have low : ∀ q ∈ one (n % 256 / 16) "oz" 16 ++ one (n % 256 % 16 / 1) "dr" 1, q.1 < 16 := by
    intro q hq
    rcases List.mem_append.mp hq with z | z
    · rw [one_mem z]; show n % 256 / 16 < 16; omega
    · rw [one_mem z]; show n % 256 % 16 / 1 < 16; omega
  intro q hq
  unfold cs at e
  rw [go_form] at e
  generalize one (n % 256 / 16) "oz" 16 ++ one (n % 256 % 16 / 1) "dr" 1 = r at e low
  unfold one at e
  by_cases hb : n / 256 > 0
  · rw [if_pos hb] at e
    have e' : r = l := (List.cons.inj (show _ :: r = p :: l from e)).2
    rw [← e'] at hq
    exact low q hq
  · rw [if_neg hb, List.nil_append] at e
    cases r with
    | nil =>
      have e' : [] = l := (List.cons.inj (show _ :: [] = p :: l from e)).2
      rw [← e'] at hq
      cases hq
    | cons a r =>
      have e' : r = l := (List.cons.inj (show a :: r = p :: l from e)).2
      rw [← e'] at hq
      exact low q (List.mem_cons_of_mem _ hq)

/-! ### its words -/
def wds (l : List (Int × Str × Int)) : List Str := l.flatMap fun p => [num p.1, p.2.1]
theorem jcons (y a b : Str) (r : List Str) : Str.join y (a :: b :: r) = a ++ y ++ Str.join y (b :: r) := rfl
theorem join_pairs : ∀ l : List (Int × Str × Int), Str.join " " (l.map tx) = Str.join " " (wds l)
  | [] => rfl
  | [p] => rfl
  | p :: q :: r => by
    have ih := join_pairs (q :: r)
    show Str.join " " (tx p :: tx q :: r.map tx) = Str.join " " (num p.1 :: p.2.1 :: num q.1 :: q.2.1 :: wds r)
    rw [jcons, jcons, jcons]
    have ih' : Str.join " " (tx q :: r.map tx) = Str.join " " (num q.1 :: q.2.1 :: wds r) := ih
    rw [ih']
    unfold tx
    simp only [Str.append_assoc]
theorem num_tl {k : Int} (h : 0 ≤ k) : TL.tl (num k) = TL.numL k.toNat := by
  obtain ⟨m, rfl⟩ := Int.eq_ofNat_of_zero_le h
  exact TL.tl_num m
theorem unit_free : ∀ p ∈ units, (32 : Nat) ∉ TL.tl p.1 := by decide +kernel
theorem split_writ {n : Int} (h : 0 ≤ n) : Txt.split (writ n) " " = wds (cs n) := by
  have g := cs_good h
  unfold writ
  rw [TL.join_eq, join_pairs, ← TL.join_eq]
  refine TL.split_join (s := 32) (S := []) (by decide +kernel) (by decide +kernel) (fun z => ?_) fun w hw => ?_
  · cases e : cs n with
    | nil => exact cs_ne n e
    | cons p l =>
      rw [e] at z
      cases z
  · obtain ⟨p, hp, hw⟩ := List.mem_flatMap.mp hw
    obtain ⟨g1, g2⟩ := g p hp
    rcases List.mem_cons.mp hw with z | z
    · rw [z, num_tl g1]
      exact TL.numL_free (by omega)
    · rw [List.mem_singleton.mp z]
      exact unit_free _ g2
theorem ev_wds : ∀ l : List (Int × Str × Int), ev (wds l) = l.map fun p => num p.1
  | [] => rfl
  | p :: l => congrArg (num p.1 :: ·) (ev_wds l)
theorem od_wds : ∀ l : List (Int × Str × Int), od (wds l) = l.map fun p => p.2.1
  | [] => rfl
  | p :: l => congrArg (p.2.1 :: ·) (od_wds l)
theorem map_ev {α β : Type} (f : α → β) : ∀ l : List α, ev (l.map f) = (ev l).map f
  | [] => rfl
  | [_] => rfl
  | _ :: _ :: r => congrArg (f _ :: ·) (map_ev f r)
theorem map_od {α β : Type} (f : α → β) : ∀ l : List α, od (l.map f) = (od l).map f
  | [] => rfl
  | [_] => rfl
  | _ :: _ :: r => congrArg (f _ :: ·) (map_od f r)

/-! ### what is read of words -/
def fig (m : Str) : Bool := decide (m.length ≤ 12) && (Txt.isascii m && Txt.isdigit m)
def told : Int → List (Str × Str) → Option Int
  | a, [] => some a
  | a, (m, u) :: r => match units.lookup u with
    | none => none
    | some c => if fig m = true then told (a + (intText? m).getD 0 * c) r else none
theorem dig128 : ∀ c, c < 128 → Unicode.isDigit c = (decide (48 ≤ c) && decide (c ≤ 57)) := by decide +kernel
theorem fig_int {m : Str} (h : fig m = true) : ∃ v, intText? m = some v := by
  obtain ⟨h1, h2⟩ := Bool.and_eq_true_iff.mp h
  obtain ⟨h3, h4⟩ := Bool.and_eq_true_iff.mp h2
  have h1' : m.length ≤ 12 := of_decide_eq_true h1
  unfold Txt.isascii at h3
  unfold Txt.isdigit at h4
  obtain ⟨h5, h6⟩ := Bool.and_eq_true_iff.mp h4
  rw [← Array.all_toList, List.all_eq_true] at h3 h6
  have ha : NumText.AllDigits m.cps.toList := fun c hc => by
    have z := dig128 c (of_decide_eq_true (h3 c hc))
    rw [h6 c hc] at z
    obtain ⟨z1, z2⟩ := Bool.and_eq_true_iff.mp z.symm
    exact ⟨of_decide_eq_true z1, of_decide_eq_true z2⟩
  have hn : m.cps.toList ≠ [] := fun z => by
    have hl : 0 < m.length := of_decide_eq_true h5
    have : m.length = m.cps.toList.length := TL.len_tl m
    rw [z] at this
    simp at this
    omega
  exact ⟨_, PySem.intText_digits ha hn (by omega)⟩
theorem fig_num {k : Int} (h : 0 ≤ k) (hl : (num k).length ≤ 12) : fig (num k) = true ∧ intText? (num k) = some k := by
  obtain ⟨m, rfl⟩ := Int.eq_ofNat_of_zero_le h
  have et : (num (m : Int)).cps.toList = TL.numL m := TL.tl_num m
  have hd := TL.numL_digits m
  have hn := TL.numL_ne m
  have hlen : (num (m : Int)).length = (TL.numL m).length := by rw [TL.len_tl]; exact congrArg List.length et
  refine ⟨?_, TL.int_num (by omega)⟩
  unfold fig
  have a1 : Txt.isascii (num (m : Int)) = true := by
    unfold Txt.isascii
    rw [← Array.all_toList, et, List.all_eq_true]
    intro c hc
    have := hd c hc
    exact decide_eq_true (by omega)
  have a2 : Txt.isdigit (num (m : Int)) = true := by
    unfold Txt.isdigit
    rw [← Array.all_toList, et]
    have h0 : (num (m : Int)).length > 0 := by
      rw [hlen]
      exact List.length_pos_iff.mpr hn
    rw [decide_eq_true h0, Bool.true_and, List.all_eq_true]
    intro c hc
    have := hd c hc
    rw [dig128 c (by omega), decide_eq_true this.1, decide_eq_true this.2]
    rfl
  rw [decide_eq_true hl, a1, a2]
  rfl
theorem units_look : ∀ p ∈ units, units.lookup p.1 = some p.2 := by decide +kernel
theorem told_back : ∀ (l : List (Int × Str × Int)) (a : Int), (∀ p ∈ l, Good p ∧ (num p.1).length ≤ 12) → told a (l.map fun p => (num p.1, p.2.1)) = some (a + sumC l)
  | [], a, _ => by rw [sumC_nil, Int.add_zero]; rfl
  | p :: l, a, h => by
    obtain ⟨⟨g1, g2⟩, hl⟩ := h p List.mem_cons_self
    obtain ⟨f1, f2⟩ := fig_num g1 hl
    have lk : units.lookup p.2.1 = some p.2.2 := units_look _ g2
    show (match units.lookup p.2.1 with | none => none | some c => if fig (num p.1) = true then told (a + (intText? (num p.1)).getD 0 * c) (l.map fun (p : Int × Str × Int) => (num p.1, p.2.1)) else none) = _
    rw [lk]
    show (if fig (num p.1) = true then told (a + (intText? (num p.1)).getD 0 * p.2.2) (l.map fun (p : Int × Str × Int) => (num p.1, p.2.1)) else none) = _
    rw [f1, if_pos rfl, f2, told_back l _ fun q hq => h q (List.mem_cons_of_mem _ hq), sumC_cons]
    show some (a + p.1 * p.2.2 + sumC l) = some (a + (p.1 * p.2.2 + sumC l))
    rw [Int.add_assoc]
/-- what was written is read back, where the first number has no more than twelve figures -/
theorem told_writ {n : Int} {p : Int × Str × Int} {l : List (Int × Str × Int)} (h : 0 ≤ n) (e : cs n = p :: l) (hp : (num p.1).length ≤ 12) :
    told 0 ((ev (Txt.split (writ n) " ")).zip (od (Txt.split (writ n) " "))) = some n := by
  have g := cs_good h
  have t := cs_tail h e
  have z0 : ((cs n).map fun (p : Int × Str × Int) => num p.1).zip ((cs n).map fun (p : Int × Str × Int) => p.2.1) = ((cs n).map fun (p : Int × Str × Int) => (num p.1, p.2.1) : List (Str × Str)) := List.zip_map' ..
  rw [split_writ h, ev_wds, od_wds, z0]
  rw [told_back (cs n) 0 fun q hq => ⟨g q hq, ?_⟩, cs_sum h, Int.zero_add]
  rw [e] at hq
  rcases List.mem_cons.mp hq with z | z
  · rw [z]; exact hp
  · have h1 := t q z
    have h2 := (g q (by rw [e]; exact List.mem_cons_of_mem _ z)).1
    rw [TL.len_tl, num_tl h2]
    exact Nat.le_trans (TL.numL_len (k := 2) (by decide) (by show _ < 100; omega)) (by decide)
end Yarn
namespace Yarn
open PySem PySem.Spec PyProof.Rows L2
theorem go_len : ∀ (l : List (Str × Int)) (n : Int) {k : Nat}, l.length ≤ k → (go l n).length ≤ k
  | [], _, _, _ => Nat.zero_le _
  | (u, c) :: r, n, k, h => by
    show (if n / c > 0 then (n / c, u, c) :: go r (n % c) else go r (n % c)).length ≤ k
    have h' : r.length + 1 ≤ k := h
    have ih := go_len r (n % c) (k := k - 1) (by omega)
    split
    · rw [List.length_cons]; omega
    · omega
theorem cs_len (n : Int) : (cs n).length ≤ 3 := by
  have h := go_len units n (k := 3) (by decide)
  unfold cs
  cases e : go units n with
  | nil => decide
  | cons p l => rw [e] at h; exact h
theorem go_le {n : Int} (h : 0 ≤ n) : ∀ p ∈ cs n, p.1 ≤ n := by
  have hg : ∀ p ∈ go units n, p.1 ≤ n := by
    rw [go_form]
    intro p hp
    rcases List.mem_append.mp hp with z | z
    · rw [one_mem z]; show n / 256 ≤ n; omega
    · rcases List.mem_append.mp z with z | z
      · rw [one_mem z]; show n % 256 / 16 ≤ n; omega
      · rw [one_mem z]; show n % 256 % 16 / 1 ≤ n; omega
  unfold cs
  cases e : go units n with
  | nil =>
    intro p hp
    rw [List.mem_singleton.mp hp]
    exact h
  | cons q l =>
    rw [e] at hg
    exact hg
end Yarn
namespace Yarn
open PySem PySem.Spec PyProof.Rows L2
def prs (z : Str) : List (Str × Str) := (ev (Txt.split z " ")).zip (od (Txt.split z " "))
theorem mem_sum {l : List Str} {y : Str} (h : y ∈ l) : y.length ≤ (l.map (·.length)).sum := by
  induction l with
  | nil => cases h
  | cons a r ih =>
    rw [List.map_cons, List.sum_cons]
    rcases List.mem_cons.mp h with z | z
    · rw [z]; omega
    · have := ih z; omega
theorem ev_mem {α : Type} : ∀ {l : List α} {y : α}, y ∈ ev l → y ∈ l
  | [_], _, h => h
  | a :: b :: r, y, h => by
    rcases List.mem_cons.mp (show y ∈ a :: ev r from h) with z | z
    · rw [z]; exact List.mem_cons_self
    · exact List.mem_cons_of_mem _ (List.mem_cons_of_mem _ (ev_mem z))
theorem prs_len {z : Str} {i : Nat} {m u : Str} (h : (prs z)[i]? = some (m, u)) : m.length ≤ z.length + 1 := by
  have h1 := List.mem_of_getElem? h
  have h2 : m ∈ ev (Txt.split z " ") := (List.of_mem_zip h1).1
  have h3 := mem_sum (ev_mem h2)
  have h4 := PyProof.Rows.split_weight z " " (by decide +kernel)
  omega
theorem zip_prs (z : Str) : (ev ((Txt.split z " ").map V.str)).zip (od ((Txt.split z " ").map V.str)) = (prs z).map fun p => (V.str p.1, V.str p.2) := by
  rw [map_ev, map_od, List.zip_map]
  rfl
theorem told_drop {a : Int} {ps : List (Str × Str)} {i : Nat} {m u : Str} (h : ps[i]? = some (m, u)) : ps.drop i = (m, u) :: ps.drop (i + 1) := by
  obtain ⟨hi, e⟩ := List.getElem?_eq_some_iff.mp h
  rw [List.drop_eq_getElem_cons hi, e]
theorem told_no {a : Int} {m u : Str} {r : List (Str × Str)} (h : units.lookup u = none) : told a ((m, u) :: r) = none := by
  show (match units.lookup u with | none => none | some c => _) = _
  rw [h]
theorem told_bad {a c : Int} {m u : Str} {r : List (Str × Str)} (h : units.lookup u = some c) (hf : fig m = false) : told a ((m, u) :: r) = none := by
  show (match units.lookup u with | none => none | some c => if fig m = true then told (a + (intText? m).getD 0 * c) r else none) = _
  rw [h]
  show (if fig m = true then _ else none) = _
  rw [hf, if_neg Bool.false_ne_true]
theorem told_on {a c v : Int} {m u : Str} {r : List (Str × Str)} (h : units.lookup u = some c) (hf : fig m = true) (hv : intText? m = some v) : told a ((m, u) :: r) = told (a + v * c) r := by
  show (match units.lookup u with | none => none | some c => if fig m = true then told (a + (intText? m).getD 0 * c) r else none) = _
  rw [h]
  show (if fig m = true then told (a + (intText? m).getD 0 * c) r else none) = _
  rw [hf, if_pos rfl, hv]
  rfl
def unitV : List (Str × V) := [("lb", .int 256), ("oz", .int 16), ("dr", .int 1)]
theorem look_map {u : Str} : ∀ l : List (Str × Int), (l.map fun p => (p.1, V.int p.2)).lookup u = (l.lookup u).map V.int
  | [] => rfl
  | (x, c) :: r => by
    rw [List.map_cons]
    show (match u == x with | true => some (V.int c) | false => (r.map fun p => (p.1, V.int p.2)).lookup u) = (match u == x with | true => some c | false => r.lookup u).map V.int
    cases u == x with
    | true => rfl
    | false => exact look_map r
theorem unitV_look {u : Str} : unitV.lookup u = (units.lookup u).map V.int := look_map units
theorem units_small {u : Str} {c : Int} (h : units.lookup u = some c) : 0 < c ∧ c < 1000 := by
  have key : ∀ l : List (Str × Int), (∀ p ∈ l, 0 < p.2 ∧ p.2 < 1000) → l.lookup u = some c → 0 < c ∧ c < 1000 := by
    intro l
    induction l with
    | nil => intro _ z; cases z
    | cons p r ih =>
      intro hp z
      obtain ⟨x, d⟩ := p
      have z' : (match u == x with | true => some d | false => r.lookup u) = some c := z
      cases hx : u == x with
      | true =>
        rw [hx] at z'
        cases z'
        exact hp (x, c) List.mem_cons_self
      | false =>
        rw [hx] at z'
        exact ih (fun q hq => hp q (List.mem_cons_of_mem _ hq)) z'
  exact key units (by decide +kernel) h
end Yarn
namespace Yarn
open PySem PySem.Spec PyProof.Rows L2
theorem iteNS {a b : Str} {A B : Prop} (h1 : ¬ a = b → A) (h2 : a = b → B) : if (!decide (V.str a = V.str b)) = true then A else B :=
  iteND (fun h => h1 fun e => h (congrArg V.str e)) fun h => h2 (V.str.inj h)
theorem fig_len {m : Str} (h : fig m = true) : m.length ≤ 12 := of_decide_eq_true (Bool.and_eq_true_iff.mp h).1
end Yarn
namespace Yarn
open PySem PySem.Spec PyProof.Rows L2
theorem strs_can : ∀ ns : List Str, (∀ x ∈ ns, PyData.strOk x = true) → PyData.canLayAll0 (ns.map PyData.str) = true
  | [], _ => by simp [PyData.canLayAll0]
  | n :: ns, h => by simp [PyData.canLayAll0, PyData.canLay0, strs_can ns fun x hx => h x (List.mem_cons_of_mem _ hx), h n List.mem_cons_self]
theorem strs_depth : ∀ ns : List Str, PyData.depthAll (ns.map PyData.str) = 0
  | [] => by simp [PyData.depthAll]
  | n :: ns => by simp [PyData.depthAll, PyData.depth, strs_depth ns]
theorem shaped_strs {ns : List Str} (h : ∀ x ∈ ns, PyData.strOk x = true) : SeqAt.shaped (.list (ns.map PyData.str)) = true := by
  simp [SeqAt.shaped, PyData.canLay0, strs_can ns h, PyData.depth, strs_depth]
theorem dp_strs {K : PySem.W.Frag} {H : Hp} : ∀ ns : List Str, DpAll K H (ns.map V.str) (ns.map PyData.str)
  | [] => .nil
  | n :: ns => .cons (.str n) (dp_strs ns)
theorem iteNeS {ns : List Str} {A B : Prop} (h1 : ns ≠ [] → A) (h2 : ns = [] → B) : if (!PyData.eqv (.list (ns.map PyData.str)) (.list [])) = true then A else B := by
  cases ns with
  | nil => exact iteF (h2 rfl)
  | cons a r => exact iteT (h1 (by simp))
theorem emod_sub (l c : Int) : l - l / c * c = l % c := by rw [Int.emod_def, Int.mul_comm]
theorem strOk_of {x : Str} (h : ∀ c ∈ TL.tl x, c < 0x110000) : PyData.strOk x = true := by
  unfold PyData.strOk
  rw [← Array.all_toList, List.all_eq_true]
  intro c hc
  exact decide_eq_true (h c hc)
theorem units_low : ∀ p ∈ units, ∀ c ∈ TL.tl p.1, c < 0x110000 := by decide +kernel
theorem tx_ok {p : Int × Str × Int} (h : Good p) : PyData.strOk (tx p) = true := by
  refine strOk_of fun c hc => ?_
  unfold tx at hc
  rw [TL.tl_append, TL.tl_append, num_tl h.1] at hc
  rcases List.mem_append.mp hc with z | z
  · rcases List.mem_append.mp z with z | z
    · have := TL.numL_digits _ c z
      omega
    · have : c ∈ [32] := z
      rw [List.mem_singleton.mp this]
      decide
  · exact units_low _ h.2 c z
end Yarn
namespace Yarn
open PySem PySem.Spec PyProof.Rows L2
/-! ### which list the pen reads -/
def cellO : Option HO → Option V
  | some (.dK ((_, v) :: _)) => some v
  | _ => none
def penCell (H : Hp) (p : Addr) : Option V := cellO (H p)
theorem cell_same {H H' : Hp} {p : Addr} {n : Int} (s : Same H H') (P : Pen H p n) : penCell H' p = penCell H p := by
  obtain ⟨c, ns, a, l, h1, r⟩ := P.ex
  unfold penCell
  rw [s _ _ h1, h1]
theorem cell_upd {H : Hp} {p D : Addr} {o : HO} {xs : List V} {n : Int} (P : Pen H p n) (hD : H D = some (.lst xs)) : penCell (upd H D o) p = penCell H p := by
  obtain ⟨c, ns, a, l, h1, r⟩ := P.ex
  unfold penCell
  rw [upd_ne fun e => by rw [e, hD] at h1; cases h1]
theorem cell_old {H H' : Hp} {p mm : Addr} {n : Int} (P : Pen H p n) (nm : H mm = none) (e : penCell H' p = penCell H p) : penCell H' p ≠ some (.ref mm) := by
  obtain ⟨c, ns, a, l, h1, h2, r⟩ := P.ex
  rw [e]
  unfold penCell
  rw [h1]
  intro z
  have z' : some (V.ref c) = some (V.ref mm) := z
  cases z'
  rw [nm] at h2
  cases h2
theorem Pen.app {H H' : Hp} {p mm : Addr} {n : Int} {xs : List V} (P : Pen H p n) (hc : penCell H p ≠ some (.ref mm)) (hm : H mm = some (.lst xs)) (b : But mm H H') : Pen H' p n ∧ penCell H' p = penCell H p := by
  obtain ⟨c, ns, a, l, h1, h2, h3, h4, h5, h6⟩ := P.ex
  have hp : p ≠ mm := fun e => by rw [e, hm] at h1; cases h1
  have hcm : c ≠ mm := fun e => by
    apply hc
    unfold penCell
    rw [h1, e]
    rfl
  refine ⟨⟨c, ns, a, l, b _ _ hp h1, b _ _ hcm h2, h3, h4, h5, h6⟩, ?_⟩
  unfold penCell
  rw [b _ _ hp h1, h1]
def spDrawC : Sp := fun vs H Q _ => ∃ (p : Addr) (m n : Int), vs = [.ref p, .int m] ∧ Pen H p n ∧ n ≤ 2 ^ 60 ∧ 0 < m ∧ m ≤ 2 ^ 60 ∧
  ∀ (d : Int) (H' : Hp), 0 ≤ d → d < m → Pen H' p (n + 1) → But p H H' → Kp H H' → penCell H' p = penCell H p → Q (.int d) H'
def spNumberC : Sp := fun vs H Q _ => ∃ (p : Addr) (n : Int), vs = [.ref p] ∧ Pen H p n ∧ n ≤ 2 ^ 59 ∧
  ∀ (d : Int) (H' : Hp), 0 ≤ d → d < 10 ^ 15 → Pen H' p (n + 4) → But p H H' → Kp H H' → penCell H' p = penCell H p → Q (.int d) H'
end Yarn
namespace Yarn
open PySem PySem.Spec PyProof.Rows L2
def hits (l : List Int) (n : Int) (m : Nat) : Bool := decide (l[m]? = some n)
theorem cnt_shift {e : Nat → Bool} : ∀ (k i : Nat), cnt e (i + 1) k = cnt (fun m => e (m + 1)) i k
  | 0, _ => rfl
  | k + 1, i => by
    show (if e (i + 1) then 1 else 0) + cnt e (i + 1 + 1) k = (if e (i + 1) then 1 else 0) + cnt (fun m => e (m + 1)) (i + 1) k
    rw [cnt_shift k (i + 1)]
theorem cnt_hits (n : Int) : ∀ l : List Int, cnt (hits l n) 0 l.length = l.count n
  | [] => rfl
  | x :: l => by
    show (if hits (x :: l) n 0 then 1 else 0) + cnt (hits (x :: l) n) (0 + 1) l.length = _
    rw [cnt_shift]
    have e1 : (fun m => hits (x :: l) n (m + 1)) = hits l n := funext fun m => rfl
    rw [e1, cnt_hits n l, List.count_cons]
    unfold hits
    by_cases h : x = n
    · subst h; simp [Nat.add_comm]
    · simp [h]
theorem any_shift {e : Nat → Bool} : ∀ (k i : Nat), anyB e (i + 1) k = anyB (fun m => e (m + 1)) i k
  | 0, _ => rfl
  | k + 1, i => by
    show (e (i + 1) || anyB e (i + 1 + 1) k) = (e (i + 1) || anyB (fun m => e (m + 1)) (i + 1) k)
    rw [any_shift k (i + 1)]
theorem any_hits (n : Int) : ∀ l : List Int, anyB (hits l n) 0 l.length = decide (n ∈ l)
  | [] => by simp [anyB]
  | x :: l => by
    show (hits (x :: l) n 0 || anyB (hits (x :: l) n) (0 + 1) l.length) = _
    rw [any_shift]
    have e1 : (fun m => hits (x :: l) n (m + 1)) = hits l n := funext fun m => rfl
    rw [e1, any_hits n l]
    unfold hits
    by_cases h : x = n
    · subst h; simp
    · have h' : ¬ n = x := fun z => h z.symm
      simp [h, h']
theorem writ_zero : writ 0 = "0 dr" := by decide +kernel
end Yarn
namespace Yarn
open PySem PySem.Spec PyProof.Rows L2
theorem in_ints (n : Int) : ∀ l : List Int, inV (.int n) (l.map V.int) = decide (n ∈ l)
  | [] => by simp [inV]
  | x :: l => by
    have ih := in_ints n l
    unfold inV at ih ⊢
    rw [List.map_cons, List.any_cons, ih]
    by_cases h : n = x
    · subst h; simp [eqV]
    · have h' : ¬ x = n := fun z => h z.symm
      simp [eqV, h, h']
theorem flat_ints (l : List Int) : (l.map V.int).all flatV = true := by simp [flatV]
end Yarn

set_option Elab.async false
set_option linter.all false
set_option maxRecDepth 100000
set_option maxHeartbeats 4000000
namespace Yarn
open PySem PySem.Spec PyProof.Rows L2

/-! ### bounds of what is read -/
theorem digits_lt : ∀ (l : List Nat) (a : Nat), NumText.AllDigits l → l.foldl (fun acc c => acc * 10 + (c - 48)) a < (a + 1) * 10 ^ l.length
  | [], a, _ => by
    show a < (a + 1) * 10 ^ 0
    omega
  | c :: r, a, h => by
    have hc := h.head
    have ih := digits_lt r (a * 10 + (c - 48)) h.tail
    rw [List.foldl_cons]
    refine Nat.lt_of_lt_of_le ih ?_
    rw [List.length_cons, Nat.pow_succ, Nat.mul_comm (10 ^ r.length) 10, ← Nat.mul_assoc]
    exact Nat.mul_le_mul_right _ (by omega)
theorem fig_val {m : Str} (h : fig m = true) : ∃ v : Int, intText? m = some v ∧ 0 ≤ v ∧ v < 10 ^ 12 := by
  obtain ⟨h1, h2⟩ := Bool.and_eq_true_iff.mp h
  obtain ⟨h3, h4⟩ := Bool.and_eq_true_iff.mp h2
  have h1' : m.length ≤ 12 := of_decide_eq_true h1
  unfold Txt.isascii at h3
  unfold Txt.isdigit at h4
  obtain ⟨h5, h6⟩ := Bool.and_eq_true_iff.mp h4
  rw [← Array.all_toList, List.all_eq_true] at h3 h6
  have ha : NumText.AllDigits m.cps.toList := fun c hc => by
    have z := dig128 c (of_decide_eq_true (h3 c hc))
    rw [h6 c hc] at z
    obtain ⟨z1, z2⟩ := Bool.and_eq_true_iff.mp z.symm
    exact ⟨of_decide_eq_true z1, of_decide_eq_true z2⟩
  have el : m.length = m.cps.toList.length := TL.len_tl m
  have hn : m.cps.toList ≠ [] := fun z => by
    have hl : 0 < m.length := of_decide_eq_true h5
    rw [z] at el
    simp at el
    omega
  refine ⟨_, PySem.intText_digits ha hn (by omega), by omega, ?_⟩
  have hb := digits_lt m.cps.toList 0 ha
  have hp : (10 : Nat) ^ m.cps.toList.length ≤ 10 ^ 12 := Nat.pow_le_pow_right (by decide) (by omega)
  have hv : NumText.digitsVal m.cps.toList < 10 ^ 12 := by
    unfold NumText.digitsVal
    omega
  have e12 : ((10 ^ 12 : Nat) : Int) = (10 : Int) ^ 12 := by decide
  omega
theorem told_lt : ∀ (ps : List (Str × Str)) (a v : Int), told a ps = some v → 0 ≤ a → 0 ≤ v ∧ v ≤ a + ps.length * 10 ^ 15
  | [], a, v, h, h0 => by
    have e : a = v := Option.some.inj h
    subst e
    simp
    exact h0
  | (m, u) :: r, a, v, h, h0 => by
    cases hc : units.lookup u with
    | none =>
      rw [told_no hc] at h
      cases h
    | some c =>
      cases hf : fig m with
      | false =>
        rw [told_bad hc hf] at h
        cases h
      | true =>
        obtain ⟨w, hw, w0, w1⟩ := fig_val hf
        rw [told_on hc hf hw] at h
        obtain ⟨c0, c1⟩ := units_small hc
        have m0 : 0 ≤ w * c := Int.mul_nonneg w0 (by omega)
        have m1 : w * c ≤ 10 ^ 12 * c := Int.mul_le_mul_of_nonneg_right (by omega) (by omega)
        obtain ⟨v0, v1⟩ := told_lt r (a + w * c) v h (by omega)
        refine ⟨v0, ?_⟩
        rw [List.length_cons]
        have e : (((r.length + 1 : Nat) : Int)) * 10 ^ 15 = (r.length : Int) * 10 ^ 15 + 10 ^ 15 := by omega
        rw [e]
        omega
theorem prs_count (z : Str) : (prs z).length ≤ z.length + 1 := by
  unfold prs
  rw [List.length_zip]
  have h1 := ev_len (Txt.split z " ")
  have h2 := PyProof.Rows.split_weight z " " (by decide +kernel)
  omega
theorem told_big {z : Str} {v : Int} (h : told 0 (prs z) = some v) (hz : z.length ≤ 100000) : 0 ≤ v ∧ v < 10 ^ 30 := by
  obtain ⟨v0, v1⟩ := told_lt _ 0 v h (Int.le_refl _)
  have := prs_count z
  refine ⟨v0, ?_⟩
  have : ((prs z).length : Int) ≤ 100001 := by omega
  omega
end Yarn
namespace Yarn
open PySem PySem.Spec PyProof.Rows L2
section
variable {X : Cx}
theorem sl_listY : SlR X (rSlLY X.K) := fun pins s σ H x v vl vu lo hi sl Q I rx hs pl pu ⟨a, xs, e, h, q⟩ => sl_list pins s σ H x v vl vu lo hi sl Q I rx hs pl pu ⟨a, xs, e, h, fun p hp => q p _ hp (same_upd hp) upd_same⟩
theorem op_catY : OpR X (binaryOp .Add) (fun x y H Q => ∃ l b xs zs, x = .ref l ∧ y = .ref b ∧ H l = some (.lst xs) ∧ H b = some (.lst zs) ∧ xs.length + zs.length ≤ sizeLine ∧ ∀ p H2, H p = none → Same H H2 → H2 p = some (.lst (xs ++ zs)) → Q (.ref p) H2) :=
  fun pins s σ H x y v u Q I rx ry ⟨l, b, xs, zs, e1, e2, h1, h2, h3, q⟩ => op_cat pins s σ H x y v u Q I rx ry ⟨l, b, xs, zs, e1, e2, h1, h2, h3, fun p hp => q p _ hp (same_upd hp) upd_same⟩
theorem pe_revLY {e : Expr} {te : TE} {k : Nat} {p1 p2 p3 pos : Pos} (he : PE X e te) : PE X (.Subscript e (.Slice none none (some (.UnaryOp .USub (.Constant (.int 1) k p1) p2)) p3) pos) (tBy2 X.K List.reverse te) :=
  PE.weak (pe_revL (PE.cl he)) fun σ H Q q => ⟨_, q, fun x H1 ⟨a, xs, e, h, w⟩ => ⟨a, xs, e, h, fun p hp => w p _ hp (same_upd hp) upd_same⟩⟩
end
end Yarn
namespace Yarn
open PySem PySem.Spec PyProof.Rows L2
/-! ### signs -/
def Low (z : Str) : Prop := ∀ c ∈ TL.tl z, c < 128
theorem mem_join {y : Str} : ∀ {l : List Str} {x : Str} {c : Nat}, x ∈ l → c ∈ TL.tl x → c ∈ TL.tl (Str.join y l)
  | [a], x, c, hx, hc => by
    rw [List.mem_singleton.mp hx] at hc
    exact hc
  | a :: b :: r, x, c, hx, hc => by
    rw [jcons, TL.tl_append, TL.tl_append]
    rcases List.mem_cons.mp hx with z | z
    · rw [z] at hc
      exact List.mem_append_left _ (List.mem_append_left _ hc)
    · exact List.mem_append_right _ (mem_join z hc)
theorem low_split {z x : Str} (h : Low z) (hx : x ∈ Txt.split z " ") : Low x := fun c hc => h c (by
  have e := PySem.StrLaws.join_split z " "
  rw [← e]
  exact mem_join hx hc)
theorem prs_low {z : Str} {i : Nat} {m u : Str} (h : (prs z)[i]? = some (m, u)) (hl : Low z) : Low m :=
  low_split hl (ev_mem (List.of_mem_zip (List.mem_of_getElem? h)).1)
def isDig (c : Nat) : Bool := decide (48 ≤ c) && decide (c ≤ 57)
theorem occ_dig : ∀ c, c < 128 → (!(!(Builtin.Str.occurrences ("0123456789" : Str) ⟨#[c]⟩ 0 ("0123456789" : Str).length 1).isEmpty)) = !isDig c := by decide +kernel
theorem fig_low {m : Str} (hl : Low m) : fig m = (decide (m.length ≤ 12) && (decide (1 ≤ m.length) && (TL.tl m).all isDig)) := by
  have a1 : Txt.isascii m = true := by
    unfold Txt.isascii
    rw [← Array.all_toList, List.all_eq_true]
    exact fun c hc => decide_eq_true (hl c hc)
  have a2 : Txt.isdigit m = (decide (1 ≤ m.length) && (TL.tl m).all isDig) := by
    unfold Txt.isdigit
    rw [← Array.all_toList]
    congr 1
    have hc : ∀ c ∈ TL.tl m, Unicode.isDigit c = isDig c := fun c hc => dig128 c (hl c hc)
    refine Bool.eq_iff_iff.mpr ⟨fun h => List.all_eq_true.mpr fun c hm => ?_, fun h => List.all_eq_true.mpr fun c hm => ?_⟩
    · rw [← hc c hm]
      exact List.all_eq_true.mp h c hm
    · rw [hc c hm]
      exact List.all_eq_true.mp h c hm
  unfold fig
  rw [a1, a2, Bool.true_and]
def szD : List (Key × V) := [(Sum.inr "lb", .int 256), (Sum.inr "oz", .int 16), (Sum.inr "dr", .int 1)]
theorem sz_merge : mergeK [] szD = szD := by decide +kernel
theorem lc_strY {m : Str} {g : TG} {tt : TT} {te : TE} {vs : List Nat} {σ : L2.St} {H1 : Hp} {D : Addr} {Qd : Hp → Prop} (Pv : Nat → Hp → Prop) (h0 : Pv 0 (upd H1 D (.lst [])))
    (hs : ∀ i c H, m.cps[i]? = some c → Pv i H → g (.str ⟨#[c]⟩) (wipe σ vs) H fun σ2 H2 => wipe σ2 vs = wipe σ vs ∧ tt σ2 H2 fun b H3 =>
      if b = true then te σ2 H3 fun y H4 => ∃ acc, H4 D = some (.lst acc) ∧ acc.length < sizeLine ∧ Pv (i + 1) (upd H4 D (.lst (acc ++ [y]))) else Pv (i + 1) H3) (hd : ∀ H, Pv m.cps.size H → Qd H) :
    ∃ W : Nat → Nat → Hp → Prop, (∃ n, W 0 n (upd H1 D (.lst []))) ∧ ∀ i n H, W i n H →
      ((Its m).stop i H ∧ Qd H) ∨ ((Its m).go i H ∧ ∃ Nx : Hp → Prop, (∀ H', Nx H' → ∃ n', n' < n ∧ W (i + 1) n' H') ∧ ∀ x H', (Its m).yld i H x H' → g x (wipe σ vs) H' fun σ2 H2 => wipe σ2 vs = wipe σ vs ∧ tt σ2 H2 fun b H3 =>
        if b = true then te σ2 H3 fun y H4 => ∃ acc, H4 D = some (.lst acc) ∧ acc.length < sizeLine ∧ Nx (upd H4 D (.lst (acc ++ [y]))) else Nx H3) := by
  refine ⟨fun i n H => n + i = m.cps.size ∧ Pv i H, ⟨m.cps.size, rfl, h0⟩, ?_⟩
  rintro i n H ⟨e, p⟩
  by_cases hlt : i < m.cps.size
  · refine .inr ⟨hlt, Pv (i + 1), fun H' p' => ⟨n - 1, by omega, by omega, p'⟩, fun x H' y => ?_⟩
    obtain ⟨rfl, c, hc, rfl⟩ := y
    exact hs i c _ hc p
  · obtain rfl : i = m.cps.size := by omega
    exact .inl ⟨Nat.le_refl _, hd H p⟩
theorem sz_val {u : Str} : valV szD (Sum.inr u) = (units.lookup u).map V.int := by
  have key : ∀ l : List (Str × Int), valV (l.map fun p => ((Sum.inr p.1 : Key), V.int p.2)) (Sum.inr u) = (l.lookup u).map V.int := by
    intro l
    induction l with
    | nil => rfl
    | cons p r ih =>
      obtain ⟨x, c⟩ := p
      rw [List.map_cons]
      by_cases h : x = u
      · subst h
        rw [show valV (((Sum.inr x : Key), V.int c) :: r.map fun p => ((Sum.inr p.1 : Key), V.int p.2)) (Sum.inr x) = some (V.int c) from valV_pos rfl]
        simp [List.lookup]
      · have hb : (u == x) = false := by
          have : ¬ u = x := fun z => h z.symm
          simpa using this
        have e2 : ((x, c) :: r).lookup u = r.lookup u := by simp [List.lookup, hb]
        rw [e2, ← ih]
        exact valV_neg (fun z => h (Sum.inr.inj z))
  exact key units
theorem all_dig {l : List Nat} (h : (l.filter fun c => !isDig c) = []) : l.all isDig = true := by
  rw [List.all_eq_true]
  intro c hc
  cases hd : isDig c with
  | true => rfl
  | false =>
    have : c ∈ l.filter fun c => !isDig c := List.mem_filter.mpr ⟨hc, by rw [hd]; rfl⟩
    rw [h] at this
    cases this
theorem not_dig {l : List Nat} (h : (l.filter fun c => !isDig c) ≠ []) : l.all isDig = false := by
  cases e : l.all isDig with
  | false => rfl
  | true =>
    refine absurd ?_ h
    rw [List.filter_eq_nil_iff]
    intro c hc
    rw [List.all_eq_true.mp e c hc]
    simp
def ch (c : Nat) : Str := ⟨#[c]⟩
theorem take_cps {m : Str} {i c : Nat} (h : m.cps[i]? = some c) : (TL.tl m).take (i + 1) = (TL.tl m).take i ++ [c] := take_more (by
  show m.cps.toList[i]? = some c
  rw [Array.getElem?_toList]
  exact h)
end Yarn
namespace Yarn
open PySem PySem.Spec PyProof.Rows L2
theorem low_app {x y : Str} (hx : Low x) (hy : Low y) : Low (x ++ y) := fun c hc => by
  rw [TL.tl_append] at hc
  rcases List.mem_append.mp hc with z | z
  · exact hx c z
  · exact hy c z
theorem low_join {y : Str} (hy : Low y) : ∀ {l : List Str}, (∀ x ∈ l, Low x) → Low (Txt.join y l) := by
  intro l h
  rw [TL.join_eq]
  induction l with
  | nil => intro c hc; cases hc
  | cons a r ih =>
    cases r with
    | nil => exact h a List.mem_cons_self
    | cons b r =>
      rw [jcons]
      exact low_app (low_app (h a List.mem_cons_self) hy) (ih fun x hx => h x (List.mem_cons_of_mem _ hx))
theorem low_sp : Low " " := by unfold Low; decide +kernel
theorem units_low128 : ∀ p ∈ units, Low p.1 := by unfold Low; decide +kernel
theorem low_writ {n : Int} (h : 0 ≤ n) : Low (writ n) := by
  refine low_join low_sp fun x hx => ?_
  obtain ⟨q, hq, rfl⟩ := List.mem_map.mp hx
  obtain ⟨g1, g2⟩ := cs_good h q hq
  refine low_app (low_app (fun c hc => ?_) low_sp) (units_low128 _ g2)
  rw [num_tl g1] at hc
  have := TL.numL_digits _ c hc
  omega
theorem low_repr {z : Str} (h : Low z) (hl : z.length ≤ 80000) : (reprText z).length ≤ 900000 := by
  have := PySem.StrLaws.reprText_len z fun c hc => Nat.lt_of_lt_of_le (h c hc) (by decide)
  omega
def bnd : Nat → Nat
  | 0 => 2000
  | 1 => 11000
  | _ => 38000
theorem bnd_le (j : Nat) : bnd j ≤ 38000 := by
  match j with
  | 0 => decide
  | 1 => decide
  | j + 2 => exact Nat.le_refl _
theorem bnd_low {j : Nat} (h : j < 2) : bnd j ≤ 11000 ∧ 3 * bnd j + 5000 ≤ bnd (j + 1) := by
  match j, h with
  | 0, _ => decide
  | 1, _ => decide
theorem text_field (v : V) : List.lookup ("text" : Str) [(("text" : Str), v)] = some v := by simp [List.lookup]
end Yarn
namespace Yarn
open PySem PySem.Spec PyProof.Rows L2
/-! ### pieces -/
theorem low_cut {z : Str} (h : Low z) (lo hi : Option Int) : Low (cutS z lo hi) := fun c hc => h c (by
  have hc' : c ∈ (z.cps.toList.drop (HT.sIx z.length 0 lo)).take (HT.sIx z.length z.length hi - HT.sIx z.length 0 lo) := hc
  exact List.mem_of_mem_drop (List.mem_of_mem_take hc'))
/-- the weight of words: their signs and one each -/
def wt (l : List Str) : Nat := (l.map (·.length)).sum + l.length
theorem wt_app (a b : List Str) : wt (a ++ b) = wt a + wt b := by
  unfold wt
  rw [List.map_append, List.sum_append, List.length_append]
  omega
theorem wt_rev (a : List Str) : wt a.reverse = wt a := by
  unfold wt
  rw [List.map_reverse, List.sum_reverse, List.length_reverse]
theorem cut_words (ws : List Str) (lo hi : Option Int) : ∃ us : List Str, cutV (ws.map V.str) lo hi = us.map V.str ∧ (∀ x ∈ us, x ∈ ws) ∧ wt us ≤ wt ws := by
  refine ⟨(ws.drop (HT.sIx (ws.map V.str).length 0 lo)).take (HT.sIx (ws.map V.str).length (ws.map V.str).length hi - HT.sIx (ws.map V.str).length 0 lo), ?_, ?_, ?_⟩
  · unfold cutV
    rw [List.map_take, List.map_drop]
  · exact fun x hx => List.mem_of_mem_drop (List.mem_of_mem_take hx)
  · generalize HT.sIx (ws.map V.str).length 0 lo = i
    generalize HT.sIx (ws.map V.str).length (ws.map V.str).length hi - i = j
    have h1 : wt ws = wt (ws.take i) + wt (ws.drop i) := by rw [← wt_app, List.take_append_drop]
    have h2 : wt (ws.drop i) = wt ((ws.drop i).take j) + wt ((ws.drop i).drop j) := by rw [← wt_app, List.take_append_drop]
    omega
theorem join_wt (l : List Str) : (Txt.join " " l).length ≤ wt l := by
  rw [TL.join_eq]
  cases l with
  | nil => exact Nat.zero_le _
  | cons a r =>
    rw [PyProof.Rows.len_join_cons]
    have e1 : (" " : Str).length = 1 := by decide +kernel
    unfold wt
    rw [e1, List.length_cons]
    omega
theorem split_wt (z : Str) : wt (Txt.split z " ") ≤ z.length + 1 := PyProof.Rows.split_weight z " " (by decide +kernel)
def Gd (B : Nat) (v : V) : Prop := ∃ y : Str, v = .str y ∧ y.length ≤ B ∧ Low y
theorem lit_low (x : Str) (h : (TL.tl x).all (fun c => decide (c < 128)) = true) : Low x := fun c hc => of_decide_eq_true (List.all_eq_true.mp h c hc)
theorem split_ne (z : Str) : Txt.split z " " ≠ [] ∨ z = Str.empty := by
  by_cases h : Txt.split z " " = []
  · refine .inr ?_
    have e := PySem.StrLaws.join_split z " "
    rw [h] at e
    exact e.symm
  · exact .inl h
end Yarn
namespace Yarn
open PySem PySem.Spec PyProof.Rows L2
theorem op_mulS {X : Cx} : OpR X (binaryOp .Mult) (fun x y H Q => ∃ z n, x = .str z ∧ y = .int n ∧ MulOk z n ∧ Q (.str (Txt.mul z n)) H) := by
  intro pins s σ H x y v u Q I rx ry h
  obtain ⟨z, n, rfl, rfl, hc, q⟩ := h
  obtain ⟨t, rfl⟩ := rx
  obtain ⟨t', rfl⟩ := ry
  exact PySem.SB.mul hc fun t2 k => ⟨.str _, H, I.tok k, ⟨t2, rfl⟩, q⟩
theorem fold_rep (a : Array Nat) : ∀ (k : Nat) (acc : Array Nat), ((List.replicate k a).foldl (· ++ ·) acc).size = acc.size + k * a.size ∧ ∀ c ∈ ((List.replicate k a).foldl (· ++ ·) acc).toList, c ∈ acc.toList ∨ c ∈ a.toList
  | 0, acc => ⟨by simp, fun c h => .inl h⟩
  | k + 1, acc => by
    obtain ⟨h1, h2⟩ := fold_rep a k (acc ++ a)
    rw [List.replicate_succ, List.foldl_cons]
    refine ⟨by rw [h1, Array.size_append, Nat.add_mul]; omega, fun c hc => ?_⟩
    rcases h2 c hc with z | z
    · rw [Array.toList_append] at z
      exact List.mem_append.mp z
    · exact .inr z
def LL (b : Nat) (x : Str) : Prop := x.length ≤ b ∧ Low x
theorem LL.app {a b : Nat} {x y : Str} (hx : LL a x) (hy : LL b y) : LL (a + b) (x ++ y) := ⟨by rw [str_len]; exact Nat.add_le_add hx.1 hy.1, low_app hx.2 hy.2⟩
theorem nines : LL 4400 (Txt.mul "9" 4400) := by
  have e : Txt.mul "9" 4400 = ⟨(List.replicate 4400 ("9" : Str).cps).foldl (· ++ ·) #[]⟩ := rfl
  obtain ⟨h1, h2⟩ := fold_rep ("9" : Str).cps 4400 #[]
  rw [e]
  refine ⟨?_, fun c hc => ?_⟩
  · show ((List.replicate 4400 ("9" : Str).cps).foldl (· ++ ·) #[]).size ≤ 4400
    rw [h1]
    have : ("9" : Str).cps.size = 1 := by decide +kernel
    rw [this]
    decide
  · rcases h2 c hc with z | z
    · cases z
    · exact lit_low "9" (by decide +kernel) c z
theorem nines_ok : MulOk "9" 4400 := ⟨by decide, fun _ _ => by decide +kernel, fun _ _ => by decide +kernel⟩
theorem cat_ok {x y : Str} {a b : Nat} (hx : LL a x) (hy : LL b y) (h : a + b ≤ 1000000) : x.length + y.length ≤ sizeLine := line_big (Nat.le_trans (Nat.add_le_add hx.1 hy.1) h)
theorem rIxS_low {S : Str} {i : Int} {H : Hp} {Q : VK} (hS : Low S) (h0 : 0 ≤ i) (h1 : i < (S.length : Int)) (hz : S.length ≤ sizeLine) (h : ∀ c, c < 128 → Q (.str ⟨#[c]⟩) H) : rIxS (.str S) (.int i) H Q := by
  obtain ⟨j, rfl⟩ := Int.eq_ofNat_of_zero_le h0
  have hj : j < S.cps.toList.length := by
    have : S.length = S.cps.toList.length := TL.len_tl S
    omega
  exact ⟨S, j, S.cps.toList[j], rfl, rfl, hz, atI_nat (List.getElem?_eq_getElem hj), h _ (hS _ (List.getElem_mem hj))⟩
theorem ll_ch {c : Nat} (h : c < 128) : LL 1 ⟨#[c]⟩ := ⟨Nat.le_refl _, fun d hd => by
  have : d ∈ [c] := hd
  rw [List.mem_singleton.mp this]
  exact h⟩
theorem words_pos (z : Str) : 0 < (Txt.split z " ").length := by
  rcases split_ne z with h | h
  · exact List.length_pos_iff.mpr h
  · subst h
    decide +kernel
theorem Gd.of {b B : Nat} {x : Str} (h : LL b x) (hb : b ≤ B) : Gd B (.str x) := ⟨x, rfl, Nat.le_trans h.1 hb, h.2⟩
theorem Gd.lit {B : Nat} {x : Str} (h : (decide (x.length ≤ 1000) && (TL.tl x).all (fun c => decide (c < 128))) = true) (hB : 1000 ≤ B) : Gd B (.str x) := by
  obtain ⟨h1, h2⟩ := Bool.and_eq_true_iff.mp h
  exact ⟨x, rfl, Nat.le_trans (of_decide_eq_true h1) hB, lit_low x h2⟩
theorem gd_join {B : Nat} {l ws : List Str} (hl : ∀ x ∈ l, x ∈ ws) (hw : ∀ x ∈ ws, Low x) (h : wt l ≤ B) : Gd B (.str (Txt.join " " l)) := ⟨_, rfl, Nat.le_trans (join_wt l) h, low_join low_sp fun x hx => hw x (hl x hx)⟩
theorem wt_fits {l : List Str} {n : Nat} (h : wt l ≤ n) (hn : n ≤ 1000000) : (l.map (·.length)).sum + l.length * (" " : Str).length ≤ 16777216 := by
  have e1 : (" " : Str).length = 1 := by decide +kernel
  rw [e1, Nat.mul_one]
  have : wt l = (l.map (·.length)).sum + l.length := rfl
  omega
end Yarn
namespace Yarn
open PySem PySem.Spec PyProof.Rows L2
/-- a growing list of texts at D, made behind the heap H0 -/
structure Acc (H0 H : Hp) (p D : Addr) (n : Int) (B m : Nat) : Prop where
  nD : H0 D = none
  s : Same H0 H
  P : Pen H p n
  c : penCell H p ≠ some (.ref D)
  x : ∃ xs, H D = some (.lst xs) ∧ (∀ v ∈ xs, Gd B v) ∧ xs.length = m
theorem Acc.same {H0 H H' : Hp} {p D : Addr} {n : Int} {B m : Nat} (A : Acc H0 H p D n B m) (s : Same H H') : Acc H0 H' p D n B m :=
  ⟨A.nD, A.s.trans s, A.P.same s, by rw [cell_same s A.P]; exact A.c, let ⟨xs, h, r⟩ := A.x; ⟨xs, s _ _ h, r⟩⟩
theorem Acc.new {H0 H : Hp} {p D : Addr} {n : Int} {B : Nat} {xs : List V} (P : Pen H0 p n) (nD : H0 D = none) (s : Same H0 H) (e : H D = some (.lst xs)) (g : ∀ v ∈ xs, Gd B v) : Acc H0 H p D n B xs.length :=
  ⟨nD, s, P.same s, cell_old P nD (cell_same s P), xs, e, g, rfl⟩
theorem Acc.put {H0 H H' : Hp} {p D : Addr} {n : Int} {B m : Nat} {xs : List V} {v : V} (A : Acc H0 H p D n B m) (hx : H D = some (.lst xs)) (hv : Gd B v) (b : But D H H') (e : H' D = some (.lst (xs ++ [v]))) : Acc H0 H' p D n B (m + 1) := by
  obtain ⟨ys, h1, h2, h3⟩ := A.x
  rw [hx] at h1
  cases h1
  obtain ⟨P', g'⟩ := A.P.app A.c hx b
  refine ⟨A.nD, same_new A.nD A.s b, P', by rw [g']; exact A.c, _, e, fun w hw => ?_, by rw [List.length_append, h3]; rfl⟩
  rcases List.mem_append.mp hw with z | z
  · exact h2 w z
  · rw [List.mem_singleton.mp z]; exact hv
theorem Acc.cat {H0 H H' : Hp} {p D D' : Addr} {n : Int} {B m : Nat} {xs zs : List V} (A : Acc H0 H p D n B m) (hx : H D = some (.lst xs)) (hz : ∀ v ∈ zs, Gd B v) (n' : H D' = none) (s : Same H H') (e : H' D' = some (.lst (xs ++ zs))) : Acc H0 H' p D' n B (m + zs.length) := by
  obtain ⟨ys, h1, h2, h3⟩ := A.x
  rw [hx] at h1
  cases h1
  refine ⟨?_, A.s.trans s, A.P.same s, cell_old A.P n' (cell_same s A.P), _, e, fun w hw => ?_, by rw [List.length_append, h3]⟩
  · cases h : H0 D' with
    | none => rfl
    | some o =>
      rw [A.s _ _ h] at n'
      cases n'
  · rcases List.mem_append.mp hw with z | z
    · exact h2 w z
    · exact hz w z
end Yarn

set_option Elab.async false
set_option linter.all false
set_option maxRecDepth 100000
set_option maxHeartbeats 4000000
namespace Yarn
open PySem PySem.Spec PyProof.Rows L2

/-! ### shapes: what a value is, all the way down -/
inductive Sh where
  | non | bl (b : Bool) | int (i : Int) | str (x : Str)
  | lst (xs : List Sh) | tup (xs : List Sh)
  | obj (C : Addr) (fs : List (Str × Sh)) | dct (kvs : List (Key × Sh))

def NotPen : HO → Prop
  | .dK kvs => ∀ c a l, kvs ≠ penD c a l
  | _ => True

/-- all but pens stays; pens go on by n draws at most -/
structure Ext (n : Nat) (H H' : Hp) : Prop where
  keep : ∀ a o, NotPen o → H a = some o → H' a = some o
  pen : ∀ p c a l, H p = some (.dK (penD c a l)) → ∃ a' l', H' p = some (.dK (penD c a' l')) ∧ (0 ≤ a → 0 ≤ l → 0 ≤ a' ∧ a' ≤ a + n ∧ 0 ≤ l')
theorem Ext.refl (H : Hp) : Ext 0 H H := ⟨fun _ _ _ h => h, fun p c a l h => ⟨a, l, h, fun h1 h2 => ⟨h1, by omega, h2⟩⟩⟩
theorem Ext.trans {n m : Nat} {H H1 H2 : Hp} (x : Ext n H H1) (y : Ext m H1 H2) : Ext (n + m) H H2 :=
  ⟨fun a o no h => y.keep a o no (x.keep a o no h), fun p c a l h => by
    obtain ⟨a1, l1, e1, r1⟩ := x.pen p c a l h
    obtain ⟨a2, l2, e2, r2⟩ := y.pen p c a1 l1 e1
    refine ⟨a2, l2, e2, fun h1 h2 => ?_⟩
    have z1 := r1 h1 h2
    have z2 := r2 z1.1 z1.2.2
    exact ⟨z2.1, by omega, z2.2.2⟩⟩
theorem Ext.mono {n m : Nat} {H H' : Hp} (x : Ext n H H') (h : n ≤ m) : Ext m H H' := ⟨x.keep, fun p c a l e => by
    obtain ⟨a1, l1, e1, r1⟩ := x.pen p c a l e
    exact ⟨a1, l1, e1, fun h1 h2 => ⟨(r1 h1 h2).1, by have := (r1 h1 h2).2.1; omega, (r1 h1 h2).2.2⟩⟩⟩
theorem Ext.same {H H' : Hp} (s : Same H H') : Ext 0 H H' := ⟨fun a o _ h => s a o h, fun p c a l h => ⟨a, l, s _ _ h, fun h1 h2 => ⟨h1, by omega, h2⟩⟩⟩
theorem Ext.snd {n : Nat} {H H1 H2 : Hp} (x : Ext n H H1) (s : Same H1 H2) : Ext n H H2 := (x.trans (.same s)).mono (by omega)
theorem Ext.fst {n : Nat} {H H1 H2 : Hp} (s : Same H H1) (x : Ext n H1 H2) : Ext n H H2 := ((Ext.same s).trans x).mono (by omega)
theorem notPen_or (o : HO) : NotPen o ∨ ∃ c a l, o = .dK (penD c a l) := by
  by_cases h : ∃ c a l, o = .dK (penD c a l)
  · exact .inr h
  · refine .inl ?_
    cases o with
    | dK kvs => exact fun c a l e => h ⟨c, a, l, by rw [e]⟩
    | _ => exact trivial
theorem Ext.dom {n : Nat} {H H' : Hp} (x : Ext n H H') {a : Addr} (h : H' a = none) : H a = none := by
  cases e : H a with
  | none => rfl
  | some o =>
    rcases notPen_or o with no | ⟨c, i, l, rfl⟩
    · rw [x.keep a o no e] at h; cases h
    · obtain ⟨i', l', e', _⟩ := x.pen a c i l e
      rw [e'] at h; cases h
/-- the heap without what is at M -/
def hide (M : List Addr) (H : Hp) : Hp := fun a => if a ∈ M then none else H a
theorem hide_some {M : List Addr} {H : Hp} {a : Addr} {o : HO} (h : hide M H a = some o) : a ∉ M ∧ H a = some o := by
  unfold hide at h
  by_cases hm : a ∈ M
  · rw [if_pos hm] at h; cases h
  · rw [if_neg hm] at h; exact ⟨hm, h⟩
theorem hide_of {M : List Addr} {H : Hp} {a : Addr} {o : HO} (hm : a ∉ M) (h : H a = some o) : hide M H a = some o := by
  unfold hide; rw [if_neg hm]; exact h
theorem hide_le {M : List Addr} {H : Hp} : Same (hide M H) H := fun a o h => (hide_some h).2
theorem Ext.hide {n : Nat} {M : List Addr} {H H' : Hp} (x : Ext n H H') : Ext n (hide M H) (hide M H') :=
  ⟨fun a o no h => hide_of (hide_some h).1 (x.keep a o no (hide_some h).2), fun p c a l h => by
    obtain ⟨a1, l1, e1, r⟩ := x.pen p c a l (hide_some h).2
    exact ⟨a1, l1, hide_of (hide_some h).1 e1, r⟩⟩
theorem same_hide {M : List Addr} {H H' : Hp} (s : Same H H') : Same (hide M H) (hide M H') := fun a o h => hide_of (hide_some h).1 (s a o (hide_some h).2)
theorem hide_sub {M M' : List Addr} {H : Hp} (s : ∀ a, a ∈ M → a ∈ M') : Same (hide M' H) (hide M H) := fun a o h => hide_of (fun z => (hide_some h).1 (s a z)) (hide_some h).2
theorem hide_nil {H : Hp} : hide [] H = H := by funext a; unfold hide; simp
theorem hide_cons {M : List Addr} {D : Addr} {H : Hp} : hide (D :: M) H = hide M (hide [D] H) := by
  funext a
  unfold hide
  by_cases h1 : a = D <;> by_cases h2 : a ∈ M <;> simp [h1, h2]
/-- what is hidden stands in the heap -/
def Al (M : List Addr) (H : Hp) : Prop := ∀ a, a ∈ M → ∃ o, NotPen o ∧ H a = some o
theorem Al.ext {n : Nat} {M : List Addr} {H H' : Hp} (x : Ext n H H') (h : Al M H) : Al M H' := fun a m => let ⟨o, no, e⟩ := h a m; ⟨o, no, x.keep a o no e⟩
theorem Al.new {M : List Addr} {H : Hp} {a : Addr} (h : Al M H) (n : H a = none) : a ∉ M := fun m => by
  obtain ⟨o, no, e⟩ := h a m
  rw [n] at e; cases e

mutual
inductive Rp (H : Hp) : V → Sh → Prop
  | non : Rp H .non .non
  | bl (b : Bool) : Rp H (.bl b) (.bl b)
  | int (i : Int) : Rp H (.int i) (.int i)
  | str (x : Str) : Rp H (.str x) (.str x)
  | lst {a : Addr} {vs : List V} {xs : List Sh} : H a = some (.lst vs) → RpAll H vs xs → Rp H (.ref a) (.lst xs)
  | tup {a : Addr} {vs : List V} {xs : List Sh} : H a = some (.tup vs) → RpAll H vs xs → Rp H (.ref a) (.tup xs)
  | obj {a C dx : Addr} {fv : List (Str × V)} {fs : List (Str × Sh)} : H a = some (.ins C dx fv) → RpF H fv fs → (∀ m, (∀ p ∈ fs, p.1 ≠ m) → fv.lookup m = none) → Rp H (.ref a) (.obj C fs)
  | dct {a : Addr} {kv : List (Key × V)} {ks : List (Key × Sh)} : H a = some (.dK kv) → NotPen (.dK kv) → RpK H kv ks → Rp H (.ref a) (.dct ks)
inductive RpAll (H : Hp) : List V → List Sh → Prop
  | nil : RpAll H [] []
  | cons {v : V} {vs : List V} {x : Sh} {xs : List Sh} : Rp H v x → RpAll H vs xs → RpAll H (v :: vs) (x :: xs)
inductive RpF (H : Hp) : List (Str × V) → List (Str × Sh) → Prop
  | nil {fv : List (Str × V)} : RpF H fv []
  | cons {fv : List (Str × V)} {f : Str} {v : V} {s : Sh} {fs : List (Str × Sh)} : fv.lookup f = some v → Rp H v s → RpF H fv fs → RpF H fv ((f, s) :: fs)
inductive RpK (H : Hp) : List (Key × V) → List (Key × Sh) → Prop
  | nil : RpK H [] []
  | cons {k : Key} {v : V} {kv : List (Key × V)} {s : Sh} {ks : List (Key × Sh)} : Rp H v s → RpK H kv ks → RpK H ((k, v) :: kv) ((k, s) :: ks)
end
section
variable {n : Nat} {H H' : Hp}
mutual
theorem Rp.ext (x : Ext n H H') : ∀ {v : V} {s : Sh}, Rp H v s → Rp H' v s
  | _, _, .non => .non
  | _, _, .bl b => .bl b
  | _, _, .int i => .int i
  | _, _, .str y => .str y
  | _, _, .lst e r => .lst (x.keep _ _ trivial e) (RpAll.ext x r)
  | _, _, .tup e r => .tup (x.keep _ _ trivial e) (RpAll.ext x r)
  | _, _, .obj e r no => .obj (x.keep _ _ trivial e) (RpF.ext x r) no
  | _, _, .dct e np r => .dct (x.keep _ _ np e) np (RpK.ext x r)
theorem RpAll.ext (x : Ext n H H') : ∀ {vs : List V} {xs : List Sh}, RpAll H vs xs → RpAll H' vs xs
  | _, _, .nil => .nil
  | _, _, .cons a r => .cons (Rp.ext x a) (RpAll.ext x r)
theorem RpF.ext (x : Ext n H H') : ∀ {fv : List (Str × V)} {fs : List (Str × Sh)}, RpF H fv fs → RpF H' fv fs
  | _, _, .nil => .nil
  | _, _, .cons l a r => .cons l (Rp.ext x a) (RpF.ext x r)
theorem RpK.ext (x : Ext n H H') : ∀ {kv : List (Key × V)} {ks : List (Key × Sh)}, RpK H kv ks → RpK H' kv ks
  | _, _, .nil => .nil
  | _, _, .cons a r => .cons (Rp.ext x a) (RpK.ext x r)
end
end
theorem Rp.same {H H' : Hp} (s : Same H H') {v : V} {x : Sh} (r : Rp H v x) : Rp H' v x := r.ext (.same s)
theorem RpAll.same {H H' : Hp} (s : Same H H') {v : List V} {x : List Sh} (r : RpAll H v x) : RpAll H' v x := r.ext (.same s)
theorem RpAll.len {H : Hp} : ∀ {vs : List V} {xs : List Sh}, RpAll H vs xs → vs.length = xs.length
  | _, _, .nil => rfl
  | _, _, .cons _ r => by rw [List.length_cons, List.length_cons, r.len]
theorem RpAll.get {H : Hp} : ∀ {vs : List V} {xs : List Sh} {i : Nat} {x : Sh}, RpAll H vs xs → xs[i]? = some x → ∃ v, vs[i]? = some v ∧ Rp H v x
  | _, _, _, _, .nil, h => by simp at h
  | _, _, 0, x, .cons a r, h => by
    cases (show _ = x from Option.some.inj h)
    exact ⟨_, rfl, a⟩
  | _, _, i + 1, x, .cons a r, h => r.get (i := i) (by simpa using h)
theorem RpAll.getV {H : Hp} : ∀ {vs : List V} {xs : List Sh} {i : Nat} {v : V}, RpAll H vs xs → vs[i]? = some v → ∃ x, xs[i]? = some x ∧ Rp H v x
  | _, _, _, _, .nil, h => by simp at h
  | _, _, 0, x, .cons a r, h => by
    cases (show _ = x from Option.some.inj h)
    exact ⟨_, rfl, a⟩
  | _, _, i + 1, x, .cons a r, h => r.getV (i := i) (by simpa using h)
theorem RpAll.app {H : Hp} : ∀ {vs : List V} {xs : List Sh} {ws : List V} {ys : List Sh}, RpAll H vs xs → RpAll H ws ys → RpAll H (vs ++ ws) (xs ++ ys)
  | _, _, _, _, .nil, r => r
  | _, _, _, _, .cons a q, r => .cons a (q.app r)
theorem RpAll.of_get {H : Hp} : ∀ {vs : List V} {xs : List Sh}, vs.length = xs.length → (∀ (i : Nat) v x, vs[i]? = some v → xs[i]? = some x → Rp H v x) → RpAll H vs xs
  | [], [], _, _ => .nil
  | v :: vs, x :: xs, h, k => .cons (k 0 v x rfl rfl) (RpAll.of_get (by simpa using h) fun i v x h1 h2 => k (i + 1) v x (by simpa using h1) (by simpa using h2))
  | [], _ :: _, h, _ => by simp at h
  | _ :: _, [], h, _ => by simp at h
theorem RpAll.ints {H : Hp} : ∀ {vs : List V} {is : List Int}, RpAll H vs (is.map Sh.int) → vs = is.map V.int
  | [], [], _ => rfl
  | _, i :: is, h => by
    cases h with
    | cons a r =>
      cases a
      rw [r.ints]
      rfl
theorem RpAll.strs {H : Hp} : ∀ {vs : List V} {is : List Str}, RpAll H vs (is.map Sh.str) → vs = is.map V.str
  | [], [], _ => rfl
  | _, i :: is, h => by
    cases h with
    | cons a r =>
      cases a
      rw [r.strs]
      rfl
theorem RpAll.bls {H : Hp} : ∀ {vs : List V} {is : List Bool}, RpAll H vs (is.map Sh.bl) → vs = is.map V.bl
  | [], [], _ => rfl
  | _, i :: is, h => by
    cases h with
    | cons a r =>
      cases a
      rw [r.bls]
      rfl
theorem rpAll_strs {H : Hp} : ∀ (is : List Str), RpAll H (is.map V.str) (is.map Sh.str)
  | [] => .nil
  | i :: is => .cons (.str i) (rpAll_strs is)
theorem rpAll_ints {H : Hp} : ∀ (is : List Int), RpAll H (is.map V.int) (is.map Sh.int)
  | [] => .nil
  | i :: is => .cons (.int i) (rpAll_ints is)

/-! ### slots -/
inductive Sl where
  | v (s : Sh) | pen | own (xs : List Sh)
def Sl.Hd (n : Nat) (M : List Addr) (H : Hp) (v : V) : Sl → Prop
  | .v s => Rp (hide M H) v s
  | .pen => ∃ p, v = .ref p ∧ Pen (hide M H) p n
  | .own xs => ∃ a vs, v = .ref a ∧ a ∈ M ∧ H a = some (.lst vs) ∧ RpAll (hide M H) vs xs
abbrev Ro := List (Option Sl)
def EnvOk (n : Nat) (M : List Addr) (H : Hp) (σ : L2.St) (ρ : Ro) : Prop := σ.length = ρ.length ∧ ∀ (i : Nat) (s : Sl), ρ[i]? = some (some s) → ∃ v, σ[i]? = some (some v) ∧ s.Hd n M H v
theorem Pen.ext {n m : Nat} {H H' : Hp} {p : Addr} (x : Ext m H H') (P : Pen H p n) : Pen H' p ((n + m : Nat) : Int) := by
  obtain ⟨c, ns, a, l, h1, h2, h3, h4, h5, h6⟩ := P.ex
  obtain ⟨a', l', e, z⟩ := x.pen p c a l h1
  obtain ⟨z1, z2, z3⟩ := z h4 h6
  exact ⟨c, ns, a', l', e, x.keep _ _ trivial h2, h3, z1, by omega, z3⟩
theorem Sl.Hd.ext {n m : Nat} {M : List Addr} {H H' : Hp} {v : V} (x : Ext m H H') : ∀ {s : Sl}, s.Hd n M H v → s.Hd (n + m) M H' v
  | .v s, h => Rp.ext x.hide h
  | .pen, ⟨p, e, P⟩ => ⟨p, e, Pen.ext x.hide P⟩
  | .own xs, ⟨a, vs, e, m, h, r⟩ => ⟨a, vs, e, m, x.keep _ _ trivial h, r.ext x.hide⟩
theorem EnvOk.ext {n m : Nat} {M : List Addr} {H H' : Hp} {σ : L2.St} {ρ : Ro} (x : Ext m H H') (h : EnvOk n M H σ ρ) : EnvOk (n + m) M H' σ ρ := ⟨h.1, fun i s e => let ⟨v, e1, r⟩ := h.2 i s e; ⟨v, e1, r.ext x⟩⟩
theorem Pen.up {n m : Nat} {H : Hp} {p : Addr} (P : Pen H p (n : Int)) (h : n ≤ m) : Pen H p (m : Int) := P.mono (by omega)
theorem Sl.Hd.up {n m : Nat} {M : List Addr} {H : Hp} {v : V} (h : n ≤ m) : ∀ {s : Sl}, s.Hd n M H v → s.Hd m M H v
  | .v s, r => r
  | .pen, ⟨p, e, P⟩ => ⟨p, e, Pen.up P h⟩
  | .own xs, r => r
theorem EnvOk.up {n m : Nat} {M : List Addr} {H : Hp} {σ : L2.St} {ρ : Ro} (h : n ≤ m) (E : EnvOk n M H σ ρ) : EnvOk m M H σ ρ := ⟨E.1, fun i s e => let ⟨v, e1, r⟩ := E.2 i s e; ⟨v, e1, r.up h⟩⟩
/-- one more hidden place -/
theorem EnvOk.hid {n : Nat} {M : List Addr} {D : Addr} {H : Hp} {σ : L2.St} {ρ : Ro} (E : EnvOk n M (hide [D] H) σ ρ) : EnvOk n (D :: M) H σ ρ := ⟨E.1, fun i s e => by
  obtain ⟨v, e1, r⟩ := E.2 i s e
  refine ⟨v, e1, ?_⟩
  cases s with
  | v s => show Rp (hide (D :: M) H) v s; rw [hide_cons]; exact r
  | pen => obtain ⟨p, e, P⟩ := r; exact ⟨p, e, by rw [hide_cons]; exact P⟩
  | own xs => obtain ⟨a, vs, e, m, h, r⟩ := r; exact ⟨a, vs, e, List.mem_cons_of_mem _ m, (hide_some h).2, by rw [hide_cons]; exact r⟩⟩
def slot (s : Sh) : Option Sl := some (.v s)

/-! ### typed shapes -/
class Ty (α : Type) where sh : α → Sh
open Ty
structure T3 (α β γ : Type) where (a : α) (b : β) (c : γ)
structure Tp (α : Type) where (l : List α)
instance tyInt : Ty Int := ⟨.int⟩
instance tyBool : Ty Bool := ⟨.bl⟩
instance tyStr : Ty Str := ⟨.str⟩
instance tySh : Ty Sh := ⟨id⟩
instance tyUnit : Ty Unit := ⟨fun _ => .non⟩
instance tyPair {α β : Type} [Ty α] [Ty β] : Ty (α × β) := ⟨fun p => .tup [sh p.1, sh p.2]⟩
instance tyT3 {α β γ : Type} [Ty α] [Ty β] [Ty γ] : Ty (T3 α β γ) := ⟨fun p => .tup [sh p.a, sh p.b, sh p.c]⟩
instance tyList {α : Type} [Ty α] : Ty (List α) := ⟨fun xs => .lst (xs.map sh)⟩
instance tyTp {α : Type} [Ty α] : Ty (Tp α) := ⟨fun t => .tup (t.l.map sh)⟩
instance tyOpt {α : Type} [Ty α] : Ty (Option α) := ⟨fun o => match o with | none => .non | some x => sh x⟩

/-! ### what an expression comes to -/
def LIM : Nat := 2 ^ 58
section
variable {α β γ δ : Type} [Ty α] [Ty β] [Ty γ] [Ty δ]
def Ev (t : TE) (ρ : Ro) (c : Nat) (A : α → Prop) : Prop :=
  ∀ (n : Nat) (M : List Addr) (σ : L2.St) (H : Hp), Al M H → n + c ≤ LIM → EnvOk n M H σ ρ → ∀ Q : VK, (∀ v H' x, Ext c H H' → A x → Rp (hide M H') v (sh x) → Q v H') → t σ H Q
def EvT (t : TT) (ρ : Ro) (c : Nat) (A : Bool → Prop) : Prop :=
  ∀ (n : Nat) (M : List Addr) (σ : L2.St) (H : Hp), Al M H → n + c ≤ LIM → EnvOk n M H σ ρ → ∀ Q : Bool → Hp → Prop, (∀ b H', Ext c H H' → A b → Q b H') → t σ H Q
/-- arguments, each of its own kind -/
def EvA (t : TA) (ρ : Ro) (c : Nat) (A : List Sl → Prop) : Prop :=
  ∀ (n : Nat) (M : List Addr) (σ : L2.St) (H : Hp), Al M H → n + c ≤ LIM → EnvOk n M H σ ρ → ∀ Q : List V → Hp → Prop, (∀ vs H' ss, Ext c H H' → A ss → vs.length = ss.length → (∀ (i : Nat) v s, vs[i]? = some v → ss[i]? = some s → Sl.Hd (n + c) M H' v s) → Q vs H') → t σ H Q
/-- items of one kind -/
def EvL (t : TA) (ρ : Ro) (c : Nat) (A : List α → Prop) : Prop :=
  ∀ (n : Nat) (M : List Addr) (σ : L2.St) (H : Hp), Al M H → n + c ≤ LIM → EnvOk n M H σ ρ → ∀ Q : List V → Hp → Prop, (∀ vs H' xs, Ext c H H' → A xs → RpAll (hide M H') vs (xs.map sh) → Q vs H') → t σ H Q
abbrev Is (x : α) : α → Prop := fun y => y = x
theorem Ev.imp {t : TE} {ρ : Ro} {c c' : Nat} {A A' : α → Prop} (h : Ev t ρ c A) (hc : c ≤ c') (hA : ∀ x, A x → A' x) : Ev t ρ c' A' := fun n M σ H al le env Q k =>
  h n M σ H al (by omega) env Q fun v H' x e a r => k v H' x (e.mono hc) (hA x a) r
theorem EvT.imp {t : TT} {ρ : Ro} {c c' : Nat} {A A' : Bool → Prop} (h : EvT t ρ c A) (hc : c ≤ c') (hA : ∀ x, A x → A' x) : EvT t ρ c' A' := fun n M σ H al le env Q k =>
  h n M σ H al (by omega) env Q fun b H' e a => k b H' (e.mono hc) (hA b a)
theorem ev_var {i : Nat} {ρ : Ro} {x : α} (h : ρ[i]? = some (some (.v (sh x)))) : Ev (tVar i) ρ 0 (Is x) := fun n M σ H al le env Q k => by
  obtain ⟨v, e, r⟩ := env.2 _ _ h
  exact ⟨v, e, k v H x (.refl H) rfl r⟩
theorem ev_int {i : Int} {ρ : Ro} : Ev (α := Int) (tC (.int i)) ρ 0 (Is i) := fun n M σ H al le env Q k => k _ H i (.refl H) rfl (.int i)
theorem ev_str {i : Str} {ρ : Ro} : Ev (α := Str) (tC (.str i)) ρ 0 (Is i) := fun n M σ H al le env Q k => k _ H i (.refl H) rfl (.str i)
theorem ev_bl {i : Bool} {ρ : Ro} : Ev (α := Bool) (tC (.bl i)) ρ 0 (Is i) := fun n M σ H al le env Q k => k _ H i (.refl H) rfl (.bl i)
theorem ev_non {ρ : Ro} : Ev (α := Unit) (tC .non) ρ 0 (Is ()) := fun n M σ H al le env Q k => k _ H () (.refl H) rfl .non

/-! two operands -/
def Rv2 (r : R2) (x : α) (y : β) (z : γ) : Prop := ∀ (M : List Addr) (H : Hp) (v w : V) (Q : VK), Al M H → Rp (hide M H) v (sh x) → Rp (hide M H) w (sh y) → (∀ u H', Same H H' → Rp (hide M H') u (sh z) → Q u H') → r v w H Q
theorem ev_op {r : R2} {ta tb : TE} {ρ : Ro} {c1 c2 : Nat} {A : α → Prop} {B : β → Prop} {C : γ → Prop} (ha : Ev ta ρ c1 A) (hb : Ev tb ρ c2 B) (hr : ∀ x y, A x → B y → ∃ z, C z ∧ Rv2 r x y z) : Ev (tOp r ta tb) ρ (c1 + c2) C := fun n M σ H al le env Q k => by
  refine ha n M σ H al (by omega) env _ fun v H1 x e1 ax r1 => ?_
  refine hb (n + c1) M σ H1 (al.ext e1) (by omega) (env.ext e1) _ fun w H2 y e2 by' r2 => ?_
  obtain ⟨z, cz, h⟩ := hr x y ax by'
  exact h M H2 v w Q ((al.ext e1).ext e2) (r1.ext e2.hide) r2 fun u H3 s3 rz => k u H3 z ((e1.trans e2).snd s3) cz rz
theorem ed_op {r : R2} {ta tb : TE} {ρ : Ro} {x : α} {y : β} {z : γ} (ha : Ev ta ρ 0 (Is x)) (hb : Ev tb ρ 0 (Is y)) (hr : Rv2 r x y z) : Ev (tOp r ta tb) ρ 0 (Is z) :=
  ev_op ha hb fun _ _ e1 e2 => ⟨z, rfl, by rw [e1, e2]; exact hr⟩
/-- .. with a function of the operands, where these are not known -/
theorem en_op {r : R2} {ta tb : TE} {ρ : Ro} {c1 c2 : Nat} {A : α → Prop} {B : β → Prop} (f : α → β → γ) (ha : Ev ta ρ c1 A) (hb : Ev tb ρ c2 B) (hr : ∀ x y, A x → B y → Rv2 r x y (f x y)) : Ev (tOp r ta tb) ρ (c1 + c2) (fun z => ∃ x y, A x ∧ B y ∧ z = f x y) :=
  ev_op ha hb fun x y a b => ⟨f x y, ⟨x, y, a, b, rfl⟩, hr x y a b⟩
theorem rv_I0 {g : Int → Int → V} {f : Int → Int → γ} (hg : ∀ H i j, Rp H (g i j) (sh (f i j))) {i j : Int} : Rv2 (rI0 g) i j (f i j) := fun M H v w Q al r1 r2 k => by
  cases r1
  cases r2
  exact ⟨i, j, rfl, rfl, k _ H (Same.refl H) (hg _ i j)⟩
theorem rv_add {i j : Int} : Rv2 (rI0 fun i j => .int (i + j)) i j (i + j) := rv_I0 (f := fun i j => i + j) fun H i j => .int _
theorem rv_sub {i j : Int} : Rv2 (rI0 fun i j => .int (i - j)) i j (i - j) := rv_I0 (f := fun i j => i - j) fun H i j => .int _
theorem rv_lt {i j : Int} : Rv2 (rI0 fun i j => .bl (decide (i < j))) i j (decide (i < j)) := rv_I0 (f := fun i j => decide (i < j)) fun H i j => .bl _
theorem rv_le {i j : Int} : Rv2 (rI0 fun i j => .bl (decide (i ≤ j))) i j (decide (i ≤ j)) := rv_I0 (f := fun i j => decide (i ≤ j)) fun H i j => .bl _
theorem rv_gt {i j : Int} : Rv2 (rI0 fun i j => .bl (decide (j < i))) i j (decide (j < i)) := rv_I0 (f := fun i j => decide (j < i)) fun H i j => .bl _
theorem rv_ge {i j : Int} : Rv2 (rI0 fun i j => .bl (decide (j ≤ i))) i j (decide (j ≤ i)) := rv_I0 (f := fun i j => decide (j ≤ i)) fun H i j => .bl _
theorem rv_I {C : Int → Int → Prop} {g : Int → Int → V} {f : Int → Int → γ} (hg : ∀ H i j, Rp H (g i j) (sh (f i j))) {i j : Int} (h : C i j) : Rv2 (rI C g) i j (f i j) := fun M H v w Q al r1 r2 k => by
  cases r1
  cases r2
  exact ⟨i, j, rfl, rfl, h, k _ H (Same.refl H) (hg _ i j)⟩
theorem rv_mul {i j : Int} (h : CMul i j) : Rv2 (rI CMul fun i j => .int (i * j)) i j (i * j) := rv_I (f := fun i j => i * j) (fun H i j => .int _) h
theorem rv_fdiv {i j : Int} (h : 0 < j ∧ j ≤ 2 ^ 200) : Rv2 (rI (fun _ j => 0 < j ∧ j ≤ 2 ^ 200) fun i j => .int (i / j)) i j (i / j) := rv_I (f := fun i j => i / j) (fun H i j => .int _) h
theorem rv_mod {i j : Int} (h : 0 < j) : Rv2 (rI (fun _ j => 0 < j) fun i j => .int (i % j)) i j (i % j) := rv_I (f := fun i j => i % j) (fun H i j => .int _) h
theorem rv_eqI {i j : Int} : Rv2 rEq i j (decide (i = j)) := fun M H v w Q al r1 r2 k => by
  cases r1
  cases r2
  refine ⟨rfl, k _ H (Same.refl H) ?_⟩
  rw [show decide (V.int i = V.int j) = decide (i = j) from by by_cases h : i = j <;> simp [h]]
  exact .bl _
theorem rv_eqS {i j : Str} : Rv2 rEq i j (decide (i = j)) := fun M H v w Q al r1 r2 k => by
  cases r1
  cases r2
  refine ⟨rfl, k _ H (Same.refl H) ?_⟩
  rw [show decide (V.str i = V.str j) = decide (i = j) from by by_cases h : i = j <;> simp [h]]
  exact .bl _
theorem rv_neI {i j : Int} : Rv2 rNe i j (!decide (i = j)) := fun M H v w Q al r1 r2 k => by
  cases r1
  cases r2
  refine ⟨rfl, k _ H (Same.refl H) ?_⟩
  rw [show decide (V.int i = V.int j) = decide (i = j) from by by_cases h : i = j <;> simp [h]]
  exact .bl _
theorem rv_neS {i j : Str} : Rv2 rNe i j (!decide (i = j)) := fun M H v w Q al r1 r2 k => by
  cases r1
  cases r2
  refine ⟨rfl, k _ H (Same.refl H) ?_⟩
  rw [show decide (V.str i = V.str j) = decide (i = j) from by by_cases h : i = j <;> simp [h]]
  exact .bl _
theorem rv_eqB {i j : Bool} : Rv2 rEq i j (decide (i = j)) := fun M H v w Q al r1 r2 k => by
  cases r1
  cases r2
  refine ⟨rfl, k _ H (Same.refl H) ?_⟩
  rw [show decide (V.bl i = V.bl j) = decide (i = j) from by by_cases h : i = j <;> simp [h]]
  exact .bl _
theorem rv_neB {i j : Bool} : Rv2 rNe i j (!decide (i = j)) := fun M H v w Q al r1 r2 k => by
  cases r1
  cases r2
  refine ⟨rfl, k _ H (Same.refl H) ?_⟩
  rw [show decide (V.bl i = V.bl j) = decide (i = j) from by by_cases h : i = j <;> simp [h]]
  exact .bl _
theorem rv_addS {i j : Str} (h : i.length + j.length ≤ sizeLine) : Rv2 (fun x y H Q => ∃ i j, x = .str i ∧ y = .str j ∧ i.length + j.length ≤ sizeLine ∧ Q (.str (i ++ j)) H) i j (i ++ j) := fun M H v w Q al r1 r2 k => by
  cases r1
  cases r2
  exact ⟨i, j, rfl, rfl, h, k _ H (Same.refl H) (.str _)⟩
/-- a new object at p -/
theorem new_ref {M : List Addr} {H : Hp} {p : Addr} {o : HO} (al : Al M H) (hp : H p = none) : Same H (upd H p o) ∧ hide M (upd H p o) p = some o := ⟨same_upd hp, hide_of (al.new hp) upd_same⟩
theorem new_at {M : List Addr} {H H2 : Hp} {p : Addr} {o : HO} (al : Al M H) (hp : H p = none) (e : H2 p = some o) : hide M H2 p = some o := hide_of (al.new hp) e
theorem Rp.lstI {M : List Addr} {H : Hp} {v : V} {xs : List Sh} (r : Rp (hide M H) v (.lst xs)) : ∃ a vs, v = .ref a ∧ H a = some (.lst vs) ∧ RpAll (hide M H) vs xs := by
  cases r with
  | lst e r => exact ⟨_, _, rfl, (hide_some e).2, r⟩
theorem Rp.tupI {M : List Addr} {H : Hp} {v : V} {xs : List Sh} (r : Rp (hide M H) v (.tup xs)) : ∃ a vs, v = .ref a ∧ H a = some (.tup vs) ∧ RpAll (hide M H) vs xs := by
  cases r with
  | tup e r => exact ⟨_, _, rfl, (hide_some e).2, r⟩
theorem atI_map {α β : Type} (f : α → β) {xs : List α} {i : Int} {z : α} (h : atI xs i = some z) : atI (xs.map f) i = some (f z) := by
  unfold atI at *
  rw [List.length_map]
  cases e : ixN xs.length i with
  | none => rw [e] at h; cases h
  | some j =>
    rw [e] at h
    show (xs.map f)[j]? = some (f z)
    rw [List.getElem?_map, show xs[j]? = some z from h]
    rfl
theorem rpAll_atI {H : Hp} {vs : List V} {xs : List Sh} {i : Int} {x : Sh} (r : RpAll H vs xs) (h : atI xs i = some x) : ∃ v, atI vs i = some v ∧ Rp H v x := by
  unfold atI at *
  rw [r.len]
  cases e : ixN xs.length i with
  | none => rw [e] at h; cases h
  | some j =>
    rw [e] at h
    exact r.get (i := j) h
theorem rv_ixL {K : PySem.W.Frag} {xs : List α} {i : Int} {z : α} (h : atI xs i = some z) : Rv2 (rIxL K) xs i z := fun M H v w Q al r1 r2 k => by
  obtain ⟨a, vs, rfl, e, ra⟩ := Rp.lstI r1
  cases r2
  obtain ⟨u, hu, ru⟩ := rpAll_atI ra (atI_map sh h)
  exact ⟨a, vs, i, u, rfl, rfl, SqL.of e, hu, k u H (Same.refl H) ru⟩
theorem rv_ixT {K : PySem.W.Frag} {xs : Tp α} {i : Int} {z : α} (h : atI xs.l i = some z) : Rv2 (rIxT K) xs i z := fun M H v w Q al r1 r2 k => by
  obtain ⟨a, vs, rfl, e, ra⟩ := Rp.tupI r1
  cases r2
  obtain ⟨u, hu, ru⟩ := rpAll_atI ra (atI_map sh h)
  exact ⟨a, vs, i, u, rfl, rfl, SqT.of e, hu, k u H (Same.refl H) ru⟩
/-- an item of a tuple of items of several kinds -/
theorem rv_ixC {K : PySem.W.Frag} {x : α} {i : Int} {z : β} {xs : List Sh} (hx : sh x = .tup xs) (h : atI xs i = some (sh z)) : Rv2 (rIxT K) x i z := fun M H v w Q al r1 r2 k => by
  rw [hx] at r1
  obtain ⟨a, vs, rfl, e, ra⟩ := Rp.tupI r1
  cases r2
  obtain ⟨u, hu, ru⟩ := rpAll_atI ra h
  exact ⟨a, vs, i, u, rfl, rfl, SqT.of e, hu, k u H (Same.refl H) ru⟩
theorem rv_cat {xs ys : List α} (h : xs.length + ys.length ≤ sizeLine) : Rv2 rCat xs ys (xs ++ ys) := fun M H v w Q al r1 r2 k => by
  obtain ⟨a, vs, rfl, e, ra⟩ := Rp.lstI r1
  obtain ⟨b, ws, rfl, e', rb⟩ := Rp.lstI r2
  have l1 := ra.len
  have l2 := rb.len
  rw [List.length_map] at l1 l2
  refine ⟨a, b, vs, ws, rfl, rfl, e, e', by omega, fun p hp => ?_⟩
  have nr := new_ref (o := .lst (vs ++ ws)) al hp
  refine k _ _ nr.1 (.lst nr.2 ?_)
  rw [List.map_append]
  exact (ra.app rb).same (same_hide nr.1)
end
end Yarn

set_option Elab.async false
set_option linter.all false
set_option maxRecDepth 100000
set_option maxHeartbeats 4000000
namespace Yarn
open PySem PySem.Spec PyProof.Rows L2 Ty
section
variable {α β γ δ : Type} [Ty α] [Ty β] [Ty γ] [Ty δ]

/-! ### one operand: built-ins of one value -/
def Rv1 (r : List V → Hp → VK → Prop) (x : α) (z : γ) : Prop := ∀ (M : List Addr) (H : Hp) (v : V) (Q : VK), Al M H → Rp (hide M H) v (sh x) → (∀ u H', Same H H' → Rp (hide M H') u (sh z) → Q u H') → r [v] H Q
theorem ev_cb {r : List V → Hp → VK → Prop} {ta : TE} {ρ : Ro} {c : Nat} {A : α → Prop} {C : γ → Prop} (ha : Ev ta ρ c A) (hr : ∀ x, A x → ∃ z, C z ∧ Rv1 r x z) : Ev (tCB r (tCons ta tNil)) ρ c C := fun n M σ H al le env Q k => by
  refine ha n M σ H al le env _ fun v H1 x e1 ax r1 => ?_
  obtain ⟨z, cz, h⟩ := hr x ax
  exact h M H1 v Q (al.ext e1) r1 fun u H3 s3 rz => k u H3 z (e1.snd s3) cz rz
theorem ed_cb {r : List V → Hp → VK → Prop} {ta : TE} {ρ : Ro} {x : α} {z : γ} (ha : Ev ta ρ 0 (Is x)) (hr : Rv1 r x z) : Ev (tCB r (tCons ta tNil)) ρ 0 (Is z) := ev_cb ha fun _ e => ⟨z, rfl, by rw [e]; exact hr⟩
theorem en_cb {r : List V → Hp → VK → Prop} {ta : TE} {ρ : Ro} {c : Nat} {A : α → Prop} (f : α → γ) (ha : Ev ta ρ c A) (hr : ∀ x, A x → Rv1 r x (f x)) : Ev (tCB r (tCons ta tNil)) ρ c (fun z => ∃ x, A x ∧ z = f x) := ev_cb ha fun x a => ⟨f x, ⟨x, a, rfl⟩, hr x a⟩
theorem rv1_lenL {K : PySem.W.Frag} {xs : List α} : Rv1 (fun us H Q => ∃ p ys, us = [.ref p] ∧ (SqL K H p ys ∨ SqT K H p ys) ∧ Q (.int ys.length) H) xs (xs.length : Int) := fun M H v Q al r k => by
  obtain ⟨a, vs, rfl, e, ra⟩ := Rp.lstI r
  have l := ra.len
  rw [List.length_map] at l
  exact ⟨a, vs, rfl, .inl (SqL.of e), k _ H (Same.refl H) (by rw [l]; exact .int _)⟩
theorem rv1_lenT {K : PySem.W.Frag} {xs : Tp α} : Rv1 (fun us H Q => ∃ p ys, us = [.ref p] ∧ (SqL K H p ys ∨ SqT K H p ys) ∧ Q (.int ys.length) H) xs (xs.l.length : Int) := fun M H v Q al r k => by
  obtain ⟨a, vs, rfl, e, ra⟩ := Rp.tupI r
  have l := ra.len
  rw [List.length_map] at l
  exact ⟨a, vs, rfl, .inr (SqT.of e), k _ H (Same.refl H) (by rw [l]; exact .int _)⟩
theorem rv1_lenS {z : Str} (h : z.length ≤ sizeLine) : Rv1 (fun us H Q => ∃ z : Str, us = [.str z] ∧ z.length ≤ sizeLine ∧ Q (.int z.length) H) z (z.length : Int) := fun M H v Q al r k => by
  cases r
  exact ⟨z, rfl, h, k _ H (Same.refl H) (.int _)⟩
theorem rv1_sum {K : PySem.W.Frag} {is : List Int} : Rv1 (rSum K) is is.sum := fun M H v Q al r k => by
  obtain ⟨a, vs, rfl, e, ra⟩ := Rp.lstI r
  have e2 := RpAll.ints ra
  subst e2
  exact ⟨a, is, rfl, SqL.of e, k _ H (Same.refl H) (.int _)⟩
theorem rv1_int {b : Bool} : Rv1 (fun xs H Q => (∃ i, xs = [.int i] ∧ Q (.int i) H) ∨ ∃ k, xs = [.bl k] ∧ Q (.int (if k then 1 else 0)) H) b (if b then 1 else 0 : Int) := fun M H v Q al r k => by
  cases r
  exact .inr ⟨b, rfl, k _ H (Same.refl H) (.int _)⟩
theorem rv1_listL {K : PySem.W.Frag} {xs : List α} : Rv1 (fun us H Q => ∃ p ys, us = [.ref p] ∧ (SqL K H p ys ∨ SqT K H p ys) ∧ ∀ l, H l = none → Q (.ref l) (upd H l (.lst ys))) xs xs := fun M H v Q al r k => by
  obtain ⟨a, vs, rfl, e, ra⟩ := Rp.lstI r
  exact ⟨a, vs, rfl, .inl (SqL.of e), fun l hl => k _ _ (new_ref al hl).1 (.lst (new_ref al hl).2 (ra.same (same_hide (new_ref al hl).1)))⟩
theorem rv1_listT {K : PySem.W.Frag} {xs : Tp α} : Rv1 (fun us H Q => ∃ p ys, us = [.ref p] ∧ (SqL K H p ys ∨ SqT K H p ys) ∧ ∀ l, H l = none → Q (.ref l) (upd H l (.lst ys))) xs xs.l := fun M H v Q al r k => by
  obtain ⟨a, vs, rfl, e, ra⟩ := Rp.tupI r
  exact ⟨a, vs, rfl, .inr (SqT.of e), fun l hl => k _ _ (new_ref al hl).1 (.lst (new_ref al hl).2 (ra.same (same_hide (new_ref al hl).1)))⟩
theorem rv1_tupL {K : PySem.W.Frag} {xs : List α} : Rv1 (fun us H Q => ∃ p ys, us = [.ref p] ∧ ((SqL K H p ys ∧ ∀ l, H l = none → Q (.ref l) (upd H l (.tup ys))) ∨ (SqT K H p ys ∧ Q (.ref p) H))) xs (Tp.mk xs) := fun M H v Q al r k => by
  obtain ⟨a, vs, rfl, e, ra⟩ := Rp.lstI r
  exact ⟨a, vs, rfl, .inl ⟨SqL.of e, fun l hl => k _ _ (new_ref al hl).1 (.tup (new_ref al hl).2 (ra.same (same_hide (new_ref al hl).1)))⟩⟩
theorem rv1_tupT {K : PySem.W.Frag} {xs : Tp α} : Rv1 (fun us H Q => ∃ p ys, us = [.ref p] ∧ ((SqL K H p ys ∧ ∀ l, H l = none → Q (.ref l) (upd H l (.tup ys))) ∨ (SqT K H p ys ∧ Q (.ref p) H))) xs xs := fun M H v Q al r k => by
  obtain ⟨a, vs, e0, e, ra⟩ := Rp.tupI r
  subst e0
  exact ⟨a, vs, rfl, .inr ⟨SqT.of e, k _ H (Same.refl H) r⟩⟩
/-- two ints -/
theorem ev_cb2 {g : Int → Int → Int} {ta tb : TE} {ρ : Ro} {c1 c2 : Nat} {A B : Int → Prop} (ha : Ev ta ρ c1 A) (hb : Ev tb ρ c2 B) :
    Ev (α := Int) (tCB (fun xs H Q => ∃ i j, xs = [.int i, .int j] ∧ Q (.int (g i j)) H) (tCons ta (tCons tb tNil))) ρ (c1 + c2) (fun z => ∃ i j, A i ∧ B j ∧ z = g i j) := fun n M σ H al le env Q k => by
  refine ha n M σ H al (by omega) env _ fun v H1 x e1 ax r1 => ?_
  refine hb (n + c1) M σ H1 (al.ext e1) (by omega) (env.ext e1) _ fun w H2 y e2 b r2 => ?_
  cases r1
  cases r2
  exact ⟨x, y, rfl, k _ H2 (g x y) (e1.trans e2) ⟨x, y, ax, b, rfl⟩ (.int _)⟩
theorem ed_cb2 {g : Int → Int → Int} {ta tb : TE} {ρ : Ro} {i j : Int} (ha : Ev ta ρ 0 (Is i)) (hb : Ev tb ρ 0 (Is j)) :
    Ev (α := Int) (tCB (fun xs H Q => ∃ i j, xs = [.int i, .int j] ∧ Q (.int (g i j)) H) (tCons ta (tCons tb tNil))) ρ 0 (Is (g i j)) := (ev_cb2 (g := g) ha hb).imp (Nat.le_refl _) fun z ⟨x, y, e1, e2, e⟩ => by rw [e, e1, e2]
theorem ed_neg {ta : TE} {ρ : Ro} {i : Int} (ha : Ev ta ρ 0 (Is i)) : Ev (α := Int) (tUn (rU fun i => .int (-i)) ta) ρ 0 (Is (-i)) := fun n M σ H al le env Q k => by
  refine ha n M σ H al le env _ fun v H1 x e1 ax r1 => ?_
  cases r1
  subst ax
  exact ⟨x, rfl, k _ H1 _ e1 rfl (.int _)⟩

/-! ### displays -/
theorem el_nil {ρ : Ro} : EvL (α := α) tNil ρ 0 (Is []) := fun n M σ H al le env Q k => k [] H [] (.refl H) rfl .nil
theorem el_cons {ta : TE} {t : TA} {ρ : Ro} {c1 c2 : Nat} {A : α → Prop} {B : List α → Prop} (ha : Ev ta ρ c1 A) (hb : EvL t ρ c2 B) : EvL (tCons ta t) ρ (c1 + c2) (fun xs => ∃ x r, A x ∧ B r ∧ xs = x :: r) := fun n M σ H al le env Q k => by
  refine ha n M σ H al (by omega) env _ fun v H1 x e1 ax r1 => ?_
  refine hb (n + c1) M σ H1 (al.ext e1) (by omega) (env.ext e1) _ fun ws H2 y e2 b r2 => ?_
  exact k _ H2 (x :: y) (e1.trans e2) ⟨x, y, ax, b, rfl⟩ (.cons (r1.ext e2.hide) r2)
theorem eld_cons {ta : TE} {t : TA} {ρ : Ro} {x : α} {r : List α} (ha : Ev ta ρ 0 (Is x)) (hb : EvL t ρ 0 (Is r)) : EvL (tCons ta t) ρ 0 (Is (x :: r)) := fun n M σ H al le env Q k =>
  (el_cons ha hb) n M σ H al le env Q fun vs H' xs e ⟨x', r', e1, e2, e3⟩ rr => k vs H' xs e (by rw [e3, e1, e2]) rr
theorem EvL.imp {t : TA} {ρ : Ro} {c c' : Nat} {A A' : List α → Prop} (h : EvL t ρ c A) (hc : c ≤ c') (hA : ∀ x, A x → A' x) : EvL t ρ c' A' := fun n M σ H al le env Q k =>
  h n M σ H al (by omega) env Q fun v H' x e a r => k v H' x (e.mono hc) (hA x a) r
theorem ev_lst {t : TA} {ρ : Ro} {c : Nat} {A : List α → Prop} (h : EvL t ρ c A) (hl : ∀ xs, A xs → xs.length ≤ sizeLine) : Ev (tLstY t) ρ c A := fun n M σ H al le env Q k => by
  refine h n M σ H al le env _ fun vs H1 xs e ax r => ⟨by rw [r.len, List.length_map]; exact hl xs ax, fun p H2 hp s h2 => ?_⟩
  exact k _ H2 xs (e.snd s) ax (.lst (new_at (al.ext e) hp h2) (r.same (same_hide s)))
theorem ed_lst {t : TA} {ρ : Ro} {xs : List α} (h : EvL t ρ 0 (Is xs)) (hl : xs.length ≤ sizeLine) : Ev (tLstY t) ρ 0 (Is xs) := ev_lst h fun _ e => by rw [e]; exact hl
theorem ev_tupL {t : TA} {ρ : Ro} {c : Nat} {A : List α → Prop} (h : EvL t ρ c A) (hl : ∀ xs, A xs → xs.length ≤ sizeLine) : Ev (α := Tp α) (tTupY t) ρ c (fun z => A z.l) := fun n M σ H al le env Q k => by
  refine h n M σ H al le env _ fun vs H1 xs e ax r => ⟨by rw [r.len, List.length_map]; exact hl xs ax, fun p H2 hp s h2 => ?_⟩
  exact k _ H2 ⟨xs⟩ (e.snd s) ax (.tup (new_at (al.ext e) hp h2) (r.same (same_hide s)))
theorem ed_tupL {t : TA} {ρ : Ro} {xs : List α} (h : EvL t ρ 0 (Is xs)) (hl : xs.length ≤ sizeLine) : Ev (α := Tp α) (tTupY t) ρ 0 (Is (Tp.mk xs)) := (ev_tupL h fun _ e => by rw [e]; exact hl).imp (Nat.le_refl _) fun z e => by cases z; exact congrArg Tp.mk e
theorem line2 : 2 ≤ sizeLine := by decide
theorem line3 : 3 ≤ sizeLine := by decide
theorem ev_pair {ta tb : TE} {ρ : Ro} {c1 c2 : Nat} {A : α → Prop} {B : β → Prop} (ha : Ev ta ρ c1 A) (hb : Ev tb ρ c2 B) : Ev (α := α × β) (tTupY (tCons ta (tCons tb tNil))) ρ (c1 + c2) (fun z => A z.1 ∧ B z.2) := fun n M σ H al le env Q k => by
  refine ha n M σ H al (by omega) env _ fun v H1 x e1 ax r1 => ?_
  refine hb (n + c1) M σ H1 (al.ext e1) (by omega) (env.ext e1) _ fun w H2 y e2 b r2 => ⟨line2, fun p H3 hp s h3 => ?_⟩
  exact k _ H3 (x, y) ((e1.trans e2).snd s) ⟨ax, b⟩ (.tup (new_at ((al.ext e1).ext e2) hp h3) (.cons ((r1.ext e2.hide).same (same_hide s)) (.cons (r2.same (same_hide s)) .nil)))
theorem ed_pair {ta tb : TE} {ρ : Ro} {x : α} {y : β} (ha : Ev ta ρ 0 (Is x)) (hb : Ev tb ρ 0 (Is y)) : Ev (α := α × β) (tTupY (tCons ta (tCons tb tNil))) ρ 0 (Is (x, y)) := (ev_pair ha hb).imp (Nat.le_refl _) fun z ⟨e1, e2⟩ => by cases z; exact congr (congrArg Prod.mk e1) e2
theorem ev_trip {ta tb tc : TE} {ρ : Ro} {c1 c2 c3 : Nat} {A : α → Prop} {B : β → Prop} {C : γ → Prop} (ha : Ev ta ρ c1 A) (hb : Ev tb ρ c2 B) (hc : Ev tc ρ c3 C) :
    Ev (α := T3 α β γ) (tTupY (tCons ta (tCons tb (tCons tc tNil)))) ρ (c1 + c2 + c3) (fun z => A z.a ∧ B z.b ∧ C z.c) := fun n M σ H al le env Q k => by
  refine ha n M σ H al (by omega) env _ fun v H1 x e1 ax r1 => ?_
  refine hb (n + c1) M σ H1 (al.ext e1) (by omega) (env.ext e1) _ fun w H2 y e2 b r2 => ?_
  refine hc (n + c1 + c2) M σ H2 ((al.ext e1).ext e2) (by omega) ((env.ext e1).ext e2) _ fun u H3 z e3 c r3 => ⟨line3, fun p H4 hp s h4 => ?_⟩
  exact k _ H4 ⟨x, y, z⟩ (((e1.trans e2).trans e3).snd s) ⟨ax, b, c⟩ (.tup (new_at (((al.ext e1).ext e2).ext e3) hp h4)
    (.cons (((r1.ext e2.hide).ext e3.hide).same (same_hide s)) (.cons ((r2.ext e3.hide).same (same_hide s)) (.cons (r3.same (same_hide s)) .nil))))
theorem ed_trip {ta tb tc : TE} {ρ : Ro} {x : α} {y : β} {z : γ} (ha : Ev ta ρ 0 (Is x)) (hb : Ev tb ρ 0 (Is y)) (hc : Ev tc ρ 0 (Is z)) : Ev (α := T3 α β γ) (tTupY (tCons ta (tCons tb (tCons tc tNil)))) ρ 0 (Is ⟨x, y, z⟩) :=
  (ev_trip ha hb hc).imp (Nat.le_refl _) fun w ⟨e1, e2, e3⟩ => by cases w; cases e1; cases e2; cases e3; rfl

/-! ### tests -/
theorem et_test {t : TE} {ρ : Ro} {c : Nat} {A : Bool → Prop} (h : Ev t ρ c A) : EvT (tTest t) ρ c A := fun n M σ H al le env Q k => by
  refine h n M σ H al le env _ fun v H1 b e a r => ?_
  cases r
  exact ⟨b, rfl, k b H1 e a⟩
theorem et_b {t : TE} {ρ : Ro} {c : Nat} {A : Bool → Prop} (h : Ev t ρ c A) : EvT (tB t) ρ c A := fun n M σ H al le env Q k => by
  refine h n M σ H al le env _ fun v H1 b e a r => ?_
  cases r
  exact ⟨b, rfl, k b H1 e a⟩
theorem et_yes {ρ : Ro} : EvT tYes ρ 0 (fun b => b = true) := fun n M σ H al le env Q k => k true H (.refl H) rfl
theorem et_not {t : TT} {ρ : Ro} {b : Bool} (h : EvT t ρ 0 (Is b)) : EvT (tNot t) ρ 0 (Is (!b)) := fun n M σ H al le env Q k => h n M σ H al le env _ fun b' H1 e a => k _ H1 e (by rw [a])
theorem et_and {t u : TT} {ρ : Ro} {b b' : Bool} (h : EvT t ρ 0 (Is b)) (h' : b = true → EvT u ρ 0 (Is b')) : EvT (tAnd t u) ρ 0 (Is (b && b')) := fun n M σ H al le env Q k => h n M σ H al le env _ fun d H1 e a => by
  cases a
  cases b with
  | false => exact k _ H1 e rfl
  | true => exact h' rfl n M σ H1 (al.ext e) le (env.ext e) Q fun d' H2 e' a' => k _ H2 (e.trans e') (by rw [a', Bool.true_and])
theorem et_or {t u : TT} {ρ : Ro} {b b' : Bool} (h : EvT t ρ 0 (Is b)) (h' : b = false → EvT u ρ 0 (Is b')) : EvT (tOr t u) ρ 0 (Is (b || b')) := fun n M σ H al le env Q k => h n M σ H al le env _ fun d H1 e a => by
  cases a
  cases b with
  | true => exact k _ H1 e rfl
  | false => exact h' rfl n M σ H1 (al.ext e) le (env.ext e) Q fun d' H2 e' a' => k _ H2 (e.trans e') (by rw [a', Bool.false_or])
/-- not known tests -/
theorem en_and {t u : TT} {ρ : Ro} {c1 c2 : Nat} {A B : Bool → Prop} (h : EvT t ρ c1 A) (h' : A true → EvT u ρ c2 B) : EvT (tAnd t u) ρ (c1 + c2) (fun b => (A false ∧ b = false) ∨ (A true ∧ B b)) := fun n M σ H al le env Q k => h n M σ H al (by omega) env _ fun d H1 e a => by
  cases d with
  | false => exact k _ H1 (e.mono (by omega)) (.inl ⟨a, rfl⟩)
  | true => exact h' a (n + c1) M σ H1 (al.ext e) (by omega) (env.ext e) Q fun d' H2 e' a' => k _ H2 (e.trans e') (.inr ⟨a, a'⟩)
theorem en_or {t u : TT} {ρ : Ro} {c1 c2 : Nat} {A B : Bool → Prop} (h : EvT t ρ c1 A) (h' : A false → EvT u ρ c2 B) : EvT (tOr t u) ρ (c1 + c2) (fun b => (A true ∧ b = true) ∨ (A false ∧ B b)) := fun n M σ H al le env Q k => h n M σ H al (by omega) env _ fun d H1 e a => by
  cases d with
  | true => exact k _ H1 (e.mono (by omega)) (.inl ⟨a, rfl⟩)
  | false => exact h' a (n + c1) M σ H1 (al.ext e) (by omega) (env.ext e) Q fun d' H2 e' a' => k _ H2 (e.trans e') (.inr ⟨a, a'⟩)
theorem ed_notV {t : TE} {ρ : Ro} {b : Bool} (h : Ev t ρ 0 (Is b)) : Ev (α := Bool) (tNotV t) ρ 0 (Is (!b)) := fun n M σ H al le env Q k => h n M σ H al le env _ fun v H1 b' e a r => by
  cases r
  exact ⟨b', rfl, k _ H1 (!b') e (by rw [a]) (.bl _)⟩
theorem ed_andV {t u : TE} {ρ : Ro} {b b' : Bool} (h : Ev t ρ 0 (Is b)) (h' : b = true → Ev u ρ 0 (Is b')) : Ev (α := Bool) (tAndV t u) ρ 0 (Is (b && b')) := fun n M σ H al le env Q k => h n M σ H al le env _ fun v H1 d e a r => by
  cases r
  cases a
  refine ⟨b, rfl, ?_⟩
  cases b with
  | false => exact k _ H1 _ e rfl (.bl _)
  | true => exact h' rfl n M σ H1 (al.ext e) le (env.ext e) Q fun v' H2 d' e' a' r' => k _ H2 d' (e.trans e') (by rw [a', Bool.true_and]) r'
theorem ed_orV {t u : TE} {ρ : Ro} {b b' : Bool} (h : Ev t ρ 0 (Is b)) (h' : b = false → Ev u ρ 0 (Is b')) : Ev (α := Bool) (tOrV t u) ρ 0 (Is (b || b')) := fun n M σ H al le env Q k => h n M σ H al le env _ fun v H1 d e a r => by
  cases r
  cases a
  refine ⟨b, rfl, ?_⟩
  cases b with
  | true => exact k _ H1 _ e rfl (.bl _)
  | false => exact h' rfl n M σ H1 (al.ext e) le (env.ext e) Q fun v' H2 d' e' a' r' => k _ H2 d' (e.trans e') (by rw [a', Bool.false_or]) r'
theorem ed_if {t : TT} {ta tb : TE} {ρ : Ro} {b : Bool} {x y : α} (h : EvT t ρ 0 (Is b)) (h1 : b = true → Ev ta ρ 0 (Is x)) (h2 : b = false → Ev tb ρ 0 (Is y)) : Ev (tIf t ta tb) ρ 0 (Is (if b = true then x else y)) := fun n M σ H al le env Q k => h n M σ H al le env _ fun d H1 e a => by
  cases a
  cases b with
  | true => exact h1 rfl n M σ H1 (al.ext e) le (env.ext e) Q fun v H2 z e' a' r => k _ H2 z (e.trans e') (by rw [a']; rfl) r
  | false => exact h2 rfl n M σ H1 (al.ext e) le (env.ext e) Q fun v H2 z e' a' r => k _ H2 z (e.trans e') (by rw [a']; rfl) r
theorem en_if {t : TT} {ta tb : TE} {ρ : Ro} {c1 c2 c3 : Nat} {A : Bool → Prop} {B C : α → Prop} (h : EvT t ρ c1 A) (h1 : A true → Ev ta ρ c2 B) (h2 : A false → Ev tb ρ c3 C) : Ev (tIf t ta tb) ρ (c1 + (c2 + c3)) (fun x => (A true ∧ B x) ∨ (A false ∧ C x)) := fun n M σ H al le env Q k => h n M σ H al (by omega) env _ fun d H1 e a => by
  cases d with
  | true => exact h1 a (n + c1) M σ H1 (al.ext e) (by omega) (env.ext e) Q fun v H2 z e' a' r => k _ H2 z ((e.trans e').mono (by omega)) (.inl ⟨a, a'⟩) r
  | false => exact h2 a (n + c1) M σ H1 (al.ext e) (by omega) (env.ext e) Q fun v H2 z e' a' r => k _ H2 z ((e.trans e').mono (by omega)) (.inr ⟨a, a'⟩) r
/-- a <= b <= c of ints -/
theorem ed_chain {f g : Int → Int → Bool} {ta tb tc : TE} {ρ : Ro} {i j k : Int} (ha : Ev ta ρ 0 (Is i)) (hb : Ev tb ρ 0 (Is j)) (hc : Ev tc ρ 0 (Is k)) :
    Ev (α := Bool) (tChain (rI0 fun i j => .bl (f i j)) (rI0 fun i j => .bl (g i j)) ta tb tc) ρ 0 (Is (f i j && g j k)) := fun n M σ H al le env Q q => by
  refine ha n M σ H al le env _ fun v H1 x e1 ax r1 => ?_
  refine hb n M σ H1 (al.ext e1) le (env.ext e1) _ fun w H2 y e2 b r2 => ?_
  cases r1
  cases r2
  subst ax b
  refine ⟨x, y, rfl, rfl, f x y, rfl, ?_⟩
  cases hf : f x y with
  | false => exact q _ H2 false (e1.trans e2) (by rw [hf]; rfl) (.bl _)
  | true =>
    refine hc n M σ H2 ((al.ext e1).ext e2) le ((env.ext e1).ext e2) _ fun u H3 z e3 c r3 => ?_
    cases r3
    subst c
    exact ⟨y, z, rfl, rfl, q _ H3 (g y z) ((e1.trans e2).trans e3) (by rw [hf]; rfl) (.bl _)⟩

/-! ### targets -/
theorem wipe_none {σ : L2.St} {i : Nat} : ∀ {vs : List Nat}, i ∈ vs → i < σ.length → (wipe σ vs)[i]? = some none
  | [], h, _ => by cases h
  | v :: vs, h, hl => by
    unfold wipe
    by_cases e : v = i
    · subst e
      rw [List.getElem?_set_self (by rw [wipe_length]; exact hl)]
    · rw [List.getElem?_set_ne e]
      exact wipe_none ((List.mem_cons.mp h).resolve_left fun z => e z.symm) hl
theorem wipe_other {σ : L2.St} {i : Nat} : ∀ {vs : List Nat}, i ∉ vs → (wipe σ vs)[i]? = σ[i]?
  | [], h => rfl
  | v :: vs, h => by
    unfold wipe
    rw [List.getElem?_set_ne fun e => h (by rw [e]; exact List.mem_cons_self)]
    exact wipe_other fun m => h (List.mem_cons_of_mem _ m)
theorem wipe_ext {σ σ' : L2.St} {vs : List Nat} (hl : σ.length = σ'.length) (h : ∀ i, i ∉ vs → σ[i]? = σ'[i]?) : wipe σ vs = wipe σ' vs := by
  apply List.ext_getElem?
  intro i
  by_cases hi : i ∈ vs
  · by_cases hz : i < σ.length
    · rw [wipe_none hi hz, wipe_none hi (by rw [← hl]; exact hz)]
    · rw [List.getElem?_eq_none (by rw [wipe_length]; omega), List.getElem?_eq_none (by rw [wipe_length]; omega)]
  · rw [wipe_other hi, wipe_other hi]
    exact h i hi
/-- a target takes a thing of shape s: the slots before, the slots behind; it stores at slots of own alone -/
def KeepOwn (ρ ρ' : Ro) : Prop := ∀ (k : Nat) xs, ρ'[k]? = some (some (Sl.own xs)) → ρ[k]? = some (some (Sl.own xs))
theorem keepOwn_set {ρ : Ro} {i : Nat} {s : Sh} : KeepOwn ρ (ρ.set i (some (.v s))) := fun k xs q => by
  by_cases hij : i = k
  · subst hij
    by_cases hz : i < ρ.length
    · rw [List.getElem?_set_self hz] at q; cases q
    · rw [List.getElem?_eq_none (by rw [List.length_set]; omega)] at q; cases q
  · rw [List.getElem?_set_ne hij] at q
    exact q
def TgOk (g : TG) (s : Sh) (own : List Nat) (ρ ρ' : Ro) : Prop := (ρ'.length = ρ.length ∧ KeepOwn ρ ρ') ∧
  ∀ (n : Nat) (M : List Addr) (H : Hp) (σ : L2.St) (v : V) (Q : L2.St → Hp → Prop), Al M H → EnvOk n M H σ ρ → Rp (hide M H) v s → (∀ σ', σ'.length = σ.length → (∀ i, i ∉ own → σ'[i]? = σ[i]?) → EnvOk n M H σ' ρ' → Q σ' H) → g v σ H Q
theorem EnvOk.set {n : Nat} {M : List Addr} {H : Hp} {σ : L2.St} {ρ : Ro} {i : Nat} {v : V} {s : Sl} (E : EnvOk n M H σ ρ) (r : s.Hd n M H v) : EnvOk n M H (σ.set i (some v)) (ρ.set i (some s)) := ⟨by rw [List.length_set, List.length_set]; exact E.1, fun j s' e => by
  by_cases hij : i = j
  · subst hij
    by_cases hz : i < ρ.length
    · rw [List.getElem?_set_self hz] at e
      cases e
      exact ⟨v, by rw [List.getElem?_set_self (by rw [E.1]; exact hz)], r⟩
    · rw [List.getElem?_eq_none (by rw [List.length_set]; omega)] at e
      cases e
  · rw [List.getElem?_set_ne hij] at e
    obtain ⟨w, e1, q⟩ := E.2 j s' e
    exact ⟨w, by rw [List.getElem?_set_ne hij]; exact e1, q⟩⟩
theorem tg_name {i : Nat} {s : Sh} {own : List Nat} {ρ : Ro} (hi : i ∈ own) : TgOk (gName i) s own ρ (ρ.set i (some (.v s))) := ⟨⟨by rw [List.length_set], keepOwn_set⟩, fun n M H σ v Q al E r k =>
  k _ (by rw [List.length_set]) (fun j hj => by rw [List.getElem?_set_ne fun e => hj (by rw [← e]; exact hi)]) (E.set r)⟩
/-- several: TgsOk over the items' shapes -/
def TgsOk (g : TGs) (ss : List Sh) (own : List Nat) (ρ ρ' : Ro) : Prop := (ρ'.length = ρ.length ∧ KeepOwn ρ ρ') ∧
  ∀ (n : Nat) (M : List Addr) (H : Hp) (σ : L2.St) (vs : List V) (Q : L2.St → Hp → Prop), Al M H → EnvOk n M H σ ρ → RpAll (hide M H) vs ss → (∀ σ', σ'.length = σ.length → (∀ i, i ∉ own → σ'[i]? = σ[i]?) → EnvOk n M H σ' ρ' → Q σ' H) → g vs σ H Q
theorem tgs_nil {own : List Nat} {ρ : Ro} : TgsOk gNil [] own ρ ρ := ⟨⟨rfl, fun _ _ q => q⟩, fun n M H σ vs Q al E r k => by
  cases r
  exact ⟨rfl, k σ rfl (fun _ _ => rfl) E⟩⟩
theorem tgs_cons {g : TG} {gs : TGs} {s : Sh} {ss : List Sh} {own : List Nat} {ρ ρ1 ρ2 : Ro} (h : TgOk g s own ρ ρ1) (h' : TgsOk gs ss own ρ1 ρ2) : TgsOk (gCons g gs) (s :: ss) own ρ ρ2 := ⟨⟨h'.1.1.trans h.1.1, fun k xs q => h.1.2 k xs (h'.1.2 k xs q)⟩, fun n M H σ vs Q al E r k => by
  cases r with
  | cons a r =>
    refine ⟨_, _, rfl, h.2 n M H σ _ _ al E a fun σ1 l1 o1 E1 => ?_⟩
    exact h'.2 n M H σ1 _ Q al E1 r fun σ2 l2 o2 E2 => k σ2 (l2.trans l1) (fun i hi => (o2 i hi).trans (o1 i hi)) E2⟩
theorem tg_tup {K : PySem.W.Frag} {m : Nat} {gs : TGs} {ss : List Sh} {own : List Nat} {ρ ρ' : Ro} (h : TgsOk gs ss own ρ ρ') (hm : ss.length = m) : TgOk (gTup K m gs) (.tup ss) own ρ ρ' := ⟨h.1, fun n M H σ v Q al E r k => by
  obtain ⟨a, vs, rfl, e, ra⟩ := Rp.tupI r
  exact ⟨a, vs, rfl, SqT.of e, by rw [ra.len]; exact hm, h.2 n M H σ vs Q al E ra k⟩⟩

/-! ### comprehensions -/
inductive LcR (P : α → Bool → Prop) (E : α → β → Prop) : List α → List β → Prop
  | nil : LcR P E [] []
  | yes {xs : List α} {ys : List β} {x : α} {y : β} : LcR P E xs ys → P x true → E x y → LcR P E (xs ++ [x]) (ys ++ [y])
  | no {xs : List α} {ys : List β} {x : α} : LcR P E xs ys → P x false → LcR P E (xs ++ [x]) ys
theorem LcR.det {P : α → Bool → Prop} {E : α → β → Prop} {p : α → Bool} {f : α → β} (hp : ∀ x b, P x b → b = p x) (hf : ∀ x y, E x y → y = f x) {xs : List α} {ys : List β} (h : LcR P E xs ys) : ys = (xs.filter p).map f := by
  induction h with
  | nil => rfl
  | @yes xs ys x y _ a b ih =>
    rw [ih, hf x y b, List.filter_append, List.map_append]
    simp [← hp x true a]
  | @no xs ys x _ a ih =>
    rw [ih, List.filter_append, List.map_append]
    simp [← hp x false a]
theorem LcR.le {P : α → Bool → Prop} {E : α → β → Prop} {xs : List α} {ys : List β} (h : LcR P E xs ys) : ys.length ≤ xs.length := by
  induction h with
  | nil => exact Nat.le_refl _
  | yes _ _ _ ih => rw [List.length_append, List.length_append]; exact Nat.add_le_add_right ih 1
  | no _ _ ih => rw [List.length_append]; exact Nat.le_trans ih (Nat.le_add_right _ _)
theorem EnvOk.wipe {n : Nat} {M : List Addr} {H : Hp} {σ : L2.St} {ρ : Ro} {own : List Nat} (E : EnvOk n M H σ ρ) (ho : ∀ i ∈ own, ∀ s, ρ[i]? ≠ some (some s)) : EnvOk n M H (L2.wipe σ own) ρ := ⟨by rw [wipe_length]; exact E.1, fun i s e => by
  have hi : i ∉ own := fun m => ho i m s e
  obtain ⟨v, e1, r⟩ := E.2 i s e
  exact ⟨v, by rw [wipe_other hi]; exact e1, r⟩⟩
/-- the core: what a comprehension's turns keep -/
structure LcI (M : List Addr) (D : Addr) (H1 : Hp) (cc : Nat) (P : α → Bool → Prop) (E : α → β → Prop) (xs : List α) (i : Nat) (H : Hp) : Prop where
  ex : ∃ acc ys, H D = some (.lst acc) ∧ RpAll (hide (D :: M) H) acc ((ys : List β).map sh) ∧ LcR P E (xs.take i) ys ∧ ys.length ≤ i ∧ Ext (i * cc) H1 (hide [D] H)
theorem lcI_zero {M : List Addr} {D : Addr} {H1 : Hp} {cc : Nat} {P : α → Bool → Prop} {E : α → β → Prop} {xs : List α} (hD : H1 D = none) : LcI M D H1 cc P E xs 0 (upd H1 D (.lst [])) :=
  ⟨[], [], upd_same, .nil, .nil, Nat.le_refl _, by
    have s : Same H1 (hide [D] (upd H1 D (.lst []))) := fun a o e => hide_of (by simpa using ne_of_none e hD) (by rw [upd_ne (ne_of_none e hD)]; exact e)
    exact (Ext.same s).mono (Nat.zero_le _)⟩
theorem lcI_turn {M : List Addr} {D : Addr} {H1 H : Hp} {c1 c2 n : Nat} {P : α → Bool → Prop} {E : α → β → Prop} {xs : List α} {i : Nat} {x : α} {g : TG} {tt : TT} {te : TE} {own : List Nat} {ρ ρ' : Ro} {σ : L2.St} {v : V}
    (al : Al M H1) (hD : H1 D = none) (I : LcI M D H1 (c1 + c2) P E xs i H) (hx : xs[i]? = some x) (hlen : xs.length < sizeLine) (env : EnvOk n M H1 σ ρ) (ho : ∀ i ∈ own, ∀ s, ρ[i]? ≠ some (some s)) (hn : n + xs.length * (c1 + c2) ≤ LIM)
    (hv : Rp (hide (D :: M) H) v (sh x)) (hg : TgOk g (sh x) own ρ ρ') (ht : EvT tt ρ' c1 (P x)) (he : Ev te ρ' c2 (E x)) :
    g v (wipe σ own) H fun σ2 H2 => wipe σ2 own = wipe σ own ∧ tt σ2 H2 fun b H3 =>
      if b = true then te σ2 H3 fun y H4 => ∃ acc, H4 D = some (.lst acc) ∧ acc.length < sizeLine ∧ LcI M D H1 (c1 + c2) P E xs (i + 1) (upd H4 D (.lst (acc ++ [y]))) else LcI M D H1 (c1 + c2) P E xs (i + 1) H3 := by
  obtain ⟨acc, ys, h1, h2, h3, h4, h5⟩ := I.ex
  have hi : i < xs.length := (List.getElem?_eq_some_iff.mp hx).1
  have hm : i * (c1 + c2) + (c1 + c2) ≤ xs.length * (c1 + c2) := by
    have z : (i + 1) * (c1 + c2) ≤ xs.length * (c1 + c2) := Nat.mul_le_mul_right _ hi
    rw [Nat.add_mul, Nat.one_mul] at z
    exact z
  have env2 : EnvOk (n + i * (c1 + c2)) (D :: M) H (wipe σ own) ρ := ((env.ext h5).hid).wipe ho
  have al2 : Al (D :: M) H := fun a m => by
    rcases List.mem_cons.mp m with e | m
    · exact ⟨.lst acc, trivial, by rw [e]; exact h1⟩
    · obtain ⟨o, no, e⟩ := al a m
      exact ⟨o, no, (hide_some (h5.keep a o no e)).2⟩
  have tk : xs.take (i + 1) = xs.take i ++ [x] := take_more hx
  refine hg.2 _ _ H _ v _ al2 env2 hv fun σ2 l2 o2 env3 => ?_
  refine ⟨wipe_ext (by rw [l2, wipe_length]) fun j hj => by rw [o2 j hj, wipe_other hj], ?_⟩
  refine ht _ _ σ2 H al2 (by omega) env3 _ fun b H3 e3 pb => ?_
  have x3 : Ext (i * (c1 + c2) + c1) H1 (hide [D] H3) := h5.trans e3.hide
  cases b with
  | false =>
    refine ⟨acc, ys, e3.keep _ _ trivial h1, h2.ext e3.hide, ?_, by omega, x3.mono (by rw [Nat.add_mul]; omega)⟩
    rw [tk]
    exact .no h3 pb
  | true =>
    refine he _ _ σ2 H3 (al2.ext e3) (by omega) (env3.ext e3) _ fun y H4 z e4 ez rz => ?_
    have a4 : H4 D = some (.lst acc) := e4.keep _ _ trivial (e3.keep _ _ trivial h1)
    have hacc : acc.length = ys.length := by rw [h2.len, List.length_map]
    refine ⟨acc, a4, by omega, acc ++ [y], ys ++ [z], upd_same, ?_, by rw [tk]; exact .yes h3 pb ez, by rw [List.length_append]; exact Nat.add_le_add_right h4 1, ?_⟩
    · have s5 : Same (hide (D :: M) H4) (hide (D :: M) (upd H4 D (.lst (acc ++ [y])))) := fun a o q => hide_of (hide_some q).1 (by
        have ne : a ≠ D := fun z => (hide_some q).1 (by rw [z]; exact List.mem_cons_self)
        rw [upd_ne ne]
        exact (hide_some q).2)
      rw [List.map_append]
      exact (((h2.ext e3.hide).ext e4.hide).app (.cons rz .nil)).same s5
    · have s5 : Same (hide [D] H4) (hide [D] (upd H4 D (.lst (acc ++ [y])))) := fun a o q => hide_of (hide_some q).1 (by
        have ne : a ≠ D := fun z => (hide_some q).1 (by rw [z]; exact List.mem_singleton.mpr rfl)
        rw [upd_ne ne]
        exact (hide_some q).2)
      exact ((x3.trans e4.hide).snd s5).mono (by rw [Nat.add_mul]; omega)
theorem lcI_end {M : List Addr} {D : Addr} {H1 H : Hp} {cc : Nat} {P : α → Bool → Prop} {E : α → β → Prop} {xs : List α} {Q : VK} (al : Al M H1) (hD : H1 D = none) (I : LcI M D H1 cc P E xs xs.length H)
    (k : ∀ ys, LcR P E xs ys → Ext (xs.length * cc) H1 H → Rp (hide M H) (.ref D) (sh (ys : List β)) → Q (.ref D) H) : Q (.ref D) H := by
  obtain ⟨acc, ys, h1, h2, h3, h4, h5⟩ := I.ex
  rw [List.take_length] at h3
  exact k ys h3 (h5.snd hide_le) (.lst (hide_of (al.new hD) h1) (h2.same (hide_sub fun a m => List.mem_cons_of_mem _ m)))
/-- [elt for .. in xs if ..] over a list -/
theorem ev_lcL {K : PySem.W.Frag} {tl : TE} {g : TG} {tt : TT} {te : TE} {own : List Nat} {ρ : Ro} {c0 c1 c2 m : Nat} {A : List α → Prop} {P : α → Bool → Prop} {E : α → β → Prop}
    (hs : Ev tl ρ c0 A) (hm : ∀ xs, A xs → xs.length ≤ m) (hml : m < sizeLine) (ho : ∀ i ∈ own, ∀ s, ρ[i]? ≠ some (some s))
    (hb : ∀ xs, A xs → ∀ x ∈ xs, ∃ ρ', TgOk g (sh x) own ρ ρ' ∧ EvT tt ρ' c1 (P x) ∧ Ev te ρ' c2 (E x)) :
    Ev (tLc (iList K tl) g tt te own) ρ (c0 + m * (c1 + c2)) (fun ys => ∃ xs, A xs ∧ LcR P E xs ys) := fun n M σ H al le env Q k => by
  refine hs n M σ H al (by omega) env _ fun v H1 xs e1 ax r1 => ?_
  obtain ⟨a, vs, rfl, e, ra⟩ := Rp.lstI r1
  have lv := ra.len
  rw [List.length_map] at lv
  have hx := hm xs ax
  have hc : xs.length * (c1 + c2) ≤ m * (c1 + c2) := Nat.mul_le_mul_right _ hx
  refine ⟨a, rfl, ⟨vs, SqL.of e⟩, fun D hD => ?_⟩
  refine lc_list (K := K) (a := a) (xs := vs) (LcI M D H1 (c1 + c2) P E xs) (lcI_zero hD) (fun i H' hi I => ?_) (fun i x H' hi I => ?_) fun H' I => ?_
  · obtain ⟨acc, ys, h1, h2, h3, h4, h5⟩ := I.ex
    exact SqL.of (hide_some (h5.keep a (.lst vs) trivial e)).2
  · obtain ⟨s, hs', rs⟩ := ra.getV hi
    rw [List.getElem?_map] at hs'
    cases hx' : xs[i]? with
    | none => rw [hx'] at hs'; cases hs'
    | some y =>
      rw [hx'] at hs'
      cases hs'
      obtain ⟨ρ', hg, ht, he⟩ := hb xs ax y (List.mem_of_getElem? hx')
      obtain ⟨acc, ys, h1, h2, h3, h4, h5⟩ := id I.ex
      refine lcI_turn (al.ext e1) hD I hx' (by omega) (env.ext e1) ho (by omega) ?_ hg ht he
      rw [hide_cons]
      exact rs.ext h5.hide
  · rw [lv] at I
    exact lcI_end (al.ext e1) hD I fun ys hy x r => k _ _ ys ((e1.trans x).mono (by omega)) ⟨xs, ax, hy⟩ r
theorem ev_lcT {K : PySem.W.Frag} {tl : TE} {g : TG} {tt : TT} {te : TE} {own : List Nat} {ρ : Ro} {c0 c1 c2 m : Nat} {A : Tp α → Prop} {P : α → Bool → Prop} {E : α → β → Prop}
    (hs : Ev tl ρ c0 A) (hm : ∀ xs, A xs → xs.l.length ≤ m) (hml : m < sizeLine) (ho : ∀ i ∈ own, ∀ s, ρ[i]? ≠ some (some s))
    (hb : ∀ xs, A xs → ∀ x ∈ xs.l, ∃ ρ', TgOk g (sh x) own ρ ρ' ∧ EvT tt ρ' c1 (P x) ∧ Ev te ρ' c2 (E x)) :
    Ev (tLc (iTup K tl) g tt te own) ρ (c0 + m * (c1 + c2)) (fun ys => ∃ xs, A xs ∧ LcR P E xs.l ys) := fun n M σ H al le env Q k => by
  refine hs n M σ H al (by omega) env _ fun v H1 t e1 ax r1 => ?_
  obtain ⟨a, vs, rfl, e, ra⟩ := Rp.tupI r1
  have lv := ra.len
  rw [List.length_map] at lv
  have hx := hm t ax
  have hc : t.l.length * (c1 + c2) ≤ m * (c1 + c2) := Nat.mul_le_mul_right _ hx
  refine ⟨a, rfl, ⟨vs, SqT.of e⟩, fun D hD => ?_⟩
  refine lc_tup (K := K) (a := a) (xs := vs) (LcI M D H1 (c1 + c2) P E t.l) (lcI_zero hD) (fun i H' hi I => ?_) (fun i x H' hi I => ?_) fun H' I => ?_
  · obtain ⟨acc, ys, h1, h2, h3, h4, h5⟩ := I.ex
    exact SqT.of (hide_some (h5.keep a (.tup vs) trivial e)).2
  · obtain ⟨s, hs', rs⟩ := ra.getV hi
    rw [List.getElem?_map] at hs'
    cases hx' : t.l[i]? with
    | none => rw [hx'] at hs'; cases hs'
    | some y =>
      rw [hx'] at hs'
      cases hs'
      obtain ⟨ρ', hg, ht, he⟩ := hb t ax y (List.mem_of_getElem? hx')
      obtain ⟨acc, ys, h1, h2, h3, h4, h5⟩ := id I.ex
      refine lcI_turn (al.ext e1) hD I hx' (by omega) (env.ext e1) ho (by omega) ?_ hg ht he
      rw [hide_cons]
      exact rs.ext h5.hide
  · rw [lv] at I
    exact lcI_end (al.ext e1) hD I fun ys hy x r => k _ _ ys ((e1.trans x).mono (by omega)) ⟨t, ax, hy⟩ r
/-- over range(m): ints from lo on -/
def rngL (lo : Int) (m : Nat) : List Int := (List.range m).map fun k => lo + (k : Nat)
theorem rngL_get {lo : Int} {m i : Nat} (h : i < m) : (rngL lo m)[i]? = some (lo + (i : Nat)) := by
  unfold rngL
  rw [List.getElem?_map, List.getElem?_range h]
  rfl
theorem rngL_len {lo : Int} {m : Nat} : (rngL lo m).length = m := by unfold rngL; rw [List.length_map, List.length_range]
theorem ev_lcR {ta : TE} {g : TG} {tt : TT} {te : TE} {own : List Nat} {ρ : Ro} {c0 c1 c2 m : Nat} {A : Int → Prop} {P : Int → Bool → Prop} {E : Int → β → Prop}
    (hs : Ev ta ρ c0 A) (hm : ∀ j, A j → j ≤ m ∧ -(2 ^ 62) ≤ j) (hml : m < sizeLine) (ho : ∀ i ∈ own, ∀ s, ρ[i]? ≠ some (some s))
    (hb : ∀ j, A j → ∀ x : Int, 0 ≤ x → x < j → ∃ ρ', TgOk g (sh x) own ρ ρ' ∧ EvT tt ρ' c1 (P x) ∧ Ev te ρ' c2 (E x)) :
    Ev (tLc (iRng1 (tCons ta tNil)) g tt te own) ρ (c0 + m * (c1 + c2)) (fun ys => ∃ j, A j ∧ LcR P E (rngL 0 j.toNat) ys) := fun n M σ H al le env Q k => by
  refine hs n M σ H al (by omega) env _ fun v H1 j e1 aj r1 => ?_
  cases r1
  have hj := hm j aj
  have hsz : sizeLine = 16777216 := sizeLine_eq
  have hc : j.toNat * (c1 + c2) ≤ m * (c1 + c2) := Nat.mul_le_mul_right _ (by omega)
  refine ⟨j, rfl, by omega, by omega, fun D hD => ?_⟩
  refine lc_range (lo := 0) (n := j.toNat) (LcI M D H1 (c1 + c2) P E (rngL 0 j.toNat)) (lcI_zero hD) (fun i H' hi I => ?_) fun H' I => ?_
  · obtain ⟨ρ', hg, ht, he⟩ := hb j aj (0 + (i : Nat)) (by omega) (by omega)
    exact lcI_turn (al.ext e1) hD I (rngL_get hi) (by rw [rngL_len]; omega) (env.ext e1) ho (by rw [rngL_len]; omega) (.int _) hg ht he
  · refine lcI_end (al.ext e1) hD (by rw [rngL_len]; exact I) fun ys hy x r => k _ _ ys ((e1.trans x).mono (by rw [rngL_len]; omega)) ⟨j, aj, hy⟩ r
/-! deterministic ones -/
theorem ed_lcL {K : PySem.W.Frag} {tl : TE} {g : TG} {tt : TT} {te : TE} {own : List Nat} {ρ : Ro} {xs : List α} {p : α → Bool} {f : α → β}
    (hs : Ev tl ρ 0 (Is xs)) (hm : xs.length < sizeLine) (ho : ∀ i ∈ own, ∀ s, ρ[i]? ≠ some (some s))
    (hb : ∀ x ∈ xs, ∃ ρ', TgOk g (sh x) own ρ ρ' ∧ EvT tt ρ' 0 (Is (p x)) ∧ Ev te ρ' 0 (Is (f x))) :
    Ev (tLc (iList K tl) g tt te own) ρ 0 (Is ((xs.filter p).map f)) :=
  (ev_lcL (m := xs.length) (P := fun x => Is (p x)) (E := fun x => Is (f x)) hs (fun _ e => by rw [e]; exact Nat.le_refl _) hm ho (fun _ e => by rw [e]; exact hb)).imp (by simp) fun ys ⟨_, e, h⟩ => by rw [e] at h; exact LcR.det (fun _ _ z => z) (fun _ _ z => z) h
theorem ed_lcT {K : PySem.W.Frag} {tl : TE} {g : TG} {tt : TT} {te : TE} {own : List Nat} {ρ : Ro} {xs : Tp α} {p : α → Bool} {f : α → β}
    (hs : Ev tl ρ 0 (Is xs)) (hm : xs.l.length < sizeLine) (ho : ∀ i ∈ own, ∀ s, ρ[i]? ≠ some (some s))
    (hb : ∀ x ∈ xs.l, ∃ ρ', TgOk g (sh x) own ρ ρ' ∧ EvT tt ρ' 0 (Is (p x)) ∧ Ev te ρ' 0 (Is (f x))) :
    Ev (tLc (iTup K tl) g tt te own) ρ 0 (Is ((xs.l.filter p).map f)) :=
  (ev_lcT (m := xs.l.length) (P := fun x => Is (p x)) (E := fun x => Is (f x)) hs (fun _ e => by rw [e]; exact Nat.le_refl _) hm ho (fun _ e => by rw [e]; exact hb)).imp (by simp) fun ys ⟨_, e, h⟩ => by rw [e] at h; exact LcR.det (fun _ _ z => z) (fun _ _ z => z) h
theorem filter_yes {xs : List α} : xs.filter (fun _ => true) = xs := by simp
theorem ed_lcL0 {K : PySem.W.Frag} {tl : TE} {g : TG} {te : TE} {own : List Nat} {ρ : Ro} {xs : List α} {f : α → β}
    (hs : Ev tl ρ 0 (Is xs)) (hm : xs.length < sizeLine) (ho : ∀ i ∈ own, ∀ s, ρ[i]? ≠ some (some s))
    (hb : ∀ x ∈ xs, ∃ ρ', TgOk g (sh x) own ρ ρ' ∧ Ev te ρ' 0 (Is (f x))) :
    Ev (tLc (iList K tl) g tYes te own) ρ 0 (Is (xs.map f)) :=
  (ed_lcL (p := fun _ => true) hs hm ho fun x hx => let ⟨ρ', h1, h2⟩ := hb x hx; ⟨ρ', h1, et_yes, h2⟩).imp (Nat.le_refl _) fun ys e => by rw [e, filter_yes]
theorem ed_lcT0 {K : PySem.W.Frag} {tl : TE} {g : TG} {te : TE} {own : List Nat} {ρ : Ro} {xs : Tp α} {f : α → β}
    (hs : Ev tl ρ 0 (Is xs)) (hm : xs.l.length < sizeLine) (ho : ∀ i ∈ own, ∀ s, ρ[i]? ≠ some (some s))
    (hb : ∀ x ∈ xs.l, ∃ ρ', TgOk g (sh x) own ρ ρ' ∧ Ev te ρ' 0 (Is (f x))) :
    Ev (tLc (iTup K tl) g tYes te own) ρ 0 (Is (xs.l.map f)) :=
  (ed_lcT (p := fun _ => true) hs hm ho fun x hx => let ⟨ρ', h1, h2⟩ := hb x hx; ⟨ρ', h1, et_yes, h2⟩).imp (Nat.le_refl _) fun ys e => by rw [e, filter_yes]
end
end Yarn

set_option Elab.async false
set_option linter.all false
set_option maxRecDepth 100000
set_option maxHeartbeats 4000000
namespace Yarn
open PySem PySem.Spec PyProof.Rows L2 Ty
section
variable {α β γ δ : Type} [Ty α] [Ty β] [Ty γ] [Ty δ]

/-! ### promises by shapes -/
def Im (P : α → Prop) : Sh → Prop := fun s => ∃ x, P x ∧ s = sh x
structure SlAll (n : Nat) (M : List Addr) (H : Hp) (vs : List V) (ss : List Sl) : Prop where
  len : vs.length = ss.length
  get : ∀ (i : Nat) v s, vs[i]? = some v → ss[i]? = some s → Sl.Hd n M H v s
theorem slAll_nil {n : Nat} {M : List Addr} {H : Hp} : SlAll n M H [] [] := ⟨rfl, fun i v s h => by simp at h⟩
theorem slAll_cons {n : Nat} {M : List Addr} {H : Hp} {v : V} {vs : List V} {s : Sl} {ss : List Sl} (h : Sl.Hd n M H v s) (r : SlAll n M H vs ss) : SlAll n M H (v :: vs) (s :: ss) :=
  ⟨by rw [List.length_cons, List.length_cons, r.len], fun i w t h1 h2 => by
    cases i with
    | zero => cases h1; cases h2; exact h
    | succ i => exact r.get i w t (by simpa using h1) (by simpa using h2)⟩
theorem SlAll.ext {n m : Nat} {M : List Addr} {H H' : Hp} {vs : List V} {ss : List Sl} (x : Ext m H H') (h : SlAll n M H vs ss) : SlAll (n + m) M H' vs ss := ⟨h.len, fun i v s e1 e2 => (h.get i v s e1 e2).ext x⟩
theorem SlAll.uncons {n : Nat} {M : List Addr} {H : Hp} {vs : List V} {s : Sl} {ss : List Sl} (h : SlAll n M H vs (s :: ss)) : ∃ v r, vs = v :: r ∧ Sl.Hd n M H v s ∧ SlAll n M H r ss := by
  cases vs with
  | nil => have := h.len; simp at this
  | cons v r => exact ⟨v, r, rfl, h.get 0 v s rfl rfl, by simpa using h.len, fun i w t e1 e2 => h.get (i + 1) w t (by simpa using e1) (by simpa using e2)⟩
theorem SlAll.unnil {n : Nat} {M : List Addr} {H : Hp} {vs : List V} (h : SlAll n M H vs []) : vs = [] := by
  cases vs with
  | nil => rfl
  | cons v r => have := h.len; simp at this
def spG (c : Nat) (R : List Sl → (Sh → Prop) → Prop) : Sp := fun vs H Q _ => ∃ (n : Nat) (M : List Addr) (ss : List Sl) (A : Sh → Prop), Al M H ∧ n + c ≤ LIM ∧ SlAll n M H vs ss ∧ R ss A ∧ ∀ v H' s, Ext c H H' → A s → Rp (hide M H') v s → Q v H'
theorem ea_nil {ρ : Ro} : EvA tNil ρ 0 (fun ss => ss = []) := fun n M σ H al le env Q k => k [] H [] (.refl H) rfl rfl (fun i v s h => by simp at h)
theorem ea_v {ta : TE} {t : TA} {ρ : Ro} {c1 c2 : Nat} {A : α → Prop} {B : List Sl → Prop} (ha : Ev ta ρ c1 A) (hb : EvA t ρ c2 B) : EvA (tCons ta t) ρ (c1 + c2) (fun ss => ∃ x r, A x ∧ B r ∧ ss = .v (sh x) :: r) := fun n M σ H al le env Q k => by
  refine ha n M σ H al (by omega) env _ fun v H1 x e1 ax r1 => ?_
  refine hb (n + c1) M σ H1 (al.ext e1) (by omega) (env.ext e1) _ fun vs H2 ss e2 b l2 r2 => ?_
  have z : SlAll (n + (c1 + c2)) M H2 (v :: vs) (.v (sh x) :: ss) := slAll_cons (r1.ext e2.hide) ⟨l2, fun i w t h1 h2 => by rw [← Nat.add_assoc]; exact r2 i w t h1 h2⟩
  exact k _ H2 _ (e1.trans e2) ⟨x, ss, ax, b, rfl⟩ z.len z.get
theorem ea_pen {i : Nat} {t : TA} {ρ : Ro} {c : Nat} {B : List Sl → Prop} (h : ρ[i]? = some (some .pen)) (hb : EvA t ρ c B) : EvA (tCons (tVar i) t) ρ c (fun ss => ∃ r, B r ∧ ss = .pen :: r) := fun n M σ H al le env Q k => by
  obtain ⟨v, e, r⟩ := env.2 _ _ h
  refine ⟨v, e, ?_⟩
  refine hb n M σ H al le env _ fun vs H2 ss e2 b l2 r2 => ?_
  have z : SlAll (n + c) M H2 (v :: vs) (.pen :: ss) := slAll_cons (Sl.Hd.ext e2 r) ⟨l2, r2⟩
  exact k _ H2 _ e2 ⟨ss, b, rfl⟩ z.len z.get
theorem EvA.imp {t : TA} {ρ : Ro} {c c' : Nat} {A A' : List Sl → Prop} (h : EvA t ρ c A) (hc : c ≤ c') (hA : ∀ x, A x → A' x) : EvA t ρ c' A' := fun n M σ H al le env Q k =>
  h n M σ H al (by omega) env Q fun vs H' ss e a l r => k vs H' ss (e.mono hc) (hA ss a) l fun i v s h1 h2 => (r i v s h1 h2).up (by omega)
theorem ead_v {ta : TE} {t : TA} {ρ : Ro} {x : α} {r : List Sl} (ha : Ev ta ρ 0 (Is x)) (hb : EvA t ρ 0 (fun ss => ss = r)) : EvA (tCons ta t) ρ 0 (fun ss => ss = .v (sh x) :: r) := (ea_v ha hb).imp (Nat.le_refl _) fun ss ⟨x', r', e1, e2, e⟩ => by rw [e, e1, e2]
theorem ead_pen {i : Nat} {t : TA} {ρ : Ro} {r : List Sl} (h : ρ[i]? = some (some .pen)) (hb : EvA t ρ 0 (fun ss => ss = r)) : EvA (tCons (tVar i) t) ρ 0 (fun ss => ss = .pen :: r) := (ea_pen h hb).imp (Nat.le_refl _) fun ss ⟨r', e2, e⟩ => by rw [e, e2]
theorem ev_call {c c1 : Nat} {R : List Sl → (Sh → Prop) → Prop} {E : XK} {t : TA} {ρ : Ro} {SS : List Sl → Prop} {P : α → Prop} (ha : EvA t ρ c1 SS) (hR : ∀ ss, SS ss → ∃ A, R ss A ∧ ∀ s, A s → Im P s) : Ev (tCall (spG c R) [] E t) ρ (c1 + c) P := fun n M σ H al le env Q k => by
  refine ha n M σ H al (by omega) env _ fun vs H1 ss e1 a l r => ?_
  obtain ⟨A, hr, hA⟩ := hR ss a
  show spG c R (vs ++ []) H1 Q E
  rw [List.append_nil]
  exact ⟨n + c1, M, ss, A, al.ext e1, by omega, ⟨l, r⟩, hr, fun v H2 s e2 as rs => by
    obtain ⟨x, px, rfl⟩ := hA s as
    exact k v H2 x (e1.trans e2) px rs⟩
/-- with defaults that are plain values -/
theorem ev_callD {c c1 : Nat} {R : List Sl → (Sh → Prop) → Prop} {E : XK} {t : TA} {ρ : Ro} {SS : List Sl → Prop} {P : α → Prop} {dvs : List V} {dss : List Sh} (ha : EvA t ρ c1 SS) (hd : ∀ H, RpAll H dvs dss) (hR : ∀ ss, SS ss → ∃ A, R (ss ++ dss.map .v) A ∧ ∀ s, A s → Im P s) : Ev (tCall (spG c R) dvs E t) ρ (c1 + c) P := fun n M σ H al le env Q k => by
  refine ha n M σ H al (by omega) env _ fun vs H1 ss e1 a l r => ?_
  obtain ⟨A, hr, hA⟩ := hR ss a
  have gd : ∀ {ws : List V} {ds : List Sh}, RpAll (hide M H1) ws ds → SlAll (n + c1) M H1 ws (ds.map .v) := fun {ws ds} h => by
    induction ds generalizing ws with
    | nil => cases h; exact slAll_nil
    | cons d ds ih => cases h with | cons h1 h2 => exact slAll_cons h1 (ih h2)
  have ap : ∀ {us : List V} {ts : List Sl}, SlAll (n + c1) M H1 us ts → SlAll (n + c1) M H1 (us ++ dvs) (ts ++ dss.map .v) := fun {us ts} h => by
    induction ts generalizing us with
    | nil => rw [h.unnil]; exact gd (hd _)
    | cons d ds ih =>
      obtain ⟨v, rr, rfl, h1, h2⟩ := h.uncons
      exact slAll_cons h1 (ih h2)
  exact ⟨n + c1, M, _, A, al.ext e1, by omega, ap ⟨l, r⟩, hr, fun v H2 s e2 as rs => by
    obtain ⟨x, px, rfl⟩ := hA s as
    exact k v H2 x (e1.trans e2) px rs⟩
/-- a method of an object -/
theorem ev_meth {c c0 c1 : Nat} {C : Addr} {m : Str} {R : List Sl → (Sh → Prop) → Prop} {E : XK} {ta : TE} {t : TA} {ρ : Ro} {A0 : Sh → Prop} {SS : List Sl → Prop} {P : α → Prop} (h0 : Ev ta ρ c0 A0) (ho : ∀ s, A0 s → ∃ fs, s = .obj C fs ∧ ∀ p ∈ fs, p.1 ≠ m) (ha : EvA t ρ c1 SS) (hR : ∀ s ss, A0 s → SS ss → ∃ A, R (.v s :: ss) A ∧ ∀ s, A s → Im P s) :
    Ev (tMeth C m (spG c R) [] E ta t) ρ (c0 + c1 + c) P := fun n M σ H al le env Q k => by
  refine h0 n M σ H al (by omega) env _ fun v H1 s e1 a1 r1 => ?_
  obtain ⟨fs, hs, hm⟩ := ho s a1
  have r1' : Rp (hide M H1) v s := r1
  have r2 := r1'
  rw [hs] at r2
  cases r2 with
  | @obj a C dx fv fs e rf no =>
    refine ⟨a, dx, fv, rfl, (hide_some e).2, no m hm, ?_⟩
    refine ha (n + c0) M σ H1 (al.ext e1) (by omega) (env.ext e1) _ fun vs H2 ss e2 b l r => ?_
    obtain ⟨A, hr, hA⟩ := hR s ss a1 b
    show spG c R (.ref a :: (vs ++ [])) H2 Q E
    rw [List.append_nil]
    exact ⟨n + c0 + c1, M, _, A, (al.ext e1).ext e2, by omega, slAll_cons (s := .v s) (r1'.ext e2.hide) ⟨l, r⟩, hr, fun v H3 s' e3 as rs => by
      obtain ⟨x, px, rfl⟩ := hA s' as
      exact k v H3 x ((e1.trans e2).trans e3) px rs⟩
/-- o.f -/
theorem ed_fld {K : PySem.W.Frag} {ta : TE} {f : Str} {ρ : Ro} {C : Addr} {fs : List (Str × Sh)} {s : Sh} (h0 : Ev ta ρ 0 (Is (Sh.obj C fs))) (hc : Cls K C) (hn : NoAttr K C f) (hl : fs.lookup f = some s) : Ev (tFld K ta f) ρ 0 (Is s) := fun n M σ H al le env Q k => by
  refine h0 n M σ H al (by omega) env _ fun v H1 s' e1 a1 r1 => ?_
  cases a1
  have r1' : Rp (hide M H1) v (.obj C fs) := r1
  have lk : ∀ {fv : List (Str × V)} {gs : List (Str × Sh)}, RpF (hide M H1) fv gs → gs.lookup f = some s → ∃ v, fv.lookup f = some v ∧ Rp (hide M H1) v s := fun {fv gs} h => by
    intro hl
    induction gs with
    | nil => cases hl
    | cons g gs ih =>
      cases h with
      | @cons _ f' v' s' _ l r q =>
        by_cases e : f = f'
        · subst e
          have z : s' = s := by simpa using hl
          subst z
          exact ⟨_, l, r⟩
        · exact ih q (by simpa [List.lookup, show (f == f') = false from beq_eq_false_iff_ne.mpr e] using hl)
  cases r1' with
  | @obj a C dx fv fs e rf no =>
    obtain ⟨w, l, rw'⟩ := lk rf hl
    exact ⟨a, C, dx, fv, w, rfl, (hide_some e).2, hc, hn, l, k w H1 s e1 rfl rw'⟩

/-! ### statements -/
structure Bs where
  n : Nat
  M : List Addr
  H : Hp
  al : Al M H
  G : Hp
def StX (B : Bs) (M1 : List Addr) (c : Nat) (σ : L2.St) (H : Hp) (ρ : Ro) : Prop :=
  (∀ a ∈ M1, B.H a = none) ∧ Al (M1 ++ B.M) H ∧ Ext c B.H H ∧ EnvOk (B.n + c) (M1 ++ B.M) H σ ρ ∧ (∀ (i : Nat) xs, ρ[i]? = some (some (.own xs)) → ∃ a ∈ M1, σ[i]? = some (some (.ref a))) ∧
    (∀ (i j : Nat) xs ys, ρ[i]? = some (some (.own xs)) → ρ[j]? = some (some (.own ys)) → i ≠ j → σ[i]? ≠ σ[j]?) ∧ ∃ m, Ext m B.G (hide (M1 ++ B.M) H)
structure StOk (B : Bs) (c : Nat) (σ : L2.St) (H : Hp) (ρ : Ro) : Prop where
  ex : ∃ M1 : List Addr, StX B M1 c σ H ρ
theorem StX.ext {B : Bs} {M1 : List Addr} {c c1 : Nat} {σ : L2.St} {H H' : Hp} {ρ : Ro} (hS : StX B M1 c σ H ρ) (e : Ext c1 H H') : StX B M1 (c + c1) σ H' ρ := by
  obtain ⟨h1, h2, h3, h4, h5, h6, m, h7⟩ := hS
  exact ⟨h1, h2.ext e, h3.trans e, by rw [← Nat.add_assoc]; exact h4.ext e, h5, h6, _, h7.trans e.hide⟩
theorem StX.ok {B : Bs} {M1 : List Addr} {c : Nat} {σ : L2.St} {H : Hp} {ρ : Ro} (hS : StX B M1 c σ H ρ) : StOk B c σ H ρ := ⟨M1, hS⟩
theorem StOk.up {B : Bs} {c c' : Nat} {σ : L2.St} {H : Hp} {ρ : Ro} (h : c ≤ c') (s : StOk B c σ H ρ) : StOk B c' σ H ρ := by
  obtain ⟨M1, h1, h2, h3, h4, h5, h6, h7⟩ := s.ex
  exact ⟨M1, h1, h2, h3.mono h, h4.up (by omega), h5, h6, h7⟩
theorem StOk.len {B : Bs} {c : Nat} {σ : L2.St} {H : Hp} {ρ : Ro} (s : StOk B c σ H ρ) : σ.length = ρ.length := by
  obtain ⟨M1, h1, h2, h3, h4, _⟩ := s.ex
  exact h4.1
/-- forgetting what a slot holds -/
theorem StOk.drop {B : Bs} {c : Nat} {σ : L2.St} {H : Hp} {ρ ρ' : Ro} (s : StOk B c σ H ρ) (hl : ρ'.length = ρ.length) (h : ∀ (i : Nat) x, ρ'[i]? = some (some x) → ρ[i]? = some (some x)) : StOk B c σ H ρ' := by
  obtain ⟨M1, h1, h2, h3, h4, h5, h6, h7⟩ := s.ex
  exact ⟨M1, h1, h2, h3, ⟨h4.1.trans hl.symm, fun i x e => h4.2 i x (h i x e)⟩, fun i xs e => h5 i xs (h i _ e), fun i j xs ys e1 e2 => h6 i j xs ys (h i _ e1) (h j _ e2), h7⟩
theorem s_seq {t u : TS} {D : Ends} {σ : L2.St} {H : Hp} (h : t { D with nx := u D } σ H) : tSeq t u D σ H := h
theorem StOk.set {B : Bs} {c c1 : Nat} {σ : L2.St} {H H' : Hp} {ρ : Ro} {i : Nat} {v : V} {s : Sh} (hS : StOk B c σ H ρ) (e : Ext c1 H H') (r : ∀ M1, Al (M1 ++ B.M) H → Rp (hide (M1 ++ B.M) H') v s) : StOk B (c + c1) (σ.set i (some v)) H' (ρ.set i (some (.v s))) := by
  obtain ⟨M1, h1, h2, h3, h4, h5, h6, m, h7⟩ := hS.ex
  have ns : ∀ (j : Nat) xs, (ρ.set i (some (.v s)))[j]? = some (some (.own xs)) → j ≠ i ∧ ρ[j]? = some (some (.own xs)) := fun j xs q => by
    by_cases hij : i = j
    · subst hij
      by_cases hz : i < ρ.length
      · rw [List.getElem?_set_self hz] at q; cases q
      · rw [List.getElem?_eq_none (by rw [List.length_set]; omega)] at q; cases q
    · rw [List.getElem?_set_ne hij] at q
      exact ⟨fun z => hij z.symm, q⟩
  refine ⟨M1, h1, h2.ext e, h3.trans e, ?_, fun j xs q => ?_, fun j k xs ys q1 q2 hjk => ?_, _, h7.trans e.hide⟩
  · rw [← Nat.add_assoc]
    exact (h4.ext e).set (s := .v s) (r M1 h2)
  · obtain ⟨ne, q'⟩ := ns j xs q
    rw [List.getElem?_set_ne (Ne.symm ne)]
    exact h5 j xs q'
  · obtain ⟨ne1, q1'⟩ := ns j xs q1
    obtain ⟨ne2, q2'⟩ := ns k ys q2
    rw [List.getElem?_set_ne (Ne.symm ne1), List.getElem?_set_ne (Ne.symm ne2)]
    exact h6 j k xs ys q1' q2' hjk
theorem StOk.ext {B : Bs} {c c1 : Nat} {σ : L2.St} {H H' : Hp} {ρ : Ro} (hS : StOk B c σ H ρ) (e : Ext c1 H H') : StOk B (c + c1) σ H' ρ := by
  obtain ⟨M1, h1, h2, h3, h4, h5, h6, m, h7⟩ := hS.ex
  exact ⟨M1, h1, h2.ext e, h3.trans e, by rw [← Nat.add_assoc]; exact h4.ext e, h5, h6, _, h7.trans e.hide⟩
/-- an expression evaluated within a statement -/
theorem Ev.at {te : TE} {ρ : Ro} {c1 : Nat} {A : α → Prop} {B : Bs} {c : Nat} {σ : L2.St} {H : Hp} {Q : VK} (h : Ev te ρ c1 A) (hS : StOk B c σ H ρ) (hb : B.n + (c + c1) ≤ LIM)
    (k : ∀ v H' x M1, (∀ a ∈ M1, B.H a = none) → Al (M1 ++ B.M) H' → Ext c1 H H' → A x → Rp (hide (M1 ++ B.M) H') v (sh x) → (∀ (j : Nat) xs, ρ[j]? = some (some (Sl.own xs)) → ∃ a ∈ M1, σ[j]? = some (some (V.ref a))) → StOk B (c + c1) σ H' ρ → Q v H') : te σ H Q := by
  obtain ⟨M1, h1, h2, h3, h4, h5, h6, h7⟩ := hS.ex
  exact h _ _ σ H h2 (by omega) h4 Q fun v H' x e a r => k v H' x M1 h1 (h2.ext e) e a r h5 (hS.ext e)
theorem s_set {te : TE} {ρ : Ro} {i c1 : Nat} {A : α → Prop} {D : Ends} {B : Bs} {c : Nat} {σ : L2.St} {H : Hp} (hS : StOk B c σ H ρ) (h : Ev te ρ c1 A)  (hb : B.n + (c + c1) ≤ LIM)
    (k : ∀ x, A x → ∀ σ' H', StOk B (c + c1) σ' H' (ρ.set i (some (.v (sh x)))) → D.nx σ' H') : tAsg te (gName i) D σ H := by
  obtain ⟨M1, h1, h2, h3, h4, h5, h6, m, h7⟩ := hS.ex
  refine h _ _ σ H h2 (by omega) h4 _ fun v H' x e a r => ?_
  refine k x a _ H' ?_
  have ns : ∀ (j : Nat) xs, (ρ.set i (some (.v (sh x))))[j]? = some (some (.own xs)) → j ≠ i ∧ ρ[j]? = some (some (.own xs)) := fun j xs q => by
    by_cases hij : i = j
    · subst hij
      by_cases hz : i < ρ.length
      · rw [List.getElem?_set_self hz] at q; cases q
      · rw [List.getElem?_eq_none (by rw [List.length_set]; omega)] at q; cases q
    · rw [List.getElem?_set_ne hij] at q
      exact ⟨fun z => hij z.symm, q⟩
  refine ⟨M1, h1, h2.ext e, h3.trans e, ?_, fun j xs q => ?_, fun j k xs ys q1 q2 hjk => ?_, _, h7.trans e.hide⟩
  · rw [← Nat.add_assoc]
    exact (h4.ext e).set (s := .v (sh x)) r
  · obtain ⟨ne, q'⟩ := ns j xs q
    rw [List.getElem?_set_ne (Ne.symm ne)]
    exact h5 j xs q'
  · obtain ⟨ne1, q1'⟩ := ns j xs q1
    obtain ⟨ne2, q2'⟩ := ns k ys q2
    rw [List.getElem?_set_ne (Ne.symm ne1), List.getElem?_set_ne (Ne.symm ne2)]
    exact h6 j k xs ys q1' q2' hjk
theorem s_expr {te : TE} {ρ : Ro} {c1 : Nat} {A : α → Prop} {D : Ends} {B : Bs} {c : Nat} {σ : L2.St} {H : Hp} (hS : StOk B c σ H ρ) (h : Ev te ρ c1 A)  (hb : B.n + (c + c1) ≤ LIM)
    (k : ∀ x, A x → ∀ H', StOk B (c + c1) σ H' ρ → D.nx σ H') : tDrop te D σ H := h.at hS hb fun v H' x M1 _ _ e a r _ s => k x a H' s
theorem s_ret {te : TE} {ρ : Ro} {c1 : Nat} {A : α → Prop} {D : Ends} {B : Bs} {c : Nat} {σ : L2.St} {H : Hp} (hS : StOk B c σ H ρ) (h : Ev te ρ c1 A)  (hb : B.n + (c + c1) ≤ LIM)
    (k : ∀ v H' x, Ext (c + c1) B.H H' → A x → Rp (hide B.M H') v (sh x) → D.rt v H') : tRet te D σ H := h.at hS hb fun v H' x M1 _ _ e a r _ s => by
  obtain ⟨M2, h1, h2, h3, _⟩ := s.ex
  exact k v H' x h3 a (r.same (hide_sub fun b m => List.mem_append_right _ m))
/-- a list of one's own is handed out -/
theorem s_retOwn {i : Nat} {ρ : Ro} {xs : List Sh} {D : Ends} {B : Bs} {c : Nat} {σ : L2.St} {H : Hp} (hS : StOk B c σ H ρ) (hi : ρ[i]? = some (some (.own xs))) 
    (k : ∀ v H', Ext c B.H H' → Rp (hide B.M H') v (.lst xs) → D.rt v H') : tRet (tVar i) D σ H := by
  obtain ⟨M1, h1, h2, h3, h4, h5, h6, h7⟩ := hS.ex
  obtain ⟨v, e, a, vs, rfl, ha, hv, hr⟩ := h4.2 i _ hi
  obtain ⟨a', m1, e'⟩ := h5 i xs hi
  rw [e] at e'
  cases e'
  exact ⟨_, e, k _ H h3 (.lst (hide_of (B.al.new (h1 a m1)) hv) (hr.same (hide_sub fun b m => List.mem_append_right _ m)))⟩
theorem s_if {tc : TT} {t u : TS} {ρ : Ro} {c1 : Nat} {A : Bool → Prop} {D : Ends} {B : Bs} {c : Nat} {σ : L2.St} {H : Hp} (hS : StOk B c σ H ρ) (h : EvT tc ρ c1 A)  (hb : B.n + (c + c1) ≤ LIM)
    (k1 : A true → ∀ H', StOk B (c + c1) σ H' ρ → t D σ H') (k2 : A false → ∀ H', StOk B (c + c1) σ H' ρ → u D σ H') : tIfS tc t u D σ H := by
  obtain ⟨M1, h1, h2, h3, h4, h5, h6, h7⟩ := hS.ex
  refine h _ _ σ H h2 (by omega) h4 _ fun b H' e a => ?_
  cases b with
  | true => exact k1 a H' (hS.ext e)
  | false => exact k2 a H' (hS.ext e)
/-! lists of one's own -/
def EvNew (t : TE) (ρ : Ro) (c : Nat) (A : List α → Prop) : Prop :=
  ∀ (n : Nat) (M : List Addr) (σ : L2.St) (H : Hp), Al M H → n + c ≤ LIM → EnvOk n M H σ ρ → ∀ Q : VK, (∀ p H1 H' vs xs, Ext c H H1 → H1 p = none → Same H1 H' → H' p = some (.lst vs) → A xs → RpAll (hide M H1) vs (xs.map sh) → Q (.ref p) H') → t σ H Q
theorem evn_lst {t : TA} {ρ : Ro} {c : Nat} {A : List α → Prop} (h : EvL t ρ c A) (hl : ∀ xs, A xs → xs.length ≤ sizeLine) : EvNew (tLstY t) ρ c A := fun n M σ H al le env Q k => by
  refine h n M σ H al le env _ fun vs H1 xs e ax r => ⟨by rw [r.len, List.length_map]; exact hl xs ax, fun p H2 hp s h2 => ?_⟩
  exact k p H1 H2 vs xs e hp s h2 ax r
theorem evn_listL {K : PySem.W.Frag} {ta : TE} {ρ : Ro} {c : Nat} {A : List α → Prop} (h : Ev ta ρ c A) : EvNew (α := α) (tCB (fun us H Q => ∃ p ys, us = [.ref p] ∧ (SqL K H p ys ∨ SqT K H p ys) ∧ ∀ l, H l = none → Q (.ref l) (upd H l (.lst ys))) (tCons ta tNil)) ρ c A := fun n M σ H al le env Q k => by
  refine h n M σ H al le env _ fun v H1 xs e ax r => ?_
  obtain ⟨a, vs, rfl, e', ra⟩ := Rp.lstI r
  exact ⟨a, vs, rfl, .inl (SqL.of e'), fun l hl => k l H1 _ vs xs e hl (same_upd hl) upd_same ax ra⟩
theorem evn_listT {K : PySem.W.Frag} {ta : TE} {ρ : Ro} {c : Nat} {A : Tp α → Prop} (h : Ev ta ρ c A) : EvNew (α := α) (tCB (fun us H Q => ∃ p ys, us = [.ref p] ∧ (SqL K H p ys ∨ SqT K H p ys) ∧ ∀ l, H l = none → Q (.ref l) (upd H l (.lst ys))) (tCons ta tNil)) ρ c (fun xs => A ⟨xs⟩) := fun n M σ H al le env Q k => by
  refine h n M σ H al le env _ fun v H1 xs e ax r => ?_
  obtain ⟨a, vs, rfl, e', ra⟩ := Rp.tupI r
  exact ⟨a, vs, rfl, .inr (SqT.of e'), fun l hl => k l H1 _ vs xs.l e hl (same_upd hl) upd_same ax ra⟩
theorem s_own {te : TE} {ρ : Ro} {i c1 : Nat} {A : List α → Prop} {D : Ends} {B : Bs} {c : Nat} {σ : L2.St} {H : Hp} (hS : StOk B c σ H ρ) (h : EvNew te ρ c1 A)  (hb : B.n + (c + c1) ≤ LIM)
    (k : ∀ xs, A xs → ∀ σ' H', StOk B (c + c1) σ' H' (ρ.set i (some (.own (xs.map sh)))) → D.nx σ' H') : tAsg te (gName i) D σ H := by
  obtain ⟨M1, h1, h2, h3, h4, h5, h6, m, h7⟩ := hS.ex
  refine h _ _ σ H h2 (by omega) h4 _ fun p H1 H' vs xs e hp s e' a r => ?_
  refine k xs a _ H' ?_
  have al1 := h2.ext e
  have pM : p ∉ M1 ++ B.M := al1.new hp
  have s1 : Same (hide (M1 ++ B.M) H1) (hide (p :: (M1 ++ B.M)) H') := fun b o q => by
    obtain ⟨q1, q2⟩ := hide_some q
    refine hide_of (fun z => ?_) (s b o q2)
    rcases List.mem_cons.mp z with z | z
    · rw [z, hp] at q2; cases q2
    · exact q1 z
  have al2 : Al (p :: (M1 ++ B.M)) H' := fun b mb => by
    rcases List.mem_cons.mp mb with z | z
    · exact ⟨.lst vs, trivial, by rw [z]; exact e'⟩
    · obtain ⟨o, no, q⟩ := al1 b z
      exact ⟨o, no, s _ _ q⟩
  have E1 : EnvOk (B.n + c + c1) (M1 ++ B.M) H1 σ ρ := h4.ext e
  have E2 : EnvOk (B.n + c + c1) (p :: (M1 ++ B.M)) H' σ ρ := ⟨E1.1, fun j x q => by
    obtain ⟨v, q1, q2⟩ := E1.2 j x q
    refine ⟨v, q1, ?_⟩
    cases x with
    | v x => exact Rp.same s1 q2
    | pen => obtain ⟨pp, z1, z2⟩ := q2; exact ⟨pp, z1, z2.same s1⟩
    | own ys => obtain ⟨b, ws, z1, z2, z3, z4⟩ := q2; exact ⟨b, ws, z1, List.mem_cons_of_mem _ z2, s _ _ z3, z4.same s1⟩⟩
  have E3 : EnvOk (B.n + c + c1) (p :: (M1 ++ B.M)) H' (σ.set i (some (.ref p))) (ρ.set i (some (.own (xs.map sh)))) := E2.set (s := .own (xs.map sh)) ⟨p, vs, rfl, List.mem_cons_self, e', r.same s1⟩
  have fresh : ∀ (j : Nat) ys, ρ[j]? = some (some (.own ys)) → σ[j]? ≠ some (some (V.ref p)) := fun j ys q z => by
    obtain ⟨b, mb, q1⟩ := h5 j ys q
    rw [q1] at z
    have : b = p := by cases z; rfl
    subst this
    exact pM (List.mem_append_left _ mb)
  have le : i < ρ.length ∨ ρ.length ≤ i := Nat.lt_or_ge _ _
  refine ⟨p :: M1, fun b mb => ?_, al2, (h3.trans e).snd s, by rw [← Nat.add_assoc]; exact E3, fun j ys q => ?_, fun j l ys zs q1 q2 hjl => ?_, _, (h7.trans e.hide).snd s1⟩
  · rcases List.mem_cons.mp mb with z | z
    · rw [z]; exact (h3.trans e).dom hp
    · exact h1 b z
  · by_cases hij : i = j
    · subst hij
      rcases le with z | z
      · exact ⟨p, List.mem_cons_self, by rw [List.getElem?_set_self (by rw [h4.1]; exact z)]⟩
      · rw [List.getElem?_eq_none (by rw [List.length_set]; exact z)] at q; cases q
    · rw [List.getElem?_set_ne hij] at q ⊢
      obtain ⟨b, mb, q1⟩ := h5 j ys q
      exact ⟨b, List.mem_cons_of_mem _ mb, q1⟩
  · by_cases hij : i = j
    · subst hij
      rcases le with z | z
      · rw [List.getElem?_set_ne hjl] at q2 ⊢
        rw [List.getElem?_set_self (by rw [h4.1]; exact z)]
        exact fun w => fresh l zs q2 w.symm
      · rw [List.getElem?_eq_none (by rw [List.length_set]; exact z)] at q1; cases q1
    · rw [List.getElem?_set_ne hij] at q1 ⊢
      by_cases hil : i = l
      · subst hil
        rcases le with z | z
        · rw [List.getElem?_set_self (by rw [h4.1]; exact z)]
          exact fresh j ys q1
        · rw [List.getElem?_eq_none (by rw [List.length_set]; exact z)] at q2; cases q2
      · rw [List.getElem?_set_ne hil] at q2 ⊢
        exact h6 j l ys zs q1 q2 hjl
/-- the list of one's own at slot i changes -/
theorem StX.mut {B : Bs} {M1 : List Addr} {c : Nat} {σ : L2.St} {H H' : Hp} {ρ : Ro} {i : Nat} {p : Addr} {vs : List V} {xs ys : List Sh} (hS : StX B M1 c σ H ρ) (hi : ρ[i]? = some (some (.own xs))) (hp : σ[i]? = some (some (.ref p))) (bt : But p H H') (e : H' p = some (.lst vs))
    (r : RpAll (hide (M1 ++ B.M) H) vs ys) : StX B M1 c σ H' (ρ.set i (some (.own ys))) := by
  obtain ⟨h1, h2, h3, h4, h5, h6, m, h7⟩ := hS
  have hz : i < ρ.length := (List.getElem?_eq_some_iff.mp hi).1
  obtain ⟨a, am, ea⟩ := h5 i xs hi
  rw [hp] at ea
  cases ea
  have pM : p ∈ M1 ++ B.M := List.mem_append_left _ am
  have s1 : Same (hide (M1 ++ B.M) H) (hide (M1 ++ B.M) H') := fun b o q => by
    obtain ⟨q1, q2⟩ := hide_some q
    exact hide_of q1 (bt b o (fun z => q1 (by rw [z]; exact pM)) q2)
  have so : Same B.H (hide [p] B.H) := fun b o q => hide_of (fun z => by rw [List.mem_singleton.mp z, h1 p am] at q; cases q) q
  have x3 : Ext c B.H H' := by
    have z : Ext c (hide [p] B.H) (hide [p] H) := h3.hide
    have z2 : Same (hide [p] H) H' := fun b o q => by
      obtain ⟨q1, q2⟩ := hide_some q
      exact bt b o (fun w => q1 (by rw [w]; exact List.mem_singleton.mpr rfl)) q2
    exact (Ext.fst so z).snd z2
  refine ⟨h1, fun b mb => ?_, x3, ⟨by rw [List.length_set]; exact h4.1, fun j x q => ?_⟩, fun j zs q => ?_, fun j l us zs q1 q2 hjl => ?_, _, h7.snd s1⟩
  · by_cases z : b = p
    · exact ⟨.lst vs, trivial, by rw [z]; exact e⟩
    · obtain ⟨o, no, q⟩ := h2 b mb
      exact ⟨o, no, bt b o z q⟩
  · by_cases hij : i = j
    · subst hij
      rw [List.getElem?_set_self hz] at q
      cases q
      exact ⟨_, hp, p, vs, rfl, pM, e, r.same s1⟩
    · rw [List.getElem?_set_ne hij] at q
      obtain ⟨v, q1, q2⟩ := h4.2 j x q
      refine ⟨v, q1, ?_⟩
      cases x with
      | v x => exact Rp.same s1 q2
      | pen => obtain ⟨pp, z1, z2⟩ := q2; exact ⟨pp, z1, z2.same s1⟩
      | own us =>
        obtain ⟨b, ws, z1, z2, z3, z4⟩ := q2
        refine ⟨b, ws, z1, z2, bt b _ (fun w => ?_) z3, z4.same s1⟩
        refine h6 i j xs us hi q hij ?_
        rw [hp, q1, z1, w]
  · by_cases hij : i = j
    · subst hij
      exact ⟨p, am, hp⟩
    · rw [List.getElem?_set_ne hij] at q
      exact h5 j zs q
  · have back : ∀ (j : Nat) us, (ρ.set i (some (.own ys)))[j]? = some (some (.own us)) → ∃ us', ρ[j]? = some (some (.own us')) := fun j us q => by
      by_cases hij : i = j
      · subst hij; exact ⟨xs, hi⟩
      · rw [List.getElem?_set_ne hij] at q; exact ⟨us, q⟩
    obtain ⟨u', q1'⟩ := back j us q1
    obtain ⟨z', q2'⟩ := back l zs q2
    exact h6 j l u' z' q1' q2' hjl
/-- what a slot of one's own holds -/
theorem StX.ownAt {B : Bs} {M1 : List Addr} {c : Nat} {σ : L2.St} {H : Hp} {ρ : Ro} {i : Nat} {xs : List Sh} (hS : StX B M1 c σ H ρ) (hi : ρ[i]? = some (some (.own xs))) : ∃ p vs, σ[i]? = some (some (.ref p)) ∧ H p = some (.lst vs) ∧ RpAll (hide (M1 ++ B.M) H) vs xs := by
  obtain ⟨h1, h2, h3, h4, h5, h6, h7⟩ := hS
  obtain ⟨v, e, a, vs, rfl, ha, hv, hr⟩ := h4.2 i _ hi
  exact ⟨a, vs, e, hv, hr⟩
theorem Ev.atX {te : TE} {ρ : Ro} {c1 : Nat} {A : α → Prop} {B : Bs} {M1 : List Addr} {c : Nat} {σ : L2.St} {H : Hp} {Q : VK} (h : Ev te ρ c1 A) (hS : StX B M1 c σ H ρ) (hb : B.n + (c + c1) ≤ LIM)
    (k : ∀ v H' x, Ext c1 H H' → A x → Rp (hide (M1 ++ B.M) H') v (sh x) → StX B M1 (c + c1) σ H' ρ → Q v H') : te σ H Q := by
  obtain ⟨h1, h2, h3, h4, h5, h6, h7⟩ := id hS
  exact h _ _ σ H h2 (by omega) h4 Q fun v H' x e a r => k v H' x e a r (hS.ext e)
/-- found.append(e) -/
theorem s_app {K : PySem.W.Frag} {te : TE} {ρ : Ro} {i c1 : Nat} {xs : List Sh} {A : α → Prop} {D : Ends} {B : Bs} {c : Nat} {σ : L2.St} {H : Hp} (hS : StOk B c σ H ρ) (hi : ρ[i]? = some (some (.own xs))) (h : Ev te ρ c1 A)  (hb : B.n + (c + c1) ≤ LIM) (hl : xs.length < sizeLine)
    (k : ∀ x, A x → ∀ H', StOk B (c + c1) σ H' (ρ.set i (some (.own (xs ++ [sh x])))) → D.nx σ H') :
    tDrop (tBM K "list" (fun x vs H Q => ∃ l xs y, x = .ref l ∧ vs = [y] ∧ H l = some (.lst xs) ∧ xs.length < sizeLine ∧ ∀ H2, But l H H2 → H2 l = some (.lst (xs ++ [y])) → Q .non H2) (tVar i) (tCons te tNil)) D σ H := by
  obtain ⟨M1, hX⟩ := hS.ex
  obtain ⟨p, vs, ep, hp, _⟩ := hX.ownAt hi
  refine ⟨_, ep, .inl ⟨rfl, vs, SqL.of hp⟩, ?_⟩
  refine h.atX hX hb fun v H' x e a r s => ?_
  obtain ⟨p', vs', ep', hp', rv⟩ := s.ownAt hi
  rw [ep] at ep'
  cases ep'
  exact ⟨p, vs', v, rfl, rfl, hp', by rw [rv.len]; exact hl, fun H2 bt e2 => k x a H2 (s.mut hi ep bt e2 (rv.app (.cons r .nil))).ok⟩
/-- name = found.pop(e) and other uses: the item at place j goes out -/
theorem pop_own {K : PySem.W.Frag} {te : TE} {ρ : Ro} {i c1 : Nat} {xs : List Sh} {A : Int → Prop} {Q : VK} {B : Bs} {c : Nat} {σ : L2.St} {H : Hp} (hS : StOk B c σ H ρ) (hi : ρ[i]? = some (some (.own xs))) (h : Ev te ρ c1 A)  (hb : B.n + (c + c1) ≤ LIM) (hl : xs.length < sizeLine)
    (hA : ∀ j, A j → 0 ≤ j ∧ j < xs.length)
    (k : ∀ j x v H' M1, A j → xs[j.toNat]? = some x → Rp (hide (M1 ++ B.M) H') v x → StX B M1 (c + c1) σ H' (ρ.set i (some (.own (xs.eraseIdx j.toNat)))) → Q v H') :
    tBM K "list" rPopAt (tVar i) (tCons te tNil) σ H Q := by
  obtain ⟨M1, hX⟩ := hS.ex
  obtain ⟨p, vs, ep, hp, _⟩ := hX.ownAt hi
  refine ⟨_, ep, .inl ⟨rfl, vs, SqL.of hp⟩, ?_⟩
  refine h.atX hX hb fun v H' j e a r s => ?_
  cases r
  obtain ⟨p', vs', ep', hp', rv⟩ := s.ownAt hi
  rw [ep] at ep'
  cases ep'
  obtain ⟨j0, j1⟩ := hA j a
  have hlen := rv.len
  have hs : sizeLine = 16777216 := sizeLine_eq
  have hj : j.toNat < xs.length := by omega
  obtain ⟨v, hv, rx⟩ := rv.get (List.getElem?_eq_getElem hj)
  have er : ∀ {ws : List V} {zs : List Sh} (m : Nat), RpAll (hide (M1 ++ B.M) H') ws zs → RpAll (hide (M1 ++ B.M) H') (ws.eraseIdx m) (zs.eraseIdx m) := fun {ws zs} m q => by
    induction ws generalizing zs m with
    | nil => cases q; exact .nil
    | cons w ws ih =>
      cases q with
      | cons q1 q2 =>
        cases m with
        | zero => exact q2
        | succ m => exact .cons q1 (ih m q2)
  have pM : p ∈ M1 ++ B.M := by
    obtain ⟨_, _, _, h4, h5, _⟩ := hX
    obtain ⟨b, mb, eb⟩ := h5 i xs hi
    rw [ep] at eb
    cases eb
    exact List.mem_append_left _ mb
  have s1 : Same (hide (M1 ++ B.M) H') (hide (M1 ++ B.M) (upd H' p (.lst (vs'.eraseIdx j.toNat)))) := fun b o q => by
    obtain ⟨q1, q2⟩ := hide_some q
    exact hide_of q1 (by rw [upd_ne (fun w => q1 (by rw [w]; exact pM))]; exact q2)
  refine ⟨p, vs', j, j.toNat, v, rfl, rfl, hp', by omega, by omega, ?_, hv, k j _ v _ M1 a (List.getElem?_eq_getElem hj) (rx.same s1) (s.mut hi ep but_upd upd_same (er _ rv))⟩
  unfold seqIndex?
  simp
  omega
/-- found.append(left.pop(e)) -/
theorem s_appPop {K : PySem.W.Frag} {te : TE} {ρ : Ro} {i j c1 : Nat} {xs ys : List Sh} {A : Int → Prop} {D : Ends} {B : Bs} {c : Nat} {σ : L2.St} {H : Hp} (hS : StOk B c σ H ρ) (hi : ρ[i]? = some (some (.own xs))) (hj : ρ[j]? = some (some (.own ys))) (hij : i ≠ j) (h : Ev te ρ c1 A)  (hb : B.n + (c + c1) ≤ LIM)
    (hl : xs.length < sizeLine) (hl2 : ys.length < sizeLine) (hA : ∀ m, A m → 0 ≤ m ∧ m < ys.length)
    (k : ∀ m x, A m → ys[m.toNat]? = some x → ∀ H', StOk B (c + c1) σ H' ((ρ.set j (some (.own (ys.eraseIdx m.toNat)))).set i (some (.own (xs ++ [x])))) → D.nx σ H') :
    tDrop (tBM K "list" (fun x vs H Q => ∃ l xs y, x = .ref l ∧ vs = [y] ∧ H l = some (.lst xs) ∧ xs.length < sizeLine ∧ ∀ H2, But l H H2 → H2 l = some (.lst (xs ++ [y])) → Q .non H2) (tVar i) (tCons (tBM K "list" rPopAt (tVar j) (tCons te tNil)) tNil)) D σ H := by
  obtain ⟨M1, hX⟩ := hS.ex
  obtain ⟨p, vs, ep, hp, _⟩ := hX.ownAt hi
  refine ⟨_, ep, .inl ⟨rfl, vs, SqL.of hp⟩, ?_⟩
  refine pop_own hS hj h hb hl2 hA fun m x v H' M2 am ex rx s => ?_
  have hi' : (ρ.set j (some (.own (ys.eraseIdx m.toNat))))[i]? = some (some (.own xs)) := by
    rw [List.getElem?_set_ne (Ne.symm hij)]
    exact hi
  obtain ⟨p', vs', ep', hp', rv⟩ := s.ownAt hi'
  rw [ep] at ep'
  cases ep'
  exact ⟨p, vs', v, rfl, rfl, hp', by rw [rv.len]; exact hl, fun H2 bt e2 => k m x am ex H2 (s.mut hi' ep bt e2 (rv.app (.cons rx .nil))).ok⟩
/-- len of a list of one's own, an item of it, the whole as a tuple -/
theorem ev_lenOwn {K : PySem.W.Frag} {ρ : Ro} {i : Nat} {xs : List Sh} (h : ρ[i]? = some (some (.own xs))) : Ev (α := Int) (tCB (fun us H Q => ∃ p ys, us = [.ref p] ∧ (SqL K H p ys ∨ SqT K H p ys) ∧ Q (.int ys.length) H) (tCons (tVar i) tNil)) ρ 0 (Is (xs.length : Int)) := fun n M σ H al le env Q k => by
  obtain ⟨v, e, a, vs, rfl, m, hv, r⟩ := env.2 _ _ h
  exact ⟨_, e, a, vs, rfl, .inl (SqL.of hv), k _ H _ (.refl H) (by rw [r.len]) (.int _)⟩
theorem ev_tupOwn {K : PySem.W.Frag} {ρ : Ro} {i : Nat} {xs : List α} (h : ρ[i]? = some (some (.own (xs.map sh)))) : Ev (α := Tp α) (tCB (fun us H Q => ∃ p ys, us = [.ref p] ∧ ((SqL K H p ys ∧ ∀ l, H l = none → Q (.ref l) (upd H l (.tup ys))) ∨ (SqT K H p ys ∧ Q (.ref p) H))) (tCons (tVar i) tNil)) ρ 0 (Is (Tp.mk xs)) := fun n M σ H al le env Q k => by
  obtain ⟨v, e, a, vs, rfl, m, hv, r⟩ := env.2 _ _ h
  exact ⟨_, e, a, vs, rfl, .inl ⟨SqL.of hv, fun l hl => k _ _ _ (.same (same_upd hl)) rfl (.tup (new_at al hl upd_same) (r.same (same_hide (same_upd hl))))⟩⟩
theorem ev_ixOwn {K : PySem.W.Frag} {ta : TE} {ρ : Ro} {i : Nat} {xs : List α} {c : Nat} {A : Int → Prop} (h : ρ[i]? = some (some (.own (xs.map sh)))) (ha : Ev ta ρ c A) (hA : ∀ j, A j → ∃ z, atI xs j = some z) : Ev (α := α) (tOp (rIxL K) (tVar i) ta) ρ c (fun z => ∃ j, A j ∧ atI xs j = some z) := fun n M σ H al le env Q k => by
  obtain ⟨v, e, a, vs, rfl, m, hv, r⟩ := env.2 _ _ h
  refine ⟨_, e, ?_⟩
  refine ha n M σ H al le env _ fun w H1 j e1 aj rj => ?_
  cases rj
  obtain ⟨z, hz⟩ := hA j aj
  obtain ⟨u, hu, ru⟩ := rpAll_atI (r.ext e1.hide) (atI_map sh hz)
  exact ⟨a, vs, j, u, rfl, rfl, SqL.of (e1.keep _ _ trivial hv), hu, k u H1 z e1 ⟨j, aj, hz⟩ ru⟩
/-- a list of one's own becomes a plain one -/
theorem StOk.freeze {B : Bs} {c : Nat} {σ : L2.St} {H : Hp} {ρ : Ro} {i : Nat} {xs : List Sh} (hS : StOk B c σ H ρ) (hi : ρ[i]? = some (some (.own xs))) : StOk B c σ H (ρ.set i (some (.v (.lst xs)))) := by
  obtain ⟨M1, h1, h2, h3, h4, h5, h6, m, h7⟩ := hS.ex
  have hz : i < ρ.length := (List.getElem?_eq_some_iff.mp hi).1
  obtain ⟨v, e, a, vs, rfl, ha, hv, hr⟩ := h4.2 i _ hi
  obtain ⟨a', am, ea⟩ := h5 i xs hi
  rw [e] at ea
  cases ea
  have sub : ∀ b, b ∈ M1.filter (· ≠ a) ++ B.M → b ∈ M1 ++ B.M := fun b mb => by
    rcases List.mem_append.mp mb with z | z
    · exact List.mem_append_left _ (List.mem_filter.mp z).1
    · exact List.mem_append_right _ z
  have s1 := hide_sub (H := H) sub
  have na : a ∉ M1.filter (· ≠ a) ++ B.M := fun mb => by
    rcases List.mem_append.mp mb with z | z
    · simpa using (List.mem_filter.mp z).2
    · exact B.al.new (h1 a am) z
  refine ⟨M1.filter (· ≠ a), fun b mb => h1 b (List.mem_filter.mp mb).1, fun b mb => h2 b (sub b mb), h3, ⟨by rw [List.length_set]; exact h4.1, fun j x q => ?_⟩, fun j zs q => ?_, fun j l us zs q1 q2 hjl => ?_, _, h7.snd s1⟩
  · by_cases hij : i = j
    · subst hij
      rw [List.getElem?_set_self hz] at q
      cases q
      exact ⟨_, e, .lst (hide_of na hv) (hr.same s1)⟩
    · rw [List.getElem?_set_ne hij] at q
      obtain ⟨v, q1, q2⟩ := h4.2 j x q
      refine ⟨v, q1, ?_⟩
      cases x with
      | v x => exact Rp.same s1 q2
      | pen => obtain ⟨pp, z1, z2⟩ := q2; exact ⟨pp, z1, z2.same s1⟩
      | own us =>
        obtain ⟨b, ws, z1, z2, z3, z4⟩ := q2
        obtain ⟨b', bm, eb⟩ := h5 j us q
        rw [q1, z1] at eb
        cases eb
        have hne : b ≠ a := fun w => h6 i j xs us hi q hij (by rw [e, q1, z1, w])
        exact ⟨b, ws, z1, List.mem_append_left _ (List.mem_filter.mpr ⟨bm, by simpa using hne⟩), z3, z4.same s1⟩
  · by_cases hij : i = j
    · subst hij
      rw [List.getElem?_set_self hz] at q; cases q
    · rw [List.getElem?_set_ne hij] at q
      obtain ⟨b, mb, q1⟩ := h5 j zs q
      have hne : b ≠ a := fun w => h6 i j xs zs hi q hij (by rw [e, q1, w])
      exact ⟨b, List.mem_filter.mpr ⟨mb, by simpa using hne⟩, q1⟩
  · have back : ∀ (j : Nat) us, (ρ.set i (some (.v (.lst xs))))[j]? = some (some (.own us)) → ρ[j]? = some (some (.own us)) := fun j us q => by
      by_cases hij : i = j
      · subst hij; rw [List.getElem?_set_self hz] at q; cases q
      · rw [List.getElem?_set_ne hij] at q; exact q
    exact h6 j l us zs (back j us q1) (back l zs q2) hjl

/-! ### loops -/
def Bs.at (B : Bs) (g : Hp) : Bs := ⟨B.n, B.M, B.H, B.al, g⟩
def noOwnAt (own : List Nat) (ρ : Ro) : Bool := own.all fun i => match ρ[i]? with | some (some (.own _)) => false | _ => true
theorem TgOk.at {g : TG} {s : Sh} {own : List Nat} {ρ ρ' : Ro} (h : TgOk g s own ρ ρ') (hno' : noOwnAt own ρ' = true) {B : Bs} {M1 : List Addr} {c : Nat} {σ : L2.St} {H : Hp} {v : V} {Q : L2.St → Hp → Prop} (hS : StX B M1 c σ H ρ) (r : Rp (hide (M1 ++ B.M) H) v s)
    (k : ∀ σ', StOk B c σ' H ρ' → Q σ' H) : g v σ H Q := by
  obtain ⟨h1, h2, h3, h4, h5, h6, h7⟩ := hS
  have hno : ∀ (i : Nat) xs, ρ'[i]? = some (some (.own xs)) → i ∉ own ∧ ρ[i]? = some (some (.own xs)) := fun i xs q => ⟨fun m => (by
    have z := List.all_eq_true.mp hno' i m
    rw [q] at z
    cases z), h.1.2 i xs q⟩
  refine h.2 _ _ H σ v Q h2 h4 r fun σ' l o env => k σ' ⟨M1, h1, h2, h3, env, fun i xs q => ?_, fun i j xs ys q1 q2 hij => ?_, h7⟩
  · obtain ⟨ni, q'⟩ := hno i xs q
    rw [o i ni]
    exact h5 i xs q'
  · obtain ⟨ni, q1'⟩ := hno i xs q1
    obtain ⟨nj, q2'⟩ := hno j ys q2
    rw [o i ni, o j nj]
    exact h6 i j xs ys q1' q2' hij
/-- for .. in a list (a name, a comprehension ..): J says what the slots hold before turn i -/
theorem s_forL {K : PySem.W.Frag} {tl : TE} {g : TG} {tb : TS} {own : List Nat} {ρ : Ro} {D : Ends} {B : Bs} {c c0 cc : Nat} {σ : L2.St} {H : Hp} {xs : List α} (hS : StOk B c σ H ρ) (J : Nat → Ro → Prop)
    (hs : Ev tl ρ c0 (Is xs))  (hb : B.n + (c + c0) ≤ LIM) (h0 : J 0 ρ)
    (turn : ∀ G i x ρi, xs[i]? = some x → J i ρi → ∃ ρ', TgOk g (sh x) own ρi ρ' ∧ noOwnAt own ρ' = true ∧
      ∀ σ H, StOk (B.at G) (c + c0 + i * cc) σ H ρ' → ∀ N : L2.St → Hp → Prop, (∀ σ H ρ2, J (i + 1) ρ2 → StOk (B.at G) (c + c0 + (i + 1) * cc) σ H ρ2 → N σ H) → tb { D with nx := N, ct := N, bk := D.nx } σ H)
    (done : ∀ ρ2, J xs.length ρ2 → ∀ σ H, StOk B (c + c0 + xs.length * cc) σ H ρ2 → D.nx σ H) : tFor (iList K tl) g tb D σ H := by
  obtain ⟨M1, hX⟩ := hS.ex
  refine hs.atX hX hb fun v H1 ys e a r s => ?_
  cases a
  obtain ⟨a, vs, rfl, ea, ra⟩ := Rp.lstI r
  have lv := ra.len
  rw [List.length_map] at lv
  obtain ⟨h1, h2, h3, h4, h5, h6, m0, h7⟩ := id s
  have ea' : hide (M1 ++ B.M) H1 a = some (.lst vs) := by
    cases r with
    | lst q _ =>
      have q2 := (hide_some q).2
      rw [ea] at q2
      cases q2
      exact q
  have conv : ∀ {c : Nat} {σ : L2.St} {H : Hp} {ρ : Ro}, StOk (B.at (hide (M1 ++ B.M) H1)) c σ H ρ → StOk B c σ H ρ := fun z => by
    obtain ⟨M2, z1, z2, z3, z4, z5, z6, m, z7⟩ := z.ex
    exact ⟨M2, z1, z2, z3, z4, z5, z6, _, h7.trans z7⟩
  refine ⟨a, rfl, ⟨vs, SqL.of ea⟩, for_list (K := K) (a := a) (xs := vs) (fun i σ H => ∃ ρ2, J i ρ2 ∧ StOk (B.at (hide (M1 ++ B.M) H1)) (c + c0 + i * cc) σ H ρ2)
    ⟨ρ, h0, M1, h1, h2, by rw [Nat.zero_mul]; exact h3, by rw [Nat.zero_mul]; exact h4, h5, h6, 0, .refl _⟩ (fun i σ H hi ⟨ρ2, j, z⟩ => ?_) (fun i x σ H hi ⟨ρ2, j, z⟩ => ?_) fun σ H ⟨ρ2, j, z⟩ => ?_⟩
  · obtain ⟨M2, z1, z2, z3, z4, z5, z6, m, z7⟩ := z.ex
    exact SqL.of (hide_some (z7.keep a (.lst vs) trivial ea')).2
  · obtain ⟨M2, z⟩ := z.ex
    obtain ⟨z1, z2, z3, z4, z5, z6, m, z7⟩ := id z
    obtain ⟨sx, hx, rx⟩ := ra.getV hi
    rw [List.getElem?_map] at hx
    cases hx' : xs[i]? with
    | none => rw [hx'] at hx; cases hx
    | some y =>
      rw [hx'] at hx
      cases hx
      obtain ⟨ρ', tg, no, body⟩ := turn _ i y ρ2 hx' j
      exact tg.at no z (rx.ext z7) fun σ' s' => body σ' H s' _ fun σ3 H3 ρ3 j3 s3 => ⟨ρ3, j3, s3⟩
  · rw [lv] at j z
    exact done ρ2 j σ H (conv z)
theorem s_forT {K : PySem.W.Frag} {tl : TE} {g : TG} {tb : TS} {own : List Nat} {ρ : Ro} {D : Ends} {B : Bs} {c c0 cc : Nat} {σ : L2.St} {H : Hp} {xs : Tp α} (hS : StOk B c σ H ρ) (J : Nat → Ro → Prop)
    (hs : Ev tl ρ c0 (Is xs))  (hb : B.n + (c + c0) ≤ LIM) (h0 : J 0 ρ)
    (turn : ∀ G i x ρi, xs.l[i]? = some x → J i ρi → ∃ ρ', TgOk g (sh x) own ρi ρ' ∧ noOwnAt own ρ' = true ∧
      ∀ σ H, StOk (B.at G) (c + c0 + i * cc) σ H ρ' → ∀ N : L2.St → Hp → Prop, (∀ σ H ρ2, J (i + 1) ρ2 → StOk (B.at G) (c + c0 + (i + 1) * cc) σ H ρ2 → N σ H) → tb { D with nx := N, ct := N, bk := D.nx } σ H)
    (done : ∀ ρ2, J xs.l.length ρ2 → ∀ σ H, StOk B (c + c0 + xs.l.length * cc) σ H ρ2 → D.nx σ H) : tFor (iTup K tl) g tb D σ H := by
  obtain ⟨M1, hX⟩ := hS.ex
  refine hs.atX hX hb fun v H1 ys e a r s => ?_
  cases a
  obtain ⟨a, vs, rfl, ea, ra⟩ := Rp.tupI r
  have lv := ra.len
  rw [List.length_map] at lv
  obtain ⟨h1, h2, h3, h4, h5, h6, m0, h7⟩ := id s
  have ea' : hide (M1 ++ B.M) H1 a = some (.tup vs) := by
    cases r with
    | tup q _ =>
      have q2 := (hide_some q).2
      rw [ea] at q2
      cases q2
      exact q
  have conv : ∀ {c : Nat} {σ : L2.St} {H : Hp} {ρ : Ro}, StOk (B.at (hide (M1 ++ B.M) H1)) c σ H ρ → StOk B c σ H ρ := fun z => by
    obtain ⟨M2, z1, z2, z3, z4, z5, z6, m, z7⟩ := z.ex
    exact ⟨M2, z1, z2, z3, z4, z5, z6, _, h7.trans z7⟩
  refine ⟨a, rfl, ⟨vs, SqT.of ea⟩, for_tup (K := K) (a := a) (xs := vs) (fun i σ H => ∃ ρ2, J i ρ2 ∧ StOk (B.at (hide (M1 ++ B.M) H1)) (c + c0 + i * cc) σ H ρ2)
    ⟨ρ, h0, M1, h1, h2, by rw [Nat.zero_mul]; exact h3, by rw [Nat.zero_mul]; exact h4, h5, h6, 0, .refl _⟩ (fun i σ H hi ⟨ρ2, j, z⟩ => ?_) (fun i x σ H hi ⟨ρ2, j, z⟩ => ?_) fun σ H ⟨ρ2, j, z⟩ => ?_⟩
  · obtain ⟨M2, z1, z2, z3, z4, z5, z6, m, z7⟩ := z.ex
    exact SqT.of (hide_some (z7.keep a (.tup vs) trivial ea')).2
  · obtain ⟨M2, z⟩ := z.ex
    obtain ⟨z1, z2, z3, z4, z5, z6, m, z7⟩ := id z
    obtain ⟨sx, hx, rx⟩ := ra.getV hi
    rw [List.getElem?_map] at hx
    cases hx' : xs.l[i]? with
    | none => rw [hx'] at hx; cases hx
    | some y =>
      rw [hx'] at hx
      cases hx
      obtain ⟨ρ', tg, no, body⟩ := turn _ i y ρ2 hx' j
      exact tg.at no z (rx.ext z7) fun σ' s' => body σ' H s' _ fun σ3 H3 ρ3 j3 s3 => ⟨ρ3, j3, s3⟩
  · rw [lv] at j z
    exact done ρ2 j σ H (conv z)
theorem s_forR {ta : TE} {g : TG} {tb : TS} {own : List Nat} {ρ : Ro} {D : Ends} {B : Bs} {c c0 cc : Nat} {σ : L2.St} {H : Hp} {m : Int} (hS : StOk B c σ H ρ) (J : Nat → Ro → Prop)
    (hs : Ev ta ρ c0 (Is m))  (hb : B.n + (c + c0) ≤ LIM) (hm : -(2 ^ 62) ≤ m ∧ m < 2 ^ 62) (h0 : J 0 ρ)
    (turn : ∀ (i : Nat) ρi, (i : Int) < m → J i ρi → ∃ ρ', TgOk g (sh (0 + (i : Int))) own ρi ρ' ∧ noOwnAt own ρ' = true ∧
      ∀ σ H, StOk B (c + c0 + i * cc) σ H ρ' → ∀ N : L2.St → Hp → Prop, (∀ σ H ρ2, J (i + 1) ρ2 → StOk B (c + c0 + (i + 1) * cc) σ H ρ2 → N σ H) → tb { D with nx := N, ct := N, bk := D.nx } σ H)
    (done : ∀ ρ2, J m.toNat ρ2 → ∀ σ H, StOk B (c + c0 + m.toNat * cc) σ H ρ2 → D.nx σ H) : tFor (iRng1 (tCons ta tNil)) g tb D σ H := by
  obtain ⟨M1, hX⟩ := hS.ex
  refine hs.atX hX hb fun v H1 k e a r s => ?_
  cases a
  cases r
  refine ⟨m, rfl, hm.1, hm.2, for_range (lo := 0) (n := m.toNat) (fun i σ H => ∃ ρ2, J i ρ2 ∧ StOk B (c + c0 + i * cc) σ H ρ2) ⟨ρ, h0, M1, by rw [Nat.zero_mul]; exact s⟩ (fun i σ H hi ⟨ρ2, j, z⟩ => ?_) fun σ H ⟨ρ2, j, z⟩ => done ρ2 j σ H z⟩
  obtain ⟨M2, z⟩ := z.ex
  obtain ⟨ρ', tg, no, body⟩ := turn i ρ2 (by omega) j
  exact tg.at no z (.int _) fun σ' s' => body σ' H s' _ fun σ3 H3 ρ3 j3 s3 => ⟨ρ3, j3, s3⟩
/-- over range(m), m not known -/
theorem s_forRn {ta : TE} {g : TG} {tb : TS} {own : List Nat} {ρ : Ro} {D : Ends} {B : Bs} {c c0 cc : Nat} {σ : L2.St} {H : Hp} {A : Int → Prop} (hS : StOk B c σ H ρ) (J : Nat → Ro → Prop)
    (hs : Ev ta ρ c0 A)  (hb : B.n + (c + c0) ≤ LIM) (hm : ∀ m, A m → -(2 ^ 62) ≤ m ∧ m < 2 ^ 62) (h0 : J 0 ρ)
    (turn : ∀ (m : Int) (i : Nat) ρi, A m → (i : Int) < m → J i ρi → ∃ ρ', TgOk g (sh (0 + (i : Int))) own ρi ρ' ∧ noOwnAt own ρ' = true ∧
      ∀ σ H, StOk B (c + c0 + i * cc) σ H ρ' → ∀ N : L2.St → Hp → Prop, (∀ σ H ρ2, J (i + 1) ρ2 → StOk B (c + c0 + (i + 1) * cc) σ H ρ2 → N σ H) → tb { D with nx := N, ct := N, bk := D.nx } σ H)
    (done : ∀ (m : Int) ρ2, A m → J m.toNat ρ2 → ∀ σ H, StOk B (c + c0 + m.toNat * cc) σ H ρ2 → D.nx σ H) : tFor (iRng1 (tCons ta tNil)) g tb D σ H := by
  obtain ⟨M1, hX⟩ := hS.ex
  refine hs.atX hX hb fun v H1 m e a r s => ?_
  cases r
  refine ⟨m, rfl, (hm m a).1, (hm m a).2, for_range (lo := 0) (n := m.toNat) (fun i σ H => ∃ ρ2, J i ρ2 ∧ StOk B (c + c0 + i * cc) σ H ρ2) ⟨ρ, h0, M1, by rw [Nat.zero_mul]; exact s⟩ (fun i σ H hi ⟨ρ2, j, z⟩ => ?_) fun σ H ⟨ρ2, j, z⟩ => done m ρ2 a j σ H z⟩
  obtain ⟨M2, z⟩ := z.ex
  obtain ⟨ρ', tg, no, body⟩ := turn m i ρ2 a (by omega) j
  exact tg.at no z (.int _) fun σ' s' => body σ' H s' _ fun σ3 H3 ρ3 j3 s3 => ⟨ρ3, j3, s3⟩
end
end Yarn

set_option Elab.async false
set_option linter.all false
set_option maxRecDepth 100000
set_option maxHeartbeats 4000000
namespace Yarn
open PySem PySem.Spec PyProof.Rows L2 Ty
def freeOwn (own : List Nat) (ρ : Ro) : Bool := own.all fun i => match ρ[i]? with | some (some _) => false | _ => true
theorem ho_of {own : List Nat} {ρ : Ro} (h : freeOwn own ρ = true) : ∀ i ∈ own, ∀ s, ρ[i]? ≠ some (some s) := fun i hi s e => by
  have z := List.all_eq_true.mp h i hi
  rw [e] at z
  cases z
theorem Im.is {α : Type} [Ty α] (z : α) : ∀ s, Im (Is z) s → s = sh z := fun s ⟨x, e, e'⟩ => by rw [e', e]

theorem atI_some {α : Type} {xs : List α} {i : Int} (h0 : 0 ≤ i) (h1 : i < xs.length) : ∃ z, atI xs i = some z := by
  obtain ⟨j, rfl⟩ : ∃ j : Nat, i = j := ⟨i.toNat, by omega⟩
  have hj : j < xs.length := by omega
  exact ⟨xs[j], atI_nat (List.getElem?_eq_getElem hj)⟩
theorem atI_last {α : Type} {xs : List α} (h : xs ≠ []) : atI xs (-1) = xs.getLast? := by
  unfold atI ixN
  have hl : 0 < xs.length := by cases xs with | nil => exact absurd rfl h | cons a r => simp
  rw [if_neg (by omega), if_pos (by omega), List.getLast?_eq_getElem?]
  show xs[(-1 + (xs.length : Int)).toNat]? = _
  congr 1
  omega
theorem atI_mem {α : Type} {xs : List α} {i : Int} {z : α} (h : atI xs i = some z) : z ∈ xs := by
  unfold atI at h
  cases e : ixN xs.length i with
  | none => rw [e] at h; cases h
  | some j => rw [e] at h; exact List.mem_of_getElem? (show xs[j]? = some z from h)
/-! ### draws -/
def Rdraw : List Sl → (Sh → Prop) → Prop := fun ss A => ∃ m : Int, 0 < m ∧ m ≤ 2 ^ 58 ∧ ss = [.pen, .v (.int m)] ∧ A = Im (fun d : Int => 0 ≤ d ∧ d < m)
theorem spG_len {c k : Nat} {R : List Sl → (Sh → Prop) → Prop} {vs : List V} {H : Hp} {Q : VK} {E : XK} (h : spG c R vs H Q E) (hR : ∀ ss A, R ss A → ss.length = k) : vs.length = k := by
  obtain ⟨n, M, ss, A, _, _, sl, r, _⟩ := h
  rw [sl.len, hR ss A r]
theorem ext_draw {H H' : Hp} {p c : Addr} {ns : List Int} {a l : Int} (h : H p = some (.dK (penD c a l))) (P : Pen H' p (a + 1)) (b : But p H H') (hc : penCell H' p = penCell H p) : Ext 1 H H' := by
  obtain ⟨c', ns', a', l', q1, q2, q3, q4, q5, q6⟩ := P.ex
  have ec : c' = c := by
    unfold penCell at hc
    rw [q1, h] at hc
    have z : some (V.ref c') = some (V.ref c) := hc
    cases z
    rfl
  subst ec
  refine ⟨fun d o no e => b d o (fun z => ?_) e, fun q c2 a2 l2 e => ?_⟩
  · subst z
    rw [h] at e
    cases e
    exact no _ _ _ rfl
  · by_cases z : q = p
    · subst z
      rw [h] at e
      have e' : penD c' a l = penD c2 a2 l2 := by cases e; rfl
      unfold penD at e'
      simp at e'
      obtain ⟨z1, z2, z3⟩ := e'
      subst z1 z2 z3
      exact ⟨a', l', q1, fun _ _ => ⟨q4, by omega, q6⟩⟩
    · exact ⟨a2, l2, b q _ z e, fun h1 h2 => ⟨h1, by omega, h2⟩⟩
theorem draw_old {vs : List V} {H : Hp} {Q : VK} {E E' : XK} (h : spG 1 Rdraw vs H Q E) : spDrawC vs H Q E' := by
  obtain ⟨n, M, ss, A, al, le, sl, ⟨m, h1, h2, rfl, rfl⟩, k⟩ := h
  obtain ⟨v, r, rfl, ⟨p, rfl, P⟩, sl1⟩ := sl.uncons
  obtain ⟨w, r2, e2, rw', sl2⟩ := sl1.uncons
  have e3 := sl2.unnil
  subst e3
  subst e2
  have rw2 : Rp (hide M H) w (.int m) := rw'
  cases rw2
  obtain ⟨c, ns, a, l, q1, q2, q3, q4, q5, q6⟩ := P.ex
  have le' : n + 1 ≤ 2 ^ 58 := le
  have hp := (hide_some q1).2
  refine ⟨p, m, a, rfl, ⟨c, ns, a, l, hp, (hide_some q2).2, q3, q4, Int.le_refl _, q6⟩, by omega, h1, by omega, fun d H' d0 d1 P' b _ cell => ?_⟩
  exact k _ _ (.int d) (ext_draw (ns := ns) hp P' b cell) ⟨d, ⟨d0, d1⟩, rfl⟩ (.int d)
section
variable {α β γ δ : Type} [Ty α] [Ty β] [Ty γ] [Ty δ]
theorem en_draw {i c : Nat} {ρ : Ro} {tm : TE} {E : XK} {A : Int → Prop} (hp : ρ[i]? = some (some .pen)) (hm : Ev tm ρ c A) (hA : ∀ m, A m → 0 < m ∧ m ≤ 2 ^ 58) :
    Ev (α := Int) (tCall (spG 1 Rdraw) [] E (tCons (tVar i) (tCons tm tNil))) ρ (c + 1) (fun d => ∃ m, A m ∧ 0 ≤ d ∧ d < m) :=
  (ev_call (P := fun d : Int => ∃ m, A m ∧ 0 ≤ d ∧ d < m) (ea_pen hp (ea_v hm ea_nil)) fun ss ⟨r, ⟨m, r', am, e0, e1⟩, e2⟩ => ⟨_, ⟨m, (hA m am).1, (hA m am).2, by rw [e2, e1, e0]; rfl, rfl⟩, fun s ⟨d, ⟨d0, d1⟩, e⟩ => ⟨d, ⟨m, am, d0, d1⟩, e⟩⟩).imp (by omega) fun _ z => z
theorem ed_draw {i : Nat} {ρ : Ro} {tm : TE} {E : XK} {m : Int} (hp : ρ[i]? = some (some .pen)) (hm : Ev tm ρ 0 (Is m)) (hA : 0 < m ∧ m ≤ 2 ^ 58) :
    Ev (α := Int) (tCall (spG 1 Rdraw) [] E (tCons (tVar i) (tCons tm tNil))) ρ 1 (fun d => 0 ≤ d ∧ d < m) :=
  (en_draw hp hm fun _ e => by rw [e]; exact hA).imp (by omega) fun d ⟨_, e, h⟩ => by rw [← e]; exact h
theorem ed_call {R : List Sl → (Sh → Prop) → Prop} {E : XK} {t : TA} {ρ : Ro} {rs : List Sl} {z : α} (ha : EvA t ρ 0 (fun ss => ss = rs)) (h : ∃ A, R rs A ∧ ∀ s, A s → s = sh z) : Ev (tCall (spG 0 R) [] E t) ρ 0 (Is z) :=
  ev_call ha fun ss e => let ⟨A, r, k⟩ := h; ⟨A, by rw [e]; exact r, fun s a => ⟨z, rfl, k s a⟩⟩
theorem ed_meth {C : Addr} {m : Str} {R : List Sl → (Sh → Prop) → Prop} {E : XK} {ta : TE} {t : TA} {ρ : Ro} {s0 : Sh} {rs : List Sl} {z : α} (h0 : Ev ta ρ 0 (Is s0)) (ho : ∃ fs, s0 = .obj C fs ∧ ∀ p ∈ fs, p.1 ≠ m) (ha : EvA t ρ 0 (fun ss => ss = rs)) (h : ∃ A, R (.v s0 :: rs) A ∧ ∀ s, A s → s = sh z) :
    Ev (tMeth C m (spG 0 R) [] E ta t) ρ 0 (Is z) := ev_meth h0 (fun s e => by rw [e]; exact ho) ha fun s ss e1 e2 => let ⟨A, r, k⟩ := h; ⟨A, by rw [e1, e2]; exact r, fun s a => ⟨z, rfl, k s a⟩⟩
/-- a def's start: what its arguments hold -/
theorem spG_start {c : Nat} {R : List Sl → (Sh → Prop) → Prop} {vs : List V} {H : Hp} {Q : VK} {E : XK} (h : spG c R vs H Q E) (N : List Str) (hN : ∀ ss A, R ss A → ss.length ≤ N.length ∧ ∀ x ∈ ss, ∀ xs, x ≠ Sl.own xs) :
    ∃ (B : Bs) (ss : List Sl) (A : Sh → Prop), B.n + c ≤ LIM ∧ R ss A ∧ StOk B 0 (L2.start N vs) H (ss.map some ++ List.replicate (N.length - ss.length) none) ∧ ∀ v H' s, Ext c B.H H' → A s → Rp (hide B.M H') v s → Q v H' := by
  obtain ⟨n, M, ss, A, al, le, sl, r, k⟩ := h
  obtain ⟨hl, ho⟩ := hN ss A r
  have lv := sl.len
  have at_ss : ∀ (i : Nat) s, (ss.map some ++ List.replicate (N.length - ss.length) none)[i]? = some (some s) → ss[i]? = some s := fun i s e => by
    by_cases z : i < ss.length
    · rw [List.getElem?_append_left (by rw [List.length_map]; exact z), List.getElem?_map] at e
      cases q : ss[i]? with
      | none => rw [q] at e; cases e
      | some s' => rw [q] at e; cases e; rfl
    · rw [List.getElem?_append_right (by rw [List.length_map]; omega)] at e
      rw [List.getElem?_replicate] at e
      split at e <;> cases e
  have hX : StX ⟨n, M, H, al, hide M H⟩ [] 0 (L2.start N vs) H (ss.map some ++ List.replicate (N.length - ss.length) none) := by
    unfold StX
    refine ⟨(fun a m => by cases m), al, .refl H, ⟨?_, fun i s e => ?_⟩, fun i xs e => ?_, fun i j xs ys e1 e2 _ => ?_, 0, .refl _⟩
    · unfold L2.start
      rw [List.length_append, List.length_append, List.length_map, List.length_map, List.length_replicate, List.length_replicate, lv]
    · have hi := at_ss i s e
      have z : i < ss.length := (List.getElem?_eq_some_iff.mp hi).1
      have zv : i < vs.length := by omega
      refine ⟨vs[i], ?_, sl.get i _ s (List.getElem?_eq_getElem zv) hi⟩
      unfold L2.start
      rw [List.getElem?_append_left (by rw [List.length_map]; exact zv), List.getElem?_map, List.getElem?_eq_getElem zv]
      rfl
    · exact absurd rfl (ho _ (List.mem_of_getElem? (at_ss i _ e)) xs)
    · exact absurd rfl (ho _ (List.mem_of_getElem? (at_ss i _ e1)) xs)
  exact ⟨_, ss, A, le, r, hX.ok, k⟩

def notOwn : Sl → Bool
  | .own _ => false
  | _ => true
theorem args_ok {ss : List Sl} {k : Nat} (h : Nat.ble ss.length k = true) (h2 : ss.all notOwn = true) : ss.length ≤ k ∧ ∀ x ∈ ss, ∀ xs, x ≠ Sl.own xs := ⟨Nat.le_of_ble_eq_true h, fun x hx xs e => by
  have z := List.all_eq_true.mp h2 x hx
  rw [e] at z
  cases z⟩

/-- promises by typed arguments: what is asked of them, what comes out -/
def spF {τ : Type} (c : Nat) (pre : τ → Prop) (post : τ → α → Prop) (enc : τ → List Sl) : Sp := spG c fun ss A => ∃ t, pre t ∧ ss = enc t ∧ A = Im (post t)
theorem spF_len {τ : Type} {c k : Nat} {pre : τ → Prop} {post : τ → α → Prop} {enc : τ → List Sl} {vs : List V} {H : Hp} {Q : VK} {E : XK} (h : spF c pre post enc vs H Q E) (hk : ∀ t, (enc t).length = k) : vs.length = k :=
  spG_len h fun ss A ⟨t, _, e, _⟩ => by rw [e, hk t]
theorem spF_start {τ : Type} {c : Nat} {pre : τ → Prop} {post : τ → α → Prop} {enc : τ → List Sl} {vs : List V} {H : Hp} {Q : VK} {E : XK} (h : spF c pre post enc vs H Q E) (N : List Str) (hN : ∀ t, Nat.ble (enc t).length N.length = true ∧ (enc t).all notOwn = true) :
    ∃ (B : Bs) (t : τ), pre t ∧ B.n + c ≤ LIM ∧ StOk B 0 (L2.start N vs) H ((enc t).map some ++ List.replicate (N.length - (enc t).length) none) ∧ ∀ v H' x, Ext c B.H H' → post t x → Rp (hide B.M H') v (sh x) → Q v H' := by
  obtain ⟨B, ss, A, hn, ⟨t, hp, rfl, rfl⟩, hS, k⟩ := spG_start h N (fun ss A ⟨t, _, e, _⟩ => by rw [e]; exact args_ok (hN t).1 (hN t).2)
  exact ⟨B, t, hp, hn, hS, fun v H' x e p r => k v H' _ e ⟨x, p, rfl⟩ r⟩
theorem en_fn {τ : Type} {c c1 : Nat} {pre : τ → Prop} {post : τ → α → Prop} {enc : τ → List Sl} {E : XK} {ta : TA} {ρ : Ro} (t : τ) (ha : EvA ta ρ c1 (fun ss => ss = enc t)) (h : pre t) : Ev (tCall (spF c pre post enc) [] E ta) ρ (c1 + c) (post t) :=
  ev_call ha fun ss e => ⟨_, ⟨t, h, e, rfl⟩, fun s z => z⟩
theorem en_fnA {τ : Type} {c c1 : Nat} {pre : τ → Prop} {post : τ → α → Prop} {enc : τ → List Sl} {E : XK} {ta : TA} {ρ : Ro} {SS : List Sl → Prop} (ha : EvA ta ρ c1 SS) (h : ∀ ss, SS ss → ∃ t, ss = enc t ∧ pre t) : Ev (tCall (spF c pre post enc) [] E ta) ρ (c1 + c) (fun x => ∃ t, SS (enc t) ∧ pre t ∧ post t x) :=
  ev_call ha fun ss s => let ⟨t, e, p⟩ := h ss s; ⟨_, ⟨t, p, e, rfl⟩, fun s' ⟨x, z, w⟩ => ⟨x, ⟨t, by rw [← e]; exact s, p, z⟩, w⟩⟩
theorem en_meth {τ : Type} {c c0 c1 : Nat} {C : Addr} {m : Str} {pre : τ → Prop} {post : τ → α → Prop} {enc : τ → List Sl} {E : XK} {tx : TE} {ta : TA} {ρ : Ro} {s0 : Sh} {rs : List Sl} (t : τ) (h0 : Ev tx ρ c0 (Is s0)) (ha : EvA ta ρ c1 (fun ss => ss = rs)) (ho : ∃ fs, s0 = .obj C fs ∧ ∀ p ∈ fs, p.1 ≠ m) (he : .v s0 :: rs = enc t) (h : pre t) :
    Ev (tMeth C m (spF c pre post enc) [] E tx ta) ρ (c0 + c1 + c) (post t) := ev_meth h0 (fun s e => by rw [e]; exact ho) ha fun s ss e1 e2 => ⟨_, ⟨t, h, by rw [e1, e2, he], rfl⟩, fun s z => z⟩

/-! ### items, slices -/
theorem en_ixL {K : PySem.W.Frag} {ta tb : TE} {ρ : Ro} {c1 c2 : Nat} {A : List α → Prop} {B : Int → Prop} (ha : Ev ta ρ c1 A) (hb : Ev tb ρ c2 B) (h : ∀ xs i, A xs → B i → ∃ z, atI xs i = some z) : Ev (tOp (rIxL K) ta tb) ρ (c1 + c2) (fun z => ∃ xs i, A xs ∧ B i ∧ atI xs i = some z) :=
  ev_op ha hb fun xs i a b => let ⟨z, e⟩ := h xs i a b; ⟨z, ⟨xs, i, a, b, e⟩, rv_ixL e⟩
theorem en_ixT {K : PySem.W.Frag} {ta tb : TE} {ρ : Ro} {c1 c2 : Nat} {A : Tp α → Prop} {B : Int → Prop} (ha : Ev ta ρ c1 A) (hb : Ev tb ρ c2 B) (h : ∀ xs i, A xs → B i → ∃ z, atI xs.l i = some z) : Ev (tOp (rIxT K) ta tb) ρ (c1 + c2) (fun z => ∃ xs i, A xs ∧ B i ∧ atI xs.l i = some z) :=
  ev_op ha hb fun xs i a b => let ⟨z, e⟩ := h xs i a b; ⟨z, ⟨xs, i, a, b, e⟩, rv_ixT e⟩
def sgn (c : Nat) : Str := ⟨#[c]⟩
theorem en_ixS {ta tb : TE} {ρ : Ro} {c1 c2 : Nat} {A : Str → Prop} {B : Int → Prop} (ha : Ev ta ρ c1 A) (hb : Ev tb ρ c2 B) (h : ∀ z i, A z → B i → z.length ≤ sizeLine ∧ ∃ d, atI z.cps.toList i = some d) : Ev (α := Str) (tOp rIxS ta tb) ρ (c1 + c2) (fun y => ∃ z i d, A z ∧ B i ∧ atI z.cps.toList i = some d ∧ y = sgn d) :=
  ev_op ha hb fun z i a b => by
    obtain ⟨hz, d, e⟩ := h z i a b
    refine ⟨sgn d, ⟨z, i, d, a, b, e, rfl⟩, fun M H v w Q al r1 r2 k => ?_⟩
    cases r1
    cases r2
    exact ⟨z, i, d, rfl, rfl, hz, e, k _ H (Same.refl H) (.str _)⟩
/-- a part of a slice -/
def EvO (t : TO) (ρ : Ro) (c : Nat) (A : Option Int → Prop) : Prop :=
  ∀ (n : Nat) (M : List Addr) (σ : L2.St) (H : Hp), Al M H → n + c ≤ LIM → EnvOk n M H σ ρ → ∀ Q : Option Int → Hp → Prop, (∀ o H', Ext c H H' → A o → Q o H') → t σ H Q
theorem eo_none {ρ : Ro} : EvO tNoPart ρ 0 (fun o => o = none) := fun n M σ H al le env Q k => k none H (.refl H) rfl
theorem eo_some' {te : TE} {ρ : Ro} {c : Nat} {A : Int → Prop} (h : Ev te ρ c A) : EvO (tPart te) ρ c (fun o => ∃ i, A i ∧ o = some i) := fun n M σ H al le env Q k => by
  refine h n M σ H al le env _ fun v H' i e a r => ?_
  cases r
  exact ⟨i, rfl, k _ H' e ⟨i, a, rfl⟩⟩
theorem eo_some {te : TE} {ρ : Ro} {i : Int} (h : Ev te ρ 0 (Is i)) : EvO (tPart te) ρ 0 (fun o => o = some i) := fun n M σ H al le env Q k => eo_some' h n M σ H al le env Q fun o H' e ⟨j, e1, e2⟩ => k o H' e (by rw [e2, e1])
def cutL (xs : List α) (lo hi : Option Int) : List α := (xs.drop (HT.sIx xs.length 0 lo)).take (HT.sIx xs.length xs.length hi - HT.sIx xs.length 0 lo)
theorem RpAll.take {H : Hp} : ∀ {vs : List V} {xs : List Sh} (k : Nat), RpAll H vs xs → RpAll H (vs.take k) (xs.take k)
  | _, _, 0, _ => by simp; exact .nil
  | _, _, k + 1, .nil => .nil
  | _, _, k + 1, .cons a r => .cons a (r.take k)
theorem RpAll.drop {H : Hp} : ∀ {vs : List V} {xs : List Sh} (k : Nat), RpAll H vs xs → RpAll H (vs.drop k) (xs.drop k)
  | _, _, 0, r => r
  | _, _, k + 1, .nil => .nil
  | _, _, k + 1, .cons a r => r.drop k
theorem rpAll_cut {H : Hp} {vs : List V} {xs : List α} {lo hi : Option Int} (r : RpAll H vs (xs.map sh)) : RpAll H (cutV vs lo hi) ((cutL xs lo hi).map sh) := by
  have l := r.len
  rw [List.length_map] at l
  unfold cutV cutL
  rw [List.map_take, List.map_drop, l]
  exact (r.drop _).take _
theorem en_slL {K : PySem.W.Frag} {te : TE} {tl th : TO} {ρ : Ro} {c0 c1 c2 : Nat} {A : List α → Prop} {B C : Option Int → Prop} (he : Ev te ρ c0 A) (hl : EvO tl ρ c1 B) (hh : EvO th ρ c2 C) : Ev (α := List α) (tSl (rSlL K) te tl th) ρ (c0 + c1 + c2) (fun z => ∃ xs lo hi, A xs ∧ B lo ∧ C hi ∧ z = cutL xs lo hi) := fun n M σ H al le env Q k => by
  refine he n M σ H al (by omega) env _ fun v H1 xs e1 a r => ?_
  refine hl (n + c0) M σ H1 (al.ext e1) (by omega) (env.ext e1) _ fun lo H2 e2 b => ?_
  refine hh (n + c0 + c1) M σ H2 ((al.ext e1).ext e2) (by omega) ((env.ext e1).ext e2) _ fun hi H3 e3 c => ?_
  have r3 := (r.ext e2.hide).ext e3.hide
  have al3 := ((al.ext e1).ext e2).ext e3
  obtain ⟨p, vs, rfl, ep, ra⟩ := Rp.lstI r3
  refine ⟨p, vs, rfl, SqL.of ep, fun q hq => ?_⟩
  have nr := new_ref (o := .lst (cutV vs lo hi)) al3 hq
  exact k _ _ _ (((e1.trans e2).trans e3).snd nr.1) ⟨xs, lo, hi, a, b, c, rfl⟩ (.lst nr.2 ((rpAll_cut ra).same (same_hide nr.1)))
theorem ed_slL {K : PySem.W.Frag} {te : TE} {tl th : TO} {ρ : Ro} {xs : List α} {lo hi : Option Int} (he : Ev te ρ 0 (Is xs)) (hl : EvO tl ρ 0 (fun o => o = lo)) (hh : EvO th ρ 0 (fun o => o = hi)) : Ev (α := List α) (tSl (rSlL K) te tl th) ρ 0 (Is (cutL xs lo hi)) :=
  (en_slL he hl hh).imp (Nat.le_refl _) fun z ⟨_, _, _, e1, e2, e3, e⟩ => by rw [e, e1, e2, e3]
theorem cut_whole {xs : List α} {lo hi : Option Int} (h1 : HT.sIx xs.length 0 lo = 0) (h2 : HT.sIx xs.length xs.length hi = xs.length) : cutL xs lo hi = xs := by
  unfold cutL
  rw [h1, h2]
  simp
theorem en_slT {K : PySem.W.Frag} {te : TE} {tl th : TO} {ρ : Ro} {c0 c1 c2 : Nat} {A : Tp α → Prop} {B C : Option Int → Prop} (he : Ev te ρ c0 A) (hl : EvO tl ρ c1 B) (hh : EvO th ρ c2 C) : Ev (α := Tp α) (tSl (rSlA K) te tl th) ρ (c0 + c1 + c2) (fun z => ∃ xs lo hi, A xs ∧ B lo ∧ C hi ∧ z = ⟨cutL xs.l lo hi⟩) := fun n M σ H al le env Q k => by
  refine he n M σ H al (by omega) env _ fun v H1 xs e1 a r => ?_
  refine hl (n + c0) M σ H1 (al.ext e1) (by omega) (env.ext e1) _ fun lo H2 e2 b => ?_
  refine hh (n + c0 + c1) M σ H2 ((al.ext e1).ext e2) (by omega) ((env.ext e1).ext e2) _ fun hi H3 e3 c => ?_
  have r3 := (r.ext e2.hide).ext e3.hide
  have al3 := ((al.ext e1).ext e2).ext e3
  have r4 := r3
  obtain ⟨p, vs, rfl, ep, ra⟩ := Rp.tupI r3
  have lv := ra.len
  rw [List.length_map] at lv
  refine ⟨p, vs, rfl, SqT.of ep, fun hw => ?_, fun hw q hq => ?_⟩
  · rw [lv] at hw
    exact k _ _ ⟨cutL xs.l lo hi⟩ ((e1.trans e2).trans e3) ⟨xs, lo, hi, a, b, c, rfl⟩ (by rw [cut_whole hw.1 hw.2]; exact r4)
  · have nr := new_ref (o := .tup (cutV vs lo hi)) al3 hq
    exact k _ _ ⟨cutL xs.l lo hi⟩ (((e1.trans e2).trans e3).snd nr.1) ⟨xs, lo, hi, a, b, c, rfl⟩ (.tup nr.2 ((rpAll_cut ra).same (same_hide nr.1)))
theorem ed_slT {K : PySem.W.Frag} {te : TE} {tl th : TO} {ρ : Ro} {xs : Tp α} {lo hi : Option Int} (he : Ev te ρ 0 (Is xs)) (hl : EvO tl ρ 0 (fun o => o = lo)) (hh : EvO th ρ 0 (fun o => o = hi)) : Ev (α := Tp α) (tSl (rSlA K) te tl th) ρ 0 (Is ⟨cutL xs.l lo hi⟩) :=
  (en_slT he hl hh).imp (Nat.le_refl _) fun z ⟨_, _, _, e1, e2, e3, e⟩ => by rw [e, e1, e2, e3]
theorem en_slS {te : TE} {tl th : TO} {ρ : Ro} {c0 c1 c2 : Nat} {A : Str → Prop} {B C : Option Int → Prop} (he : Ev te ρ c0 A) (hl : EvO tl ρ c1 B) (hh : EvO th ρ c2 C) (hz : ∀ z, A z → z.length ≤ sizeLine) : Ev (α := Str) (tSl rSlS te tl th) ρ (c0 + c1 + c2) (fun z => ∃ xs lo hi, A xs ∧ B lo ∧ C hi ∧ z = cutS xs lo hi) := fun n M σ H al le env Q k => by
  refine he n M σ H al (by omega) env _ fun v H1 xs e1 a r => ?_
  refine hl (n + c0) M σ H1 (al.ext e1) (by omega) (env.ext e1) _ fun lo H2 e2 b => ?_
  refine hh (n + c0 + c1) M σ H2 ((al.ext e1).ext e2) (by omega) ((env.ext e1).ext e2) _ fun hi H3 e3 c => ?_
  cases r
  exact ⟨xs, rfl, hz xs a, k _ _ _ ((e1.trans e2).trans e3) ⟨xs, lo, hi, a, b, c, rfl⟩ (.str _)⟩
theorem ed_slS {te : TE} {tl th : TO} {ρ : Ro} {xs : Str} {lo hi : Option Int} (he : Ev te ρ 0 (Is xs)) (hl : EvO tl ρ 0 (fun o => o = lo)) (hh : EvO th ρ 0 (fun o => o = hi)) (hz : xs.length ≤ sizeLine) : Ev (α := Str) (tSl rSlS te tl th) ρ 0 (Is (cutS xs lo hi)) :=
  (en_slS he hl hh fun z e => by rw [e]; exact hz).imp (Nat.le_refl _) fun z ⟨_, _, _, e1, e2, e3, e⟩ => by rw [e, e1, e2, e3]
theorem rv_catT {K : PySem.W.Frag} {xs ys : Tp α} (h : xs.l.length + ys.l.length ≤ sizeLine) : Rv2 (rCatA K) xs ys (Tp.mk (xs.l ++ ys.l)) := fun M H v w Q al r1 r2 k => by
  have r1' := r1
  have r2' := r2
  obtain ⟨a, vs, rfl, e, ra⟩ := Rp.tupI r1
  obtain ⟨b, ws, rfl, e', rb⟩ := Rp.tupI r2
  have l1 := ra.len
  have l2 := rb.len
  rw [List.length_map] at l1 l2
  refine ⟨a, b, vs, ws, rfl, rfl, SqT.of e, SqT.of e', by omega, fun z => ?_, fun _ z => ?_, fun _ _ p hp => ?_⟩
  · have z' : xs.l = [] := List.eq_nil_of_length_eq_zero (by rw [← l1, z]; rfl)
    exact k _ H (Same.refl H) (by rw [z']; exact r2')
  · have z' : ys.l = [] := List.eq_nil_of_length_eq_zero (by rw [← l2, z]; rfl)
    exact k _ H (Same.refl H) (by rw [z', List.append_nil]; exact r1')
  · have nr := new_ref (o := .tup (vs ++ ws)) al hp
    refine k _ _ nr.1 (.tup nr.2 ?_)
    show RpAll _ _ ((xs.l ++ ys.l).map sh)
    rw [List.map_append]
    exact (ra.app rb).same (same_hide nr.1)

theorem rv_pow {i j : Int} (h : CPow i j) : Rv2 (rI CPow fun i j => .int (i ^ j.toNat)) i j (i ^ j.toNat) := rv_I (f := fun i j => i ^ j.toNat) (fun H i j => .int _) h

/-! ### in -/
theorem inV_str {x : Str} : ∀ {xs : List Str}, inV (.str x) (xs.map V.str) = decide (x ∈ xs)
  | [] => rfl
  | y :: ys => by
    have ih := inV_str (x := x) (xs := ys)
    unfold inV at *
    rw [List.map_cons, List.any_cons, ih]
    show (y == x || decide (x ∈ ys)) = decide (x ∈ y :: ys)
    by_cases h : y = x
    · subst h; simp
    · have h' : ¬ x = y := fun z => h z.symm
      simp [h, h']
theorem strs_flat : ∀ (ys : List Str), (ys.map V.str).all flatV = true
  | [] => rfl
  | y :: ys => by rw [List.map_cons, List.all_cons, strs_flat ys]; rfl
theorem rv_inLS {K : PySem.W.Frag} {x : Str} {xs : List Str} : Rv2 (rIn K false) x xs (decide (x ∈ xs)) := fun M H v w Q al r1 r2 k => by
  cases r1
  obtain ⟨a, vs, rfl, e, ra⟩ := Rp.lstI r2
  have z := RpAll.strs ra
  subst z
  exact ⟨a, _, rfl, .inl (SqL.of e), rfl, strs_flat xs, k _ H (Same.refl H) (by rw [if_neg Bool.false_ne_true, inV_str]; exact .bl _)⟩
theorem rv_inTS {K : PySem.W.Frag} {x : Str} {xs : Tp Str} : Rv2 (rIn K false) x xs (decide (x ∈ xs.l)) := fun M H v w Q al r1 r2 k => by
  cases r1
  obtain ⟨a, vs, rfl, e, ra⟩ := Rp.tupI r2
  have z := RpAll.strs ra
  subst z
  exact ⟨a, _, rfl, .inr (SqT.of e), rfl, strs_flat xs.l, k _ H (Same.refl H) (by rw [if_neg Bool.false_ne_true, inV_str]; exact .bl _)⟩
theorem rv_ninLS {K : PySem.W.Frag} {x : Str} {xs : List Str} : Rv2 (rIn K true) x xs (!decide (x ∈ xs)) := fun M H v w Q al r1 r2 k => by
  cases r1
  obtain ⟨a, vs, rfl, e, ra⟩ := Rp.lstI r2
  have z := RpAll.strs ra
  subst z
  exact ⟨a, _, rfl, .inl (SqL.of e), rfl, strs_flat xs, k _ H (Same.refl H) (by rw [if_pos rfl, inV_str]; exact .bl _)⟩
theorem rv_ninTS {K : PySem.W.Frag} {x : Str} {xs : Tp Str} : Rv2 (rIn K true) x xs (!decide (x ∈ xs.l)) := fun M H v w Q al r1 r2 k => by
  cases r1
  obtain ⟨a, vs, rfl, e, ra⟩ := Rp.tupI r2
  have z := RpAll.strs ra
  subst z
  exact ⟨a, _, rfl, .inr (SqT.of e), rfl, strs_flat xs.l, k _ H (Same.refl H) (by rw [if_pos rfl, inV_str]; exact .bl _)⟩

theorem en_join {K : PySem.W.Frag} {to te : TE} {ρ : Ro} {c1 c2 : Nat} {A : Str → Prop} {B : List Str → Prop} (ho : Ev to ρ c1 A) (he : Ev te ρ c2 B) (h : ∀ a ys, A a → B ys → (ys.map (·.length)).sum + ys.length * a.length ≤ 16777216) :
    Ev (α := Str) (tM1 (fun x xs H Q => ∃ a p, ∃ ys : List Str, x = .str a ∧ xs = [.ref p] ∧ (SqL K H p (ys.map V.str) ∨ SqT K H p (ys.map V.str)) ∧ (ys.map (·.length)).sum + ys.length * a.length ≤ 16777216 ∧ Q (.str (Txt.join a ys)) H) to te) ρ (c1 + c2) (fun z => ∃ a ys, A a ∧ B ys ∧ z = Txt.join a ys) := fun n M σ H al le env Q k => by
  refine ho n M σ H al (by omega) env _ fun v H1 a e1 pa r => ?_
  cases r
  refine ⟨⟨a, rfl⟩, ?_⟩
  refine he (n + c1) M σ H1 (al.ext e1) (by omega) (env.ext e1) _ fun w H2 ys e2 pb r2 => ?_
  obtain ⟨p, vs, rfl, e, ra⟩ := Rp.lstI r2
  have z := RpAll.strs ra
  subst z
  exact ⟨a, p, ys, rfl, rfl, .inl (SqL.of e), h a ys pa pb, k _ H2 _ (e1.trans e2) ⟨a, ys, pa, pb, rfl⟩ (.str _)⟩

/-! ### texts in order -/
def leS (a b : Str) : Bool := !decide (b.cps.toList < a.cps.toList)
def srtS (xs : List Str) : List Str := xs.mergeSort leS
theorem leS_trans (a b c : Str) (h1 : leS a b = true) (h2 : leS b c = true) : leS a c = true := by
  unfold leS at *
  simp at *
  exact List.le_trans h1 h2
theorem leS_total (a b : Str) : (leS a b || leS b a) = true := by
  unfold leS
  simp
  exact List.le_total _ _
theorem leS_anti {a b : Str} (h1 : leS a b = true) (h2 : leS b a = true) : a = b := by
  unfold leS at *
  simp at *
  have e := List.le_antisymm h1 h2
  cases a; cases b
  simp at e
  rw [e]
theorem ltCps_iff : ∀ (a b : List Nat), ltCps a b = decide (a < b)
  | [], [] => by simp [ltCps]
  | [], b :: bs => by simp [ltCps]
  | a :: as, [] => by simp [ltCps]
  | a :: as, b :: bs => by
    unfold ltCps
    rw [ltCps_iff as bs]
    have e : (a :: as < b :: bs) ↔ (a < b ∨ a = b ∧ as < bs) := List.cons_lt_cons_iff
    by_cases h : a < b
    · simp [h, e]
    · by_cases h2 : a = b
      · subst h2; simp [e]
      · have h3 : (a == b) = false := by simpa using h2
        simp [h, h2, e, h3]
theorem rising_pair : ∀ (p : Str) (l : List Str), risingS p l = true → (p :: l).Pairwise (fun a b => leS a b = true)
  | p, [], _ => List.pairwise_singleton _ _
  | p, x :: r, h => by
    unfold risingS at h
    rw [Bool.and_eq_true] at h
    have ih := rising_pair x r h.2
    have h1 : leS p x = true := by
      unfold leS
      rw [← ltCps_iff]
      exact h.1
    refine List.pairwise_cons.mpr ⟨fun y hy => ?_, ih⟩
    rcases List.mem_cons.mp hy with z | z
    · rw [z]; exact h1
    · exact leS_trans _ _ _ h1 ((List.pairwise_cons.mp ih).1 y z)
theorem sorted_pair {l : List Str} (h : sortedS l = true) : l.Pairwise (fun a b => leS a b = true) := by
  cases l with
  | nil => exact .nil
  | cons x r => exact rising_pair x r h
theorem srt_unique {xs ys : List Str} (h : ys.Perm xs) (s : ys.Pairwise (fun a b => leS a b = true)) : ys = srtS xs :=
  List.Perm.eq_of_pairwise (le := fun a b => leS a b = true) (fun a b _ _ h1 h2 => leS_anti h1 h2) s (List.pairwise_mergeSort leS_trans leS_total xs) (h.trans (List.mergeSort_perm xs leS).symm)
theorem srt_perm (xs : List Str) : (srtS xs).Perm xs := List.mergeSort_perm xs leS
theorem srt_pair (xs : List Str) : (srtS xs).Pairwise (fun a b => leS a b = true) := List.pairwise_mergeSort leS_trans leS_total xs
theorem rv1_sortedS {K : PySem.W.Frag} {xs : List Str} (h : xs.length < 64) : Rv1 (rSortedS K) xs (srtS xs) := fun M H v Q al r k => by
  obtain ⟨a, vs, rfl, e, ra⟩ := Rp.lstI r
  have z := RpAll.strs ra
  subst z
  refine ⟨a, xs, rfl, SqL.of e, h, fun ys p pm so hp => ?_⟩
  have z := srt_unique pm (sorted_pair so)
  subst z
  have nr := new_ref (o := .lst ((srtS xs).map V.str)) al hp
  exact k _ _ nr.1 (.lst nr.2 (rpAll_strs _))
end
end Yarn

set_option Elab.async false
set_option linter.all false
set_option maxRecDepth 100000
set_option maxHeartbeats 4000000
/-! sets of texts: set(xs) and sorted of it -/
namespace Yarn
open PySem PySem.Spec PyProof.Rows L2 Ty
def txOf (e : Int × Value) : Str := match e.2 with
  | .str x _ => x
  | _ => Str.empty
/-- a row of a set's table that is a text's -/
def TxRow (P : Program) (w : World) (e : Int × Value) : Prop := ∃ x t, e.2 = Value.str x t ∧ e.1 = (PySem.strKind P w).hash x
/-- the texts of a set, each once; n of them -/
def TxSet (P : Program) (w : World) (h : Heap) (a : Addr) (S : Str → Bool) (n : Nat) : Prop :=
  ∃ o rows ep tb, h.get? a = some o ∧ o.ExactSet ∧ o.data = .set rows ep tb ∧ (∀ e ∈ rows.toList, TxRow P w e) ∧ (rows.toList.map txOf).Nodup ∧ (∀ x, S x = true ↔ x ∈ rows.toList.map txOf) ∧
    rows.size < scanBound ∧ tb.fits rows.size = true ∧ rows.size = n ∧ Ris tb.place.toList ∧ (w.params.followText "set-order" = true ∨ tb.led = true)
section
variable {P : Program} {w : World} {h h' : Heap} {a : Addr} {S : Str → Bool} {n : Nat}
theorem TxSet.at (R : TxSet P w h a S n) (k : ∀ o, h.get? a = some o → h'.get? a = some o) : TxSet P w h' a S n :=
  let ⟨o, rows, ep, tb, ho, r⟩ := R
  ⟨o, rows, ep, tb, k o ho, r⟩
theorem TxSet.congr {S' : Str → Bool} (R : TxSet P w h a S n) (e : ∀ k, S' k = S k) : TxSet P w h a S' n := (funext e : S' = S) ▸ R
theorem txRows_elems {l : List (Int × Value)} (g : ∀ e ∈ l, TxRow P w e) : ElemsOf (PySem.strKind P w) l := fun e m =>
  let ⟨x, t, q1, q2⟩ := g e m
  ⟨⟨x, by rw [q1]; exact PySem.strKind_is P w x t, q2⟩, by rw [q1] <;> rfl⟩
theorem txRow_is {e : Int × Value} (g : TxRow P w e) (x : Str) : (PySem.strKind P w).is x e.2 = true ↔ txOf e = x := by
  obtain ⟨y, t, q1, _⟩ := g
  unfold txOf
  rw [q1]
  constructor
  · intro z
    have z2 := (PySem.KeyKind.is_eq_decide (PySem.strKind_is P w y t) x).symm.trans z
    exact (of_decide_eq_true z2).symm
  · intro z
    show (PySem.strKind P w).is x (.str y t) = true
    rw [← show y = x from z]
    exact PySem.strKind_is P w y t
theorem txRows_mem {l : List (Int × Value)} (g : ∀ e ∈ l, TxRow P w e) (x : Str) : x ∈ l.map txOf ↔ ∃ e ∈ l, (PySem.strKind P w).is x e.2 = true := by
  simp only [List.mem_map]
  exact ⟨fun ⟨e, m, q⟩ => ⟨e, m, (txRow_is (g e m) x).mpr q⟩, fun ⟨e, m, q⟩ => ⟨e, m, (txRow_is (g e m) x).mp q⟩⟩
end
section
variable {P : Program} {w : World} {A : Around} {E : Value → Shared → Prop} {s : Shared} {a : Addr} {S : Str → Bool} {n : Nat}
/-- behind the new row: the store, and perhaps the table laid anew -/
theorem tx_tail {g : Bool → Sem Unit} (hg : ∀ (b : Bool) (s1 : Shared) (Z : Unit → Shared → Prop), Z () s1 → wpAny (model P w) A (g b) Z E s1)
    {o : Obj} {rows : Array (Int × Value)} {ep : Nat} {tb : SetTable} (ho : s.heap.get? a = some o) (hx : o.ExactSet) (hd : o.data = .set rows ep tb)
    {rows1 : Array (Int × Value)} {tb2 : SetTable} {S' : Str → Bool} (g1 : ∀ e ∈ rows1.toList, TxRow P w e) (nd : (rows1.toList.map txOf).Nodup) (mm : ∀ x, S' x = true ↔ x ∈ rows1.toList.map txOf)
    (few : rows1.size < scanBound) (fi : tb2.fits rows1.size = true) (ri : Ris tb2.place.toList) (le : w.params.followText "set-order" = true ∨ tb2.led = true) {dum : Bool} {R : Option Bool → Shared → Prop}
    (fin : ∀ h', Heap.SameBut a s.heap h' → TxSet P w h' a S' rows1.size → R (some true) { s with heap := h' }) :
    wpAny (model P w) A (do
        storeSet a rows1 tb2
        if (!dum && tb2.tooFull) = true then do
            g (relayAll tb2 rows1 (SetTable.grown rows1.size)).2.2
            storeSet a (relayAll tb2 rows1 (SetTable.grown rows1.size)).1 (relayAll tb2 rows1 (SetTable.grown rows1.size)).2.1
            pure (some true)
          else pure (some true)) R E s := by
  refine wpAny_bind (wpAny_storeSet_of ho hd ?_ (fits_of_scanBound few))
  have ho1 := store_at (es' := rows1) (t' := tb2) ho hd
  have sb := Heap.SameBut.update s.heap a (Obj.putSet rows1 tb2)
  split
  · have z1 := relayAll_perm tb2 rows1 (SetTable.grown rows1.size)
    have z2 := relayAll_fits tb2 rows1 (SetTable.grown rows1.size)
    have z3 := relayAll_ris tb2 rows1 (SetTable.grown rows1.size)
    have z4 := relayAll_led tb2 rows1 (SetTable.grown rows1.size)
    generalize relayAll tb2 rows1 (SetTable.grown rows1.size) = Z at z1 z2 z3 z4 ⊢
    obtain ⟨rows2, tb3, gave⟩ := Z
    dsimp only at z1 z2 z3 z4 ⊢
    have sz : rows2.size = rows1.size := by have q := z1.length_eq; simpa using q
    refine wpAny_bind (hg _ _ _ ?_)
    refine wpAny_bind (wpAny_storeSet_of ho1 rfl ?_ (fits_of_scanBound (by rw [sz]; exact few)))
    have ho2 := store_at (es' := rows2) (t' := tb3) ho1 rfl
    refine wpAny_pure (fin _ (sb.trans (Heap.SameBut.update _ a _)) ⟨_, rows2, _, tb3, ho2, hx, rfl, fun e m => g1 e (z1.mem_iff.mp m), (z1.map txOf).nodup_iff.mpr nd, fun x => (mm x).trans (z1.map txOf).mem_iff.symm, by rw [sz]; exact few, z2, sz, z3, ?_⟩)
    exact le.imp id fun q => z4.trans q
  · exact wpAny_pure (fin _ sb ⟨_, rows1, _, tb2, ho1, hx, rfl, g1, nd, mm, few, fi, rfl, ri, le⟩)
theorem tx_add {x : Str} {t : Tok} {Q : Bool → Shared → Prop} (R : TxSet P w s.heap a S n) (room : n + 1 < scanBound)
    (fin : ∀ h', Heap.SameBut a s.heap h' → TxSet P w h' a (fun y => S y || decide (y = x)) (if S x = true then n else n + 1) → Q (!S x) { s with heap := h' }) :
    wpAny (model P w) A (setAddHashed a (.str x t) ((PySem.strKind P w).hash x)) Q E s := by
  obtain ⟨o, rows, ep, tb, ho, hx, hd, g, nd, mm, few, fi, hn, ri, le⟩ := R
  have isx : (PySem.strKind P w).is x (.str x t) = true := PySem.strKind_is P w x t
  have sc : (Value.str x t).scannable = true := rfl
  have el := txRows_elems g
  unfold setAddHashed setAddHashedIn
  refine wpAny_holding (wpAny_bind (wpAny_setState_of ho hd fi ?_))
  dsimp only
  rw [byScan_of sc few el]
  simp only [↓reduceIte]
  unfold setAddByScan
  refine wpAny_bind (wpAny_bind (wpAny_rule (wpAny_bind (wpAny_setScan_of isx ho hd fi el ?_))))
  cases hf : List.findIdx? (fun e => (PySem.strKind P w).is x e.2) rows.toList with
  | some j =>
    dsimp only
    obtain ⟨lj, pj, _⟩ := List.findIdx?_eq_some_iff_getElem.mp hf
    have yes : S x = true := (mm x).mpr ((txRows_mem g x).mpr ⟨rows.toList[j], List.getElem_mem lj, pj⟩)
    refine wpAny_pure (wpAny_pure ?_)
    have q := fin s.heap (Heap.SameBut.refl a s.heap) ⟨o, rows, ep, tb, ho, hx, hd, g, nd, fun y => by
      rw [← mm y, Bool.or_eq_true, decide_eq_true_eq]
      exact ⟨fun z => z.elim id fun e => by rw [e]; exact yes, .inl⟩, few, fi, by rw [if_pos yes]; exact hn, ri, le⟩
    rwa [yes] at q
  | none =>
    dsimp only
    have nx : x ∉ rows.toList.map txOf := fun z => by
      obtain ⟨e, m, q⟩ := (txRows_mem g x).mp z
      have c := List.findIdx?_eq_none_iff.mp hf e m
      rw [q] at c
      cases c
    have no : S x = false := Bool.eq_false_iff.mpr fun q => nx ((mm x).mp q)
    have gw : ∀ (b : Bool) {s1 : Shared} {Z : Unit → Shared → Prop}, Z () s1 → wpAny (model P w) A (match b with | true => rule "set.scan.the-table-gave-way" | false => pure ()) Z E s1 :=
      fun b s1 Z q => by
        cases b
        · exact wpAny_pure q
        · exact wpAny_rule q
    have z1 := layNew_perm tb rows ((PySem.strKind P w).hash x) (.str x t)
    have z2 := layNew_fits tb rows ((PySem.strKind P w).hash x) (.str x t)
    have z3 := layNew_ris tb rows ((PySem.strKind P w).hash x) (.str x t) ri
    have z4 := layNew_led tb rows ((PySem.strKind P w).hash x) (.str x t)
    generalize layNew tb rows ((PySem.strKind P w).hash x) (.str x t) = Z at z1 z2 z3 z4 ⊢
    obtain ⟨rows1, tb1, dum, gave⟩ := Z
    dsimp only at z1 z2 z3 z4 ⊢
    rw [Array.toList_push] at z1
    have pc := z1.trans (List.perm_append_singleton _ _)
    have pk : (rows1.toList.map txOf).Perm (x :: rows.toList.map txOf) := pc.map txOf
    have g1 : ∀ e ∈ rows1.toList, TxRow P w e := fun e m => by
      rcases List.mem_cons.mp (pc.mem_iff.mp m) with q | q
      · exact q ▸ ⟨x, t, rfl, rfl⟩
      · exact g e q
    have m1 : ∀ y, (S y || decide (y = x)) = true ↔ y ∈ rows1.toList.map txOf := fun y => by
      rw [pk.mem_iff, List.mem_cons, ← mm y, Bool.or_eq_true, decide_eq_true_eq]
      exact Or.comm
    have sz : rows1.size = n + 1 := by
      have q := pc.length_eq
      rw [List.length_cons, Array.length_toList, Array.length_toList, hn] at q
      exact q
    have few1 : rows1.size < scanBound := by rw [sz]; exact room
    have led1 : w.params.followText "set-order" = true ∨ tb1.led = true := le.imp id fun q => z4.trans q
    have nd1 := pk.nodup_iff.mpr (List.nodup_cons.mpr ⟨nx, nd⟩)
    have last : ∀ h', Heap.SameBut a s.heap h' → TxSet P w h' a (fun y => S y || decide (y = x)) rows1.size → Q true { s with heap := h' } := fun h' sb r => by
      have q := fin h' sb
      rw [no] at q
      exact q (by rw [if_neg Bool.false_ne_true, ← sz]; exact r)
    refine wpAny_bind (gw _ ?_)
    split
    · refine wpAny_bind ?_
      rw [hashByValue_scannable 8 sc]
      refine wpAny_pure ?_
      refine tx_tail ?_ ho hx hd g1 nd1 m1 few1 ?_ ?_ ?_ ?_
      · exact fun b s1 Z q => gw b q
      · first | (split <;> first | exact z2 | exact SetTable.fits_plain_off z2) | exact z2
      · first | (split <;> exact z3) | exact z3
      · first | (split <;> exact led1) | exact led1
      · intro h' sb r
        dsimp only
        exact wpAny_pure (last h' sb r)
    · refine wpAny_bind (wpAny_pure ?_)
      simp only [↓reduceIte]
      refine tx_tail ?_ ho hx hd g1 nd1 m1 few1 z2 z3 led1 ?_
      · exact fun b s1 Z q => gw b q
      · intro h' sb r
        dsimp only
        exact wpAny_pure (last h' sb r)
end

/-! ### set(xs) -/
abbrev blank (w : World) : Obj := { cls := .type "set", dict := none, data := .set #[] 0 (.fresh 0 0 (!w.params.followText "set-order")) }
theorem tx_blank {P : Program} {w : World} {h : Heap} {a : Addr} {xs : List Str} (ho : h.get? a = some (blank w)) : TxSet P w h a (fun y => decide (y ∈ xs.take 0)) 0 :=
  ⟨_, #[], 0, _, ho, ⟨rfl, rfl, rfl⟩, rfl, (fun e m => by simp at m), (by simp), (fun k => by simp), (by decide), (by rfl), rfl, List.Pairwise.nil, by
    show _ ∨ (!w.params.followText "set-order") = true
    cases hq : w.params.followText "set-order"
    · exact Or.inr rfl
    · exact Or.inl rfl⟩
section
variable {P : Program} {w : World} {A : Around} {E : Value → Shared → Prop} {s : Shared}
theorem tx_at : ∀ {us : List Value} {xs : List Str}, PyProof.Rows.StrsAre us xs → ∀ (i : Nat) (v : Value), us[i]? = some v → ∃ x t, xs[i]? = some x ∧ v = .str x t
  | _, _, .nil, i, v, h => by simp at h
  | _, _, .cons x t r, 0, v, h => ⟨x, t, rfl, (Option.some.inj h).symm⟩
  | _, _, .cons x t r, i + 1, v, h => by
    obtain ⟨y, u, q1, q2⟩ := tx_at r i v (by simpa using h)
    exact ⟨y, u, by simpa using q1, q2⟩
theorem tx_update {I : Addr} {fp wr : List Addr} {G : Array GenState → Array GenState → Prop} {n : Nat} {Pv : Nat → Value → Prop} {St : Nat → Shared → Prop} {R : Result → Shared → Prop}
    (W : WalksS P w A.in1 I fp wr G n Pv St) (S : Addr) (out : S ∉ fp) (xs : List Str) (hn : n = xs.length) (few : xs.length + 1 < scanBound) (val : ∀ i v, Pv i v → ∃ x t, xs[i]? = some x ∧ v = .str x t) :
    ∀ (k i : Nat) (s : Shared), n - i = k → i ≤ n → St i s → (∃ c, c ≤ i ∧ TxSet P w s.heap S (fun y => decide (y ∈ xs.take i)) c) →
      (∀ s' c, Moved (S :: wr) G s s' → c ≤ n → TxSet P w s'.heap S (fun y => decide (y ∈ xs)) c → R (.ok (.ret .none)) s') →
      codeAny (model P w) A (.builtin "set.update.loop" ⟨[.ref S, .ref I], []⟩) R s := by
  have outw : S ∉ wr := fun q => out (W.sub _ q)
  have more : ∀ b ∈ wr, b ∈ S :: wr := fun b q => List.mem_cons_of_mem _ q
  intro k
  induction k with
  | zero =>
    intro i s e1 e2 st ⟨c, hc, R0⟩ fin
    have e3 : i = n := by omega
    subst e3
    refine codeAny_builtin PyProof.Rows.F.entry_set_update_loop ?_
    rw [Around.under_plainId PyProof.Rows.F.plain_set_update_loop _]
    show wpAny _ A.in1 (pyNext (.ref I) >>= _) _ _ s
    refine wpAny_bind (W.done s _ _ st fun s1 mv => ?_)
    show wpAny _ A.in1 (ret Value.none) _ _ s1
    rw [List.take_of_length_le (by omega)] at R0
    exact wpAny_pure (fin s1 c (mv.mono more) hc (R0.at fun o e => mv.heap S o outw e))
  | succ k ih =>
    intro i s e1 e2 st ⟨c, hc, R0⟩ fin
    refine codeAny_builtin PyProof.Rows.F.entry_set_update_loop ?_
    rw [Around.under_plainId PyProof.Rows.F.plain_set_update_loop _]
    show wpAny _ A.in1 (pyNext (.ref I) >>= _) _ _ s
    refine wpAny_bind (W.item i s _ _ (by omega) st fun v s1 pv st1 mv => ?_)
    obtain ⟨x, t, hx, rfl⟩ := val i v pv
    have R1 := R0.at (h' := s1.heap) fun o e => mv.heap S o outw e
    show wpAny _ A.in1 (holding [Value.str x t] (setAdd S (.str x t)) >>= _) _ _ s1
    refine wpAny_bind (wpAny_holding ?_)
    unfold setAdd
    refine wpAny_holding (wpAny_bind ((PySem.strKind P w).pyHash (k := x) (PySem.strKind_is _ _ _ _) ?_))
    refine tx_add (s := { s1 with toks := s1.toks + 1 }) R1 (by omega) fun h2 sb R2 => ?_
    have R3 : TxSet P w h2 S (fun y => decide (y ∈ xs.take (i + 1))) (if decide (x ∈ xs.take i) = true then c else c + 1) := R2.congr fun y => by
      rw [take_more hx]
      simp [List.mem_append]
    have c3 : (if decide (x ∈ xs.take i) = true then c else c + 1) ≤ i + 1 := by split <;> omega
    refine wpAny_pure ⟨plainId_quiet PyProof.Rows.F.plain_set_update_loop _, ih (i + 1) _ (by omega) (by omega) (W.frame _ s1 _ _ st1 (Nat.le_succ _) fun b q o e => ?_) ⟨_, c3, R3⟩ fun s2 c2 mv2 hc2 Rz => ?_⟩
    · rw [sb.2 b fun z : b = S => out (z ▸ q)]
      exact e
    · refine fin s2 c2 (Moved.trans W.gtrans ((mv.mono more).then_heap (Nat.le_succ _) fun b o q e => ?_) mv2) hc2 Rz
      rw [sb.2 b fun z : b = S => q (z ▸ List.mem_cons_self)]
      exact e
set_option maxHeartbeats 3200000 in
theorem tx_set {l : Addr} {items : Array Value} (xs : List Str) {Q : Value → Shared → Prop} (hh : A.handled = none) (hl : s.heap.IsList l items ∨ s.heap.IsTuple l items) (hi : PyProof.Rows.StrsAre items.toList xs) (few : xs.length + 1 < scanBound)
    (fin : ∀ (h' : Heap) (tk c : Nat), TxSet P w h' s.heap.objs.size (fun y => decide (y ∈ xs)) c → c ≤ xs.length → (∀ b o, s.heap.get? b = some o → h'.get? b = some o) → Q (.ref s.heap.objs.size) { s with heap := h', toks := tk }) :
    wpAny (model P w) A (call (.type "set") [.ref l]) Q E s := by
  have sz : items.size = xs.length := by
    have q := PyProof.Rows.StrsAre.length hi
    rw [Array.length_toList] at q
    exact q
  obtain ⟨c, tl, hmro⟩ := PySem.F.called_set.mro
  have hmade := PySem.F.called_set.made
  have hsub := PySem.F.called_set.sub
  refine wpAny_call (codeAny_of_tree ?_)
  show wpAny _ _ (callAny (.type "set") _) _ _ _
  refine wpAny_pure ⟨Code.quiet_builtin _ (by decide +kernel), codeAny_builtin PySem.F.entry_type_call ?_⟩
  rw [Around.under_plain (weight_type_call_type "set" [.ref l] []) rfl]
  have k1 := PySem.F.called_set.notType
  have k2 := PySem.F.called_set.canCreate
  have k3 := PySem.F.typeCall_set_1 (.ref l)
  repeat (any_goals (first | assumption | wp_step))
  refine codeAny_mono (code_set_led1 (.ref l) (E := E) (Q₁ := fun v s1 => v = .ref s.heap.objs.size ∧ s1 = { s with heap := s.heap.push (blank w) }) ⟨rfl, rfl⟩) fun r s1 hr => ?_
  cases r with
  | error e => exact hr
  | ok fl =>
    cases fl with
    | ret v =>
      obtain ⟨rfl, rfl⟩ := hr
      have at0 : (s.heap.push (blank w)).get? s.heap.objs.size = some (blank w) := Heap.get?_push_size _ rfl
      have ty0 : Shared.TypeIs { s with heap := s.heap.push (blank w) } (.ref s.heap.objs.size) "set" := ⟨_, at0, rfl⟩
      have k4 := PySem.F.called_set.init.lookup
      have k5 := PySem.F.called_set.init.bind (.ref s.heap.objs.size)
      repeat (any_goals (first | assumption | wp_step))
      refine codeAny_mono (codeAny_call_builtin (R := wants (fun r s2 => r = .none ∧ ∃ h' tk c, s2 = { s with heap := h', toks := tk } ∧ TxSet P w h' s.heap.objs.size (fun y => decide (y ∈ xs)) c ∧ c ≤ xs.length ∧
          ∀ b o, s.heap.get? b = some o → h'.get? b = some o) E) PySem.F.called_set.init.plain PySem.F.entry_set_init (check_set_init_1 ty0 ?_)) fun r2 s2 hr2 => ?_
      · have hlt : l < s.heap.objs.size := by
          rcases hl with ⟨o, e, _⟩ | ⟨o, e, _⟩ <;> exact Heap.lt_size e
        have h3 : A.in1.in1.in1.handled = none := by simp [hh]
        have z1 : (s.heap.push (blank w)).objs.size = s.heap.objs.size + 1 := Heap.size_push ..
        have neI : l ≠ (s.heap.push (blank w)).objs.size := by
          rw [z1]
          exact Nat.ne_of_lt (Nat.lt_succ_of_lt hlt)
        have outS : s.heap.objs.size ∉ [(s.heap.push (blank w)).objs.size, l] := by
          rw [z1]
          simp only [List.mem_cons, List.not_mem_nil, or_false, not_or]
          exact ⟨Nat.ne_of_lt (Nat.lt_succ_self _), Nat.ne_of_gt hlt⟩
        have val : ∀ (i : Nat) (v : Value), items[i]? = some v → ∃ x t, xs[i]? = some x ∧ v = .str x t := fun i v q => tx_at hi i v (by rw [Array.getElem?_toList]; exact q)
        have fin2 : ∀ (ob : Obj) (s' : Shared) (c' : Nat), Moved [s.heap.objs.size, (s.heap.push (blank w)).objs.size] (fun g g' => g' = g) { s with heap := (s.heap.push (blank w)).push ob } s' → c' ≤ xs.length → TxSet P w s'.heap s.heap.objs.size (fun y => decide (y ∈ xs)) c' →
            ∃ h' tk c, s' = { s with heap := h', toks := tk } ∧ TxSet P w h' s.heap.objs.size (fun y => decide (y ∈ xs)) c ∧ c ≤ xs.length ∧ ∀ b o, s.heap.get? b = some o → h'.get? b = some o := fun ob s' c' mv q1 q2 => by
          obtain ⟨h', g2, d', tk', os'⟩ := s'
          have eg : g2 = s.gens := mv.gens
          have ed : d' = s.drawn := mv.drawn
          have eo : os' = s.os := mv.os
          subst eg ed eo
          refine ⟨h', tk', c', rfl, q2, q1, fun b o e => ?_⟩
          have b0 : b < s.heap.objs.size := Heap.lt_size e
          refine mv.heap b o ?_ (Heap.get?_push_of_some _ (Heap.get?_push_of_some _ e))
          rw [z1]
          simp only [List.mem_cons, List.not_mem_nil, or_false, not_or]
          exact ⟨Nat.ne_of_lt b0, Nat.ne_of_lt (Nat.lt_succ_of_lt b0)⟩
        have at2 : ∀ ob : Obj, ((s.heap.push (blank w)).push ob).get? s.heap.objs.size = some (blank w) := fun ob => Heap.get?_push_of_some _ at0
        rcases hl with hl | hl
        · obtain ⟨ol, hol, hcl, nl, hdl⟩ := hl
          obtain ⟨ocls, odict, odata, oslots⟩ := ol
          simp only at hcl hdl
          subst hcl hdl
          have hol' : (s.heap.push (blank w)).get? l = some { cls := .type "list", dict := odict, data := .seq items nl, slots := oslots } := Heap.get?_push_of_some _ hol
          have u1 := PySem.F.sub_list_set
          have u2 := PySem.F.sub_list_frozenset
          have u3 : (Value.type "list" == Value.type "dict") = false := by decide
          have il : (s.heap.push (blank w)).IsList l items := ⟨_, hol', rfl, nl, rfl⟩
          unfold Builtin.«set.__init__» noKeywords Builtin.Frozenset.updateFrom
          generalize hPI : pyIter = PI
          wp_walk
          subst hPI
          refine wpAny_pyIter_list il ?_
          refine wpAny_bind (wpAny_runValue ?_)
          refine tx_update ((Walks.list h3 _ l neI items).toS) s.heap.objs.size outS xs sz few val (items.size - 0) 0 _ (by omega) (Nat.zero_le _) ⟨⟨_, Heap.get?_push_size _ rfl, rfl, rfl⟩, il.push _⟩ ⟨0, Nat.le_refl 0, tx_blank (at2 _)⟩ fun s' c' mv q1 q2 => ?_
          rw [sz] at q1
          have q := fin2 _ s' c' mv q1 q2
          refine wpAny_pure ?_
          show wpAny _ _ (ret Value.none) _ _ _
          exact wpAny_pure ⟨rfl, q⟩
        · obtain ⟨ol, hol, hcl, nl, hdl⟩ := hl
          obtain ⟨ocls, odict, odata, oslots⟩ := ol
          simp only at hcl hdl
          subst hcl hdl
          have hol' : (s.heap.push (blank w)).get? l = some { cls := .type "tuple", dict := odict, data := .seq items nl, slots := oslots } := Heap.get?_push_of_some _ hol
          have u1 := PySem.F.sub_tuple_set
          have u2 := PySem.F.sub_tuple_frozenset
          have u3 : (Value.type "tuple" == Value.type "dict") = false := by decide
          have il : (s.heap.push (blank w)).IsTuple l items := ⟨_, hol', rfl, nl, rfl⟩
          unfold Builtin.«set.__init__» noKeywords Builtin.Frozenset.updateFrom
          generalize hPI : pyIter = PI
          wp_walk
          subst hPI
          refine wpAny_pyIter_tuple il ?_
          refine wpAny_bind (wpAny_runValue ?_)
          refine tx_update ((Walks.tuple h3 _ l neI items).toS) s.heap.objs.size outS xs sz few val (items.size - 0) 0 _ (by omega) (Nat.zero_le _) ⟨⟨_, Heap.get?_push_size _ rfl, rfl, rfl⟩, il.push _⟩ ⟨0, Nat.le_refl 0, tx_blank (at2 _)⟩ fun s' c' mv q1 q2 => ?_
          rw [sz] at q1
          have q := fin2 _ s' c' mv q1 q2
          refine wpAny_pure ?_
          show wpAny _ _ (ret Value.none) _ _ _
          exact wpAny_pure ⟨rfl, q⟩
      · cases r2 with
        | error e => exact hr2
        | ok fl2 =>
          cases fl2 with
          | ret r =>
            obtain ⟨rfl, h', tk, c', rfl, q1, q2, q3⟩ := hr2
            repeat (any_goals (first | assumption | wp_step))
            exact fin _ _ _ q1 q2 q3
          | _ => exact hr2.elim
    | _ => exact hr.elim
end
end Yarn

set_option Elab.async false
set_option linter.all false
set_option maxRecDepth 100000
set_option maxHeartbeats 4000000
/-! sorted(set(xs)) of texts -/
namespace Yarn
open PySem PySem.Spec PyProof.Rows L2 Ty
section
variable {P : Program} {w : World} {A : Around} {E : Value → Shared → Prop} {s : Shared} {a : Addr}
theorem tx_strs : ∀ (l : List Value), (∀ v ∈ l, ∃ x t, v = Value.str x t) → ∃ xs, StrsAre l xs ∧ ∀ f : Value → Str, (∀ x t, f (.str x t) = x) → xs = l.map f
  | [], _ => ⟨[], .nil, fun _ _ => rfl⟩
  | v :: l, h => by
    obtain ⟨x, t, rfl⟩ := h v List.mem_cons_self
    obtain ⟨xs, r, q⟩ := tx_strs l fun u m => h u (List.mem_cons_of_mem _ m)
    exact ⟨x :: xs, .cons x t r, fun f hf => by rw [List.map_cons, hf, ← q f hf]⟩
def tvOf (v : Value) : Str := match v with
  | .str x _ => x
  | _ => Str.empty
theorem tx_sorted {S : Str → Bool} {n : Nat} {Q : Value → Shared → Prop} (R : TxSet P w s.heap a S n) (hh : A.handled = none) (few : n < 64)
    (fin : ∀ s' p (out : Array Value) (c : Nat) (ys : List Str), (∀ b o, s.heap.get? b = some o → s'.heap.get? b = some o) → s'.gens = s.gens → s'.os = s.os → s.heap.objs.size ≤ p →
      s'.heap.get? p = some (seqObj "list" out c) → StrsAre out.toList ys → sortedS ys = true → ys.Nodup → (∀ x, x ∈ ys ↔ S x = true) → ys.length = n → Q (.ref p) s') :
    wpAny (model P w) A (call (.builtin "sorted") [.ref a]) Q E s := by
  obtain ⟨o, rows, ep, tb, ho, hx, hd, g, nd, mm, small, fi, hn, ri, le⟩ := R
  refine Calls.call_function_entry kind_sorted plain_sorted entry_sorted (args_sorted1 _) ?_
  unfold Builtin.«sorted»
  refine wpAny_bind (m := checkCount "sorted" 1 1 _) (wpAny_pure ?_)
  refine wpAny_bind (collect_set (A := A.in1) hh ⟨o, ho, hx.1, hd⟩ fi small ri le fun s1 vs k1 z1 g1 o1 pm => ?_)
  have vl : vs.length = n := (pm.length_eq.trans (by rw [List.length_map, Array.length_toList])).trans hn
  obtain ⟨xs, hS, hxs⟩ := tx_strs vs fun v m => by
    obtain ⟨e, me, q⟩ := List.mem_map.mp (pm.mem_iff.mp m)
    obtain ⟨x, t, q1, _⟩ := g e me
    exact ⟨x, t, by rw [← q]; exact q1⟩
  have pk : xs.Perm (rows.toList.map txOf) := by
    rw [hxs tvOf fun _ _ => rfl]
    have q := pm.map tvOf
    rw [List.map_map] at q
    exact q
  refine wpAny_bind (wpAny_newList ?_ (by rw [vl, sizeLine_eq]; omega))
  have at1 : (s1.heap.push (seqObj "list" vs.toArray 0)).get? s1.heap.objs.size = some (seqObj "list" vs.toArray 0) := Heap.get?_push_size _ rfl
  refine wpAny_bind (wpAny_holding (wpAny_call_entry PyProof.Rows.slot_list_sort ⟨_, at1, rfl⟩ PyProof.Rows.entry_list_sort
    (list_sort_treeK strKind_oneLt (s := { s1 with heap := s1.heap.push (seqObj "list" vs.toArray 0) }) at1 hS.keysOf (fun v1 v2 rest e => keyKind_strs (by rw [← e]; exact hS)) (by rw [vl]; exact few) fun st' hp hs => ⟨_, rfl, ?_⟩) (PyProof.Rows.args_list_sort _)))
  obtain ⟨ys, y1, y2, y3⟩ := sorted_out_str hS hp hs
  obtain ⟨c, hc⟩ := PyProof.Rows.sortedHeap_at (vs := vs) (out := (arrOf st').map (·.2)) at1
  have pn := y2.trans pk
  refine wpAny_pure ⟨_, rfl, fin _ s1.heap.objs.size _ c ys (fun b u e => ?_) g1 o1 z1 hc y1 y3 (pn.nodup_iff.mpr nd) (fun x => by rw [pn.mem_iff, ← mm x]) ?_⟩
  · have q := k1 b u e
    have lt := Heap.lt_size q
    show (PyProof.Rows.sortedHeap (s1.heap.push (seqObj "list" vs.toArray 0)) s1.heap.objs.size vs _).get? b = some u
    rw [PyProof.Rows.sortedHeap_old (Nat.ne_of_lt lt) (by rw [size_push']; exact Nat.lt_succ_of_lt lt)]
    exact Heap.get?_push_of_some _ q
  · rw [pn.length_eq, List.length_map, Array.length_toList]
    exact hn
end
/-- the set of texts as a thing of the abstract heap -/
def TxO (P : Program) (w : World) (a : Addr) (S : Str → Bool) (n : Nat) : HO := .ext fun h => TxSet P w h a S n
theorem txO_new {w : World} {P : Program} {H : Hp} {h : Heap} {a : Addr} {S : Str → Bool} {n : Nat} (R : TxSet P w h a S n) : ObjOk P w H h a (TxO P w a S n) := by
  obtain ⟨o, rows, ep, tb, ho, r⟩ := id R
  exact ⟨R, ⟨o, ho⟩, fun h1 h2 R1 k => R1.at k⟩
section
variable {X : Cx}
def rSetTx (K : PySem.W.Frag) (P : Program) (w : World) : List V → Hp → VK → Prop := fun xs H Q => ∃ (l : Addr) (ts : List Str), xs = [V.ref l] ∧ (SqL K H l (ts.map V.str) ∨ SqT K H l (ts.map V.str)) ∧ ts.length < 1000 ∧
  ∀ (p : Addr) (n : Nat), H p = none → n ≤ ts.length → Q (.ref p) (upd H p (TxO P w p (fun y => decide (y ∈ ts)) n))
theorem cr_setTx (hc : X.calm = true) : CallR X (.type "set") (rSetTx X.K X.prog X.w) := by
  intro pins s σ H vs us Q I r h
  obtain ⟨l, ts, rfl, hl, few, q⟩ := h
  rw [Vals.ref1 r]
  have fewS : ts.length + 1 < scanBound := by unfold scanBound; omega
  have key : ∀ items : Array Value, (s.heap.IsList l items ∨ s.heap.IsTuple l items) → StrsAre items.toList ts → wpAny (model X.prog X.w) X.A (call (.type "set") [.ref l]) (EP X pins σ Q) X.xe s := fun items hi hs => by
    refine tx_set ts (I.ok.hd hc) hi hs fewS fun h' tk c R hc' kp => ?_
    have I1 : Inv X pins σ H { s with heap := h', toks := tk } := I.kept kp
    have nw : H s.heap.objs.size = none := I.hok.fresh (Nat.le_refl _)
    refine ⟨.ref s.heap.objs.size, _, ?_, rfl, q _ c nw hc'⟩
    exact I.laid (t' := tk) (o := TxO X.prog X.w s.heap.objs.size (fun y => decide (y ∈ ts)) c) kp (Nat.le_refl _) (txO_new R)
  rcases hl with hl | hl
  · obtain ⟨its, rv, ⟨o, n, e1, e2, e3, e4⟩, _⟩ := I.list hl
    exact key its.toArray (.inl ⟨o, e1, e2, n, e4⟩) (by rw [List.toList_toArray]; exact rv.strs)
  · obtain ⟨its, rv, ht, _⟩ := I.tuple hl
    exact key its.toArray (.inr ht) (by rw [List.toList_toArray]; exact rv.strs)
def rSortedTx (P : Program) (w : World) : List V → Hp → VK → Prop := fun vs H Q => ∃ (a : Addr) (S : Str → Bool) (n : Nat), vs = [V.ref a] ∧ H a = some (TxO P w a S n) ∧ n < 64 ∧
  ∀ (ys : List Str) (p : Addr), sortedS ys = true → ys.Nodup → (∀ x, x ∈ ys ↔ S x = true) → H p = none → Q (.ref p) (upd H p (.lst (ys.map V.str)))
theorem cr_sortedTx (hc : X.calm = true) : CallR X (.builtin "sorted") (rSortedTx X.prog X.w) := by
  intro pins s σ H vs us Q I r h
  obtain ⟨a, S, n, rfl, ha, few, q⟩ := h
  have R : TxSet X.prog X.w s.heap a S n := (I.hok a _ ha).1
  rw [Vals.ref1 r]
  refine tx_sorted R (I.ok.hd hc) few fun s' p out c ys k g o hp hg hi so nd hm hl => ?_
  have len : (ys.map V.str).length ≤ sizeLine := by
    rw [List.length_map, hl, sizeLine_eq]
    omega
  have nw : H p = none := I.hok.fresh hp
  have J : Inv X pins σ (upd H p (.lst (ys.map V.str))) { s with heap := s'.heap, gens := s'.gens, drawn := s'.drawn, toks := s'.toks } :=
    I.call (ch := []) (Un.laid k hp nw) (I.hok.laid k hp ⟨len, out.toList, c, vals_of_strs hi, hg⟩) (by rw [g]; exact I.bare) (fun _ z => nomatch z)
  have e : s' = { s with heap := s'.heap, gens := s'.gens, drawn := s'.drawn, toks := s'.toks } := by
    cases s'
    cases s
    cases o
    rfl
  rw [e]
  exact ⟨.ref p, _, J, rfl, q ys p so nd hm nw⟩
end
/-- the texts of xs in order, each once -/
def uniq : List Str → List Str
  | [] => []
  | x :: xs => if x ∈ xs then uniq xs else x :: uniq xs
theorem uniq_mem : ∀ {xs : List Str} {x : Str}, x ∈ uniq xs ↔ x ∈ xs
  | [], _ => Iff.rfl
  | y :: ys, x => by
    unfold uniq
    by_cases h : y ∈ ys
    · rw [if_pos h, uniq_mem, List.mem_cons]
      exact ⟨.inr, fun z => z.elim (fun e => e ▸ h) id⟩
    · rw [if_neg h, List.mem_cons, List.mem_cons, uniq_mem]
theorem uniq_nodup : ∀ (xs : List Str), (uniq xs).Nodup
  | [] => List.nodup_nil
  | y :: ys => by
    unfold uniq
    by_cases h : y ∈ ys
    · rw [if_pos h]; exact uniq_nodup ys
    · rw [if_neg h]; exact List.nodup_cons.mpr ⟨fun z => h (uniq_mem.mp z), uniq_nodup ys⟩
theorem uniq_id : ∀ {xs : List Str}, xs.Nodup → uniq xs = xs
  | [], _ => rfl
  | y :: ys, h => by
    obtain ⟨h1, h2⟩ := List.nodup_cons.mp h
    unfold uniq
    rw [if_neg h1, uniq_id h2]
def sset (xs : List Str) : List Str := srtS (uniq xs)
theorem sset_mem {xs : List Str} {x : Str} : x ∈ sset xs ↔ x ∈ xs := by
  unfold sset
  rw [(srt_perm _).mem_iff, uniq_mem]
theorem sset_nodup {xs : List Str} : (sset xs).Nodup := (srt_perm _).nodup_iff.mpr (uniq_nodup xs)
theorem sset_pair {xs : List Str} : (sset xs).Pairwise (fun a b => leS a b = true) := srt_pair _
theorem perm_of_mem {xs ys : List Str} (h1 : xs.Nodup) (h2 : ys.Nodup) (h : ∀ x, x ∈ xs ↔ x ∈ ys) : xs.Perm ys := (List.perm_ext_iff_of_nodup h1 h2).mpr h
theorem sset_unique {xs ys : List Str} (so : sortedS ys = true) (nd : ys.Nodup) (hm : ∀ x, x ∈ ys ↔ x ∈ xs) : ys = sset xs :=
  srt_unique (perm_of_mem nd (uniq_nodup xs) fun x => by rw [hm x, uniq_mem]) (sorted_pair so)
theorem sset_eq {xs ys : List Str} (nd : ys.Nodup) (hm : ∀ x, x ∈ ys ↔ x ∈ xs) : srtS ys = sset xs :=
  srt_unique ((srt_perm ys).trans (perm_of_mem nd (uniq_nodup xs) fun x => by rw [hm x, uniq_mem])) (srt_pair ys)
section
variable {α : Type} [Ty α]
theorem ed_sortedSet {K : PySem.W.Frag} {P : Program} {w : World} {ta : TE} {ρ : Ro} {xs : List Str} (ha : Ev ta ρ 0 (Is xs)) (h : xs.length < 64) :
    Ev (α := List Str) (tCB (rSortedTx P w) (tCons (tCB (rSetTx K P w) (tCons ta tNil)) tNil)) ρ 0 (Is (sset xs)) := fun n M σ H al le env Q k => by
  refine ha n M σ H al le env _ fun v H1 ys e ax r => ?_
  cases ax
  obtain ⟨a, vs, rfl, e', ra⟩ := Rp.lstI r
  have z := RpAll.strs ra
  subst z
  refine ⟨a, xs, rfl, .inl (SqL.of e'), by omega, fun p m hp hm => ?_⟩
  have n1 := new_ref (o := TxO P w p (fun y => decide (y ∈ xs)) m) (al.ext e) hp
  refine ⟨p, _, m, rfl, upd_same, by omega, fun zs q so nd hz hq => ?_⟩
  have ez : zs = sset xs := sset_unique so nd fun x => by rw [hz x, decide_eq_true_eq]
  subst ez
  have al2 : Al M (upd H1 p (TxO P w p (fun y => decide (y ∈ xs)) m)) := (al.ext e).ext (.same n1.1)
  have n2 := new_ref (o := .lst ((sset xs).map V.str)) al2 hq
  exact k _ _ _ ((e.snd n1.1).snd n2.1) rfl (.lst n2.2 (rpAll_strs _))
theorem ed_sortedSetT {K : PySem.W.Frag} {P : Program} {w : World} {ta : TE} {ρ : Ro} {xs : Tp Str} (ha : Ev ta ρ 0 (Is xs)) (h : xs.l.length < 64) :
    Ev (α := List Str) (tCB (rSortedTx P w) (tCons (tCB (rSetTx K P w) (tCons ta tNil)) tNil)) ρ 0 (Is (sset xs.l)) := fun n M σ H al le env Q k => by
  refine ha n M σ H al le env _ fun v H1 ys e ax r => ?_
  cases ax
  obtain ⟨a, vs, rfl, e', ra⟩ := Rp.tupI r
  have z := RpAll.strs ra
  subst z
  refine ⟨a, xs.l, rfl, .inr (SqT.of e'), by omega, fun p m hp hm => ?_⟩
  have n1 := new_ref (o := TxO P w p (fun y => decide (y ∈ xs.l)) m) (al.ext e) hp
  refine ⟨p, _, m, rfl, upd_same, by omega, fun zs q so nd hz hq => ?_⟩
  have ez : zs = sset xs.l := sset_unique so nd fun x => by rw [hz x, decide_eq_true_eq]
  subst ez
  have al2 : Al M (upd H1 p (TxO P w p (fun y => decide (y ∈ xs.l)) m)) := (al.ext e).ext (.same n1.1)
  have n2 := new_ref (o := .lst ((sset xs.l).map V.str)) al2 hq
  exact k _ _ _ ((e.snd n1.1).snd n2.1) rfl (.lst n2.2 (rpAll_strs _))
end
end Yarn

set_option Elab.async false
set_option linter.all false
set_option maxRecDepth 100000
set_option maxHeartbeats 4000000
/-! sorted of pairs of a text and a number -/
namespace Yarn
open PySem PySem.Spec PyProof.Rows L2 Ty
def ltSI (p q : Str × Int) : Bool := if p.1 = q.1 then decide (p.2 < q.2) else decide (p.1.cps.toList < q.1.cps.toList)
theorem str_of_list {a b : Str} (h : a.cps.toList = b.cps.toList) : a = b := by
  cases a; cases b
  simp at h
  rw [h]
theorem tri (a b : Str) : a.cps.toList < b.cps.toList ∨ a = b ∨ b.cps.toList < a.cps.toList := by
  by_cases h1 : a.cps.toList < b.cps.toList
  · exact .inl h1
  · by_cases h2 : b.cps.toList < a.cps.toList
    · exact .inr (.inr h2)
    · exact .inr (.inl (str_of_list (List.le_antisymm (List.not_lt.mp h2) (List.not_lt.mp h1))))
theorem ltSI_iff {p q : Str × Int} : ltSI p q = true ↔ p.1.cps.toList < q.1.cps.toList ∨ (p.1 = q.1 ∧ p.2 < q.2) := by
  unfold ltSI
  by_cases e : p.1 = q.1
  · rw [if_pos e, decide_eq_true_eq]
    constructor
    · exact fun h => .inr ⟨e, h⟩
    · rintro (h | h)
      · rw [e] at h
        exact absurd h (List.lt_irrefl _)
      · exact h.2
  · rw [if_neg e, decide_eq_true_eq]
    exact ⟨.inl, fun h => h.elim id fun z => absurd z.1 e⟩
theorem ltSI_no {p q : Str × Int} : ltSI p q = false ↔ q.1.cps.toList < p.1.cps.toList ∨ (p.1 = q.1 ∧ q.2 ≤ p.2) := by
  rw [Bool.eq_false_iff, Ne, ltSI_iff]
  rcases tri p.1 q.1 with h | h | h
  · constructor
    · exact fun z => absurd (.inl h) z
    · rintro (z | z)
      · exact absurd (List.lt_trans h z) (List.lt_irrefl _)
      · rw [z.1] at h; exact absurd h (List.lt_irrefl _)
  · constructor
    · exact fun z => .inr ⟨h, by have : ¬ p.2 < q.2 := fun w => z (.inr ⟨h, w⟩); omega⟩
    · rintro (z | z)
      · rw [h] at z; exact absurd z (List.lt_irrefl _)
      · rintro (w | w)
        · rw [h] at w; exact absurd w (List.lt_irrefl _)
        · omega
  · constructor
    · exact fun _ => .inl h
    · rintro _ (w | w)
      · exact absurd (List.lt_trans h w) (List.lt_irrefl _)
      · rw [w.1] at h; exact absurd h (List.lt_irrefl _)
theorem swoSI {α : Type} (k : α → Str × Int) : SrtO.Swo fun v u => ltSI (k v) (k u) := by
  refine ⟨fun x y h => ?_, fun x y z h1 h2 => ?_⟩
  · refine ltSI_no.mpr ?_
    rcases ltSI_iff.mp h with a | a
    · exact .inl a
    · exact .inr ⟨a.1.symm, by omega⟩
  · refine ltSI_no.mpr ?_
    rcases ltSI_no.mp h1 with a | a <;> rcases ltSI_no.mp h2 with b | b
    · exact .inl (List.lt_trans a b)
    · exact .inl (by rw [b.1]; exact a)
    · exact .inl (by rw [← a.1]; exact b)
    · exact .inr ⟨b.1.trans a.1, by omega⟩
section
variable {prog : Program} {w : World} {A : Around} {E : Value → Shared → Prop} {s : Shared}
def IsSI (h : Heap) (v : Value) (p : Str × Int) : Prop := ∃ a o t u n, v = .ref a ∧ h.get? a = some o ∧ o.cls = .type "tuple" ∧ o.data = .seq #[.str p.1 t, .int p.2 u] n
theorem IsSI.keep {h h' : Heap} {v : Value} {p : Str × Int} (x : IsSI h v p) (k : ∀ b o, h.get? b = some o → o.cls = .type "tuple" → h'.get? b = some o) : IsSI h' v p :=
  let ⟨a, o, t, u, n, e, ho, hc, hd⟩ := x
  ⟨a, o, t, u, n, e, k _ _ ho hc, hc, hd⟩
theorem si_firsts {h : Heap} {k : Value → Str × Int} : ∀ {vs : List Value}, (∀ v ∈ vs, IsSI h v (k v)) → ∃ fs : List Value, PySem.W.KatTups h vs fs ∧ fs.length = vs.length ∧ ∀ f ∈ fs, ∃ x t, f = Value.str x t
  | [], _ => ⟨[], PySem.W.KatTups.nil, rfl, fun _ m => by simp at m⟩
  | v :: vs, hp => by
    obtain ⟨fs, h1, h2, h3⟩ := si_firsts (vs := vs) fun u m => hp u (List.mem_cons_of_mem _ m)
    obtain ⟨a, o, t, u, n, e, ho, hc, hd⟩ := hp v List.mem_cons_self
    rw [e]
    refine ⟨.str (k v).1 t :: fs, PySem.W.KatTups.cons ho hc hd rfl h1, congrArg (· + 1) h2, fun f m => ?_⟩
    exact (List.mem_cons.mp m).elim (fun q => ⟨_, _, q⟩) (h3 f)
theorem si_cmp {vs : List Value} {k : Value → Str × Int} (hp : ∀ v ∈ vs, IsSI s.heap v (k v)) : SrtO.Cmp prog w A s (tuples' true) (fun p => p.1 ∈ vs) (SrtO.lt2 fun v u => ltSI (k v) (k u)) := by
  intro p q m1 m2
  obtain ⟨a, o, t, u, n, e, ho, hc, hd⟩ := hp _ m1
  obtain ⟨a', o', t', u', n', e', ho', hc', hd'⟩ := hp _ m2
  show wpAny (model prog w) A (keyLt' (tuples' true) p.1 q.1) (fun r s' => s' = s ∧ r = ltSI (k p.1) (k q.1)) (fun _ _ => False) s
  unfold ltSI
  generalize (k p.1) = x at hd ⊢
  generalize (k q.1) = y at hd' ⊢
  rw [e, e']
  refine PySem.W.kat_lt ho hd ho' hd' ?_
  show PySem.W.KatLex prog w A true (decide (2 < 2)) _ [(.str x.1 t, .str y.1 t'), (.int x.2 u, .int y.2 u')] 0 s
  refine PySem.W.kat_cons (SeqAt.EqAt.str_str x.1 t y.1 t' prog w _ _ ?_)
  refine PySem.W.kat_go (fun e1 => ?_) (fun e1 => ?_)
  · have ex : x.1 = y.1 := by simpa using e1
    refine PySem.W.kat_yes (PySem.W.kat_cons (SeqAt.EqAt.int_int x.2 u y.2 u' prog w _ _ ?_))
    refine PySem.W.kat_go (fun e2 => ?_) (fun e2 => ?_)
    · have ey : x.2 = y.2 := by simpa using e2
      exact PySem.W.kat_yes (PySem.W.kat_nil ⟨rfl, by rw [if_pos ex, ey]; exact (decide_eq_false (Int.lt_irrefl _)).symm⟩)
    · exact PySem.W.kat_no (PySem.W.kat_one _ _ (PyProof.Rows.lt_int ⟨rfl, by rw [if_pos ex]⟩))
  · have ex : ¬ x.1 = y.1 := by simpa using e1
    exact PySem.W.kat_no (PyProof.Rows.oneLt_str ⟨rfl, by rw [if_neg ex]⟩)
theorem si_sortable {a : Addr} {vs : List Value} {k : Value → Str × Int} (h0 : 0 < vs.length) (hp : ∀ v ∈ vs, IsSI s.heap v (k v)) (ha : ∀ o, s.heap.get? a = some o → o.cls ≠ .type "tuple") : SrtO.SortableO prog w A s a vs fun v u => ltSI (k v) (k u) := by
  intro h' kp
  have hp' : ∀ v ∈ vs, IsSI h' v (k v) := fun v m => (hp v m).keep fun b o e c => kp b o (fun z => ha o (z ▸ e) c) e
  obtain ⟨fs, h1, h2, h3⟩ := si_firsts hp'
  refine ⟨tuples' true, fun Q E hq => ?_, si_cmp hp'⟩
  refine PySem.W.kat_kind (T := .type "str") h1 (by omega) (fun f m => ?_) (by rfl) ?_
  · obtain ⟨x, t, rfl⟩ := h3 f m
    exact PySem.W.Looks.now
  · have e : (Value.type "str" != Value.type "tuple") = true := by decide +kernel
    rw [e]
    exact hq
end
section
variable {X : Cx}
def rSortedSI (K : PySem.W.Frag) : List V → Hp → VK → Prop := fun vs H Q => ∃ (a : Addr) (xs : List V) (k : V → Str × Int), vs = [V.ref a] ∧ SqL K H a xs ∧ (∀ x ∈ xs, ∃ t, x = V.ref t ∧ H t = some (.tup [.str (k x).1, .int (k x).2])) ∧
  ∀ ys p, ys.Pairwise (fun x y => ltSI (k y) (k x) = false) → ys.Perm xs → H p = none → Q (.ref p) (upd H p (.lst ys))
theorem cr_sortedSI : CallR X (.builtin "sorted") (rSortedSI X.K) := by
  intro pins s σ H vs us Q I r h
  obtain ⟨a, xs, k, rfl, hs, hx, q⟩ := h
  obtain ⟨its, rv, hl, hz⟩ := I.list hs
  obtain ⟨u, rfl, ru⟩ := vals1 r
  obtain rfl : u = Value.ref a := ru
  obtain ⟨e1, e2⟩ := refs_back rv fun x m => let ⟨t, e, _⟩ := hx x m; ⟨t, e⟩
  have isi : ∀ v ∈ its, IsSI s.heap v (k (backV v)) := fun v m => by
    obtain ⟨t, rfl⟩ := e2 v m
    obtain ⟨t', e, ht⟩ := hx (V.ref t) (by rw [e1]; exact List.mem_map.mpr ⟨_, m, rfl⟩)
    cases e
    obtain ⟨_, its2, r2, o, ho, hc, n, hd⟩ := I.hok _ _ ht
    obtain ⟨u1, u2, rfl, ri, rj⟩ := vals2 r2
    obtain ⟨t1, rfl⟩ := ri
    obtain ⟨t2, rfl⟩ := rj
    exact ⟨t, o, t1, t2, n, rfl, ho, hc, hd⟩
  refine SrtO.sorted_ord (swoSI fun u => k (backV u)) hl.isList (by rw [← rv.length]; exact hz) (fun h2 h1 b hb kk => ?_) fun out so st => ?_
  · refine si_sortable (s := { s with heap := h1 }) (by omega) (fun v m => (isi v m).keep fun b o e _ => (kk b o e).2) fun o e => ?_
    have e' : some o = some (seqObj "list" its.toArray 0) := e.symm.trans hb
    cases e'
    intro c
    exact absurd (Value.type.inj c) (by decide)
  · have h3 : ∀ u ∈ out, ∃ a, u = Value.ref a := fun u m => e2 u (st.perm.mem_iff.mp m)
    obtain ⟨n, hn⟩ := PyProof.Rows.sortedAll_at s.heap its out.toArray
    have pm : (out.map backV).Perm xs := by rw [e1]; exact st.perm.map backV
    refine ⟨.ref _, upd H (s.heap.objs.size + 1) (.lst (out.map backV)), I.laid (t' := s.toks) (fun b o e => PyProof.Rows.sortedAll_old e) (Nat.le_succ _) ⟨?_, out, n, vals_back h3, hn⟩, rfl, q _ _ (List.pairwise_map.mpr so) pm (I.hok.fresh (Nat.le_succ _))⟩
    rw [pm.length_eq]
    exact hz
end

theorem rv1_sortedSI {K : PySem.W.Frag} {xs : List (Str × Int)} : ∀ (M : List Addr) (H : Hp) (v : V) (Q : VK), Al M H → Rp (hide M H) v (sh xs) →
    (∀ u H' (ys : List (Str × Int)), Same H H' → ys.Perm xs → ys.Pairwise (fun a b => ltSI b a = false) → Rp (hide M H') u (sh ys) → Q u H') → rSortedSI K [v] H Q := fun M H v Q al r k => by
  obtain ⟨a, vs, rfl, e, ra⟩ := Rp.lstI r
  -- each item: a tuple of a text and a number
  have key : ∀ {vs : List V} {xs : List (Str × Int)}, RpAll (hide M H) vs (xs.map sh) → ∀ v ∈ vs, ∃ t p, p ∈ xs ∧ v = V.ref t ∧ H t = some (.tup [.str p.1, .int p.2]) ∧ hide M H t = some (.tup [.str p.1, .int p.2]) := fun {vs xs} h => by
    induction xs generalizing vs with
    | nil => cases h; intro v m; cases m
    | cons x xs ih =>
      cases h with
      | cons h1 h2 =>
        intro v m
        rcases List.mem_cons.mp m with rfl | m
        · obtain ⟨t, ws, rfl, ht, hr⟩ := Rp.tupI h1
          cases hr with
          | cons q1 q2 =>
            cases q1
            cases q2 with
            | cons q3 q4 =>
              cases q3
              cases q4
              refine ⟨t, x, List.mem_cons_self, rfl, ht, ?_⟩
              cases h1 with
              | tup z _ =>
                have z2 := (hide_some z).2
                rw [ht] at z2
                cases z2
                exact z
        · obtain ⟨t, p, m1, z⟩ := ih h2 v m
          exact ⟨t, p, List.mem_cons_of_mem _ m1, z⟩
  let kf : V → Str × Int := fun v => match v with
    | .ref t => match H t with
      | some (.tup [.str x, .int i]) => (x, i)
      | _ => (Str.empty, 0)
    | _ => (Str.empty, 0)
  have kv : ∀ t x i, H t = some (.tup [.str x, .int i]) → kf (.ref t) = (x, i) := fun t x i h => by
    show (match H t with | some (.tup [.str x, .int i]) => (x, i) | _ => (Str.empty, 0)) = (x, i)
    rw [h]
  have hx := key ra
  have map_k : ∀ {vs : List V} {xs : List (Str × Int)}, RpAll (hide M H) vs (xs.map sh) → vs.map kf = xs := fun {vs xs} h => by
    induction xs generalizing vs with
    | nil => cases h; rfl
    | cons x xs ih =>
      cases h with
      | cons h1 h2 =>
        rw [List.map_cons, ih h2]
        obtain ⟨t, ws, rfl, ht, hr⟩ := Rp.tupI h1
        cases hr with
        | cons q1 q2 =>
          cases q1
          cases q2 with
          | cons q3 q4 =>
            cases q3
            cases q4
            rw [kv t x.1 x.2 ht]
  refine ⟨a, vs, kf, rfl, SqL.of e, fun x m => ?_, fun ys p so pm hp => ?_⟩
  · obtain ⟨t, q, _, rfl, ht, _⟩ := hx x m
    exact ⟨t, rfl, by rw [kv t q.1 q.2 ht]; exact ht⟩
  · have nr := new_ref (o := .lst ys) al hp
    refine k _ _ (ys.map kf) nr.1 ?_ (List.pairwise_map.mpr so) (.lst nr.2 ?_)
    · rw [← map_k ra]
      exact pm.map kf
    · have back : ∀ {zs : List V}, (∀ z ∈ zs, ∃ (t : Addr) (p : Str × Int), z = V.ref t ∧ H t = some (.tup [.str p.1, .int p.2]) ∧ hide M H t = some (.tup [.str p.1, .int p.2])) → RpAll (hide M H) zs ((zs.map kf).map sh) := fun {zs} h => by
        induction zs with
        | nil => exact .nil
        | cons z zs ih =>
          obtain ⟨t, q, rfl, ht, ht2⟩ := h z List.mem_cons_self
          refine .cons ?_ (ih fun y m => h y (List.mem_cons_of_mem _ m))
          rw [kv t q.1 q.2 ht]
          exact .tup ht2 (.cons (.str _) (.cons (.int _) .nil))
      exact (back fun z m => let ⟨t, q, _, r⟩ := hx z (pm.mem_iff.mp m); ⟨t, q, r⟩).same (same_hide nr.1)
theorem en_sortedSI {K : PySem.W.Frag} {ta : TE} {ρ : Ro} {c : Nat} {A : List (Str × Int) → Prop} (ha : Ev ta ρ c A) : Ev (α := List (Str × Int)) (tCB (rSortedSI K) (tCons ta tNil)) ρ c (fun ys => ∃ xs, A xs ∧ ys.Perm xs ∧ ys.Pairwise (fun a b => ltSI b a = false)) := fun n M σ H al le env Q k => by
  refine ha n M σ H al le env _ fun v H1 xs e ax r => ?_
  exact rv1_sortedSI M H1 v Q (al.ext e) r fun u H' ys s pm so r' => k u H' ys (e.snd s) ⟨xs, ax, pm, so⟩ r'
end Yarn

set_option Elab.async false
set_option linter.all false
set_option maxRecDepth 100000
set_option maxHeartbeats 4000000
/-! a list, or a tuple, walked; what the program's own defs want -/
namespace Yarn
open PySem PySem.Spec PyProof.Rows L2 Ty
def iLT (K : PySem.W.Frag) (tl : TE) : TI := fun σ H R => tl σ H fun x H1 => ∃ a, x = .ref a ∧ (((∃ xs, SqL K H1 a xs) ∧ R (Itl K a) H1) ∨ ((∃ xs, SqT K H1 a xs) ∧ R (Itt K a) H1))
theorem pi_lt {X : Cx} {tg l : Expr} {tl : TE} (hl : PE X l tl) : PI X tg l (iLT X.K tl) := by
  constructor
  intro pins s σ H R I h
  refine thn (hl.run pins s σ H _ I h) fun v s1 ⟨x, H1, I1, r1, a, ex, q⟩ => ?_
  subst ex
  cases r1
  have at_new : ∀ b ∈ [s1.heap.objs.size], FpOk X pins H1 b := fun b m => by
    rw [List.mem_singleton.mp m]
    exact I1.fpOk (Nat.le_refl _) (I1.hok.fresh (Nat.le_refl _))
  rcases q with ⟨⟨xs, hq⟩, q⟩ | ⟨⟨xs, hq⟩, q⟩
  · obtain ⟨its, _, p, _⟩ := I1.list hq
    exact wpAny_pyIter_list p.isList ⟨s1.heap.objs.size, [s1.heap.objs.size], _, _, H1, rfl, I1.kept (t' := s1.toks) fun b o e => Heap.get?_push_of_some _ e, turn_list a _, ⟨_, Heap.get?_push_size _ rfl, rfl, rfl⟩, at_new, q⟩
  · obtain ⟨its, _, p, _⟩ := I1.tuple hq
    exact wpAny_pyIter_tuple (show s1.heap.IsTuple a its.toArray from p) ⟨s1.heap.objs.size, [s1.heap.objs.size], _, _, H1, rfl, I1.kept (t' := s1.toks) fun b o e => Heap.get?_push_of_some _ e, turn_tuple a _, ⟨_, Heap.get?_push_size _ rfl, rfl, rfl⟩, at_new, q⟩
theorem StOk.forget {B : Bs} {c : Nat} {σ : L2.St} {H : Hp} {ρ : Ro} (s : StOk B c σ H ρ) (i : Nat) : StOk B c σ H (ρ.set i none) :=
  s.drop List.length_set fun j x e => by
    by_cases h : i = j
    · subst h
      by_cases hz : i < ρ.length
      · rw [List.getElem?_set_self hz] at e; cases e
      · rw [List.getElem?_eq_none (by rw [List.length_set]; omega)] at e; cases e
    · rwa [List.getElem?_set_ne h] at e
end Yarn

set_option Elab.async false
set_option linter.all false
set_option maxRecDepth 100000
set_option maxHeartbeats 4000000
/-! == and != of lists, tuples, numbers, texts, None, all the way down -/
namespace Yarn
open PySem PySem.Spec PyProof.Rows L2 Ty
mutual
def dat : Sh → PyData
  | .int i => .int i
  | .str x => .str x
  | .bl b => .bool b
  | .lst xs => .list (datAll xs)
  | .tup xs => .tuple (datAll xs)
  | _ => .none
def datAll : List Sh → List PyData
  | [] => []
  | x :: xs => dat x :: datAll xs
end
def plD : Nat → Sh → Prop
  | _, .non => True
  | _, .int _ => True
  | _, .str x => PyData.strOk x = true
  | n + 1, .lst xs => ∀ x ∈ xs, plD n x
  | n + 1, .tup xs => ∀ x ∈ xs, plD n x
  | _, _ => False
theorem dat_dp {K : PySem.W.Frag} {H : Hp} : ∀ (n : Nat) {s : Sh} {v : V}, plD n s → Rp H v s → Dp K H v (dat s) := by
  intro n
  induction n with
  | zero =>
    intro s v p r
    cases r with
    | non => unfold dat; exact .non
    | int i => unfold dat; exact .int i
    | str x => unfold dat; exact .str x
    | _ => exact absurd p (by unfold plD; exact id)
  | succ n ih =>
    have all : ∀ {vs : List V} {xs : List Sh}, (∀ x ∈ xs, plD n x) → RpAll H vs xs → DpAll K H vs (datAll xs) := by
      intro vs xs
      induction xs generalizing vs with
      | nil => intro _ r; cases r; unfold datAll; exact .nil
      | cons x xs ih2 =>
        intro p r
        cases r with
        | cons r1 r2 => unfold datAll; exact .cons (ih (p x List.mem_cons_self) r1) (ih2 (fun y m => p y (List.mem_cons_of_mem _ m)) r2)
    intro s v p r
    cases r with
    | non => unfold dat; exact .non
    | int i => unfold dat; exact .int i
    | str x => unfold dat; exact .str x
    | lst e r => unfold dat; exact .lst (SqL.of e) (all p r)
    | tup e r => unfold dat; exact .tup (SqT.of e) (all p r)
    | _ => exact absurd p (by unfold plD; exact id)
theorem dat_lay : ∀ (n : Nat) {s : Sh}, plD n s → (dat s).canLay0 = true ∧ (dat s).depth ≤ n := by
  intro n
  induction n with
  | zero =>
    intro s p
    cases s with
    | non => exact ⟨by unfold dat; exact PyData.canLay0.eq_1, by unfold dat; rw [PyData.depth.eq_4]; omega⟩
    | int i => exact ⟨by unfold dat; exact PyData.canLay0.eq_3 i, by unfold dat; rw [PyData.depth.eq_6]; omega⟩
    | str x => exact ⟨by unfold dat; rw [PyData.canLay0.eq_4]; exact p, by unfold dat; rw [PyData.depth.eq_7]; omega⟩
    | _ => exact absurd p (by unfold plD; exact id)
  | succ n ih =>
    have all : ∀ {xs : List Sh}, (∀ x ∈ xs, plD n x) → PyData.canLayAll0 (datAll xs) = true ∧ PyData.depthAll (datAll xs) ≤ n := by
      intro xs
      induction xs with
      | nil => intro _; unfold datAll; exact ⟨by rw [PyData.canLayAll0.eq_1], by rw [PyData.depthAll.eq_1]; omega⟩
      | cons x xs ih2 =>
        intro p
        have a := ih (p x List.mem_cons_self)
        have b := ih2 fun y m => p y (List.mem_cons_of_mem _ m)
        unfold datAll
        rw [PyData.canLayAll0.eq_2, PyData.depthAll.eq_2, a.1, b.1]
        exact ⟨rfl, by omega⟩
    intro s p
    cases s with
    | non => exact ⟨by unfold dat; exact PyData.canLay0.eq_1, by unfold dat; rw [PyData.depth.eq_4]; omega⟩
    | int i => exact ⟨by unfold dat; exact PyData.canLay0.eq_3 i, by unfold dat; rw [PyData.depth.eq_6]; omega⟩
    | str x => exact ⟨by unfold dat; rw [PyData.canLay0.eq_4]; exact p, by unfold dat; rw [PyData.depth.eq_7]; omega⟩
    | lst xs => have z := all p; exact ⟨by unfold dat; rw [PyData.canLay0.eq_5]; exact z.1, by unfold dat; rw [PyData.depth.eq_1]; omega⟩
    | tup xs => have z := all p; exact ⟨by unfold dat; rw [PyData.canLay0.eq_6]; exact z.1, by unfold dat; rw [PyData.depth.eq_2]; omega⟩
    | _ => exact absurd p (by unfold plD; exact id)
theorem dat_eq : ∀ (n : Nat) {s t : Sh}, plD n s → plD n t → ((dat s).eqv (dat t) = true ↔ s = t) := by
  intro n
  induction n with
  | zero =>
    intro s t p q
    cases s <;> first | exact absurd p (by unfold plD; exact id) | (cases t <;> first | exact absurd q (by unfold plD; exact id) | (unfold dat; simp [PyData.eqv]))
  | succ n ih =>
    have all : ∀ {xs ys : List Sh}, (∀ x ∈ xs, plD n x) → (∀ x ∈ ys, plD n x) → (PyData.eqvAll (datAll xs) (datAll ys) = true ↔ xs = ys) := by
      intro xs
      induction xs with
      | nil =>
        intro ys _ _
        cases ys with
        | nil => unfold datAll; simp [PyData.eqvAll]
        | cons y ys => unfold datAll; simp [PyData.eqvAll]
      | cons x xs ih2 =>
        intro ys p q
        cases ys with
        | nil => unfold datAll; simp [PyData.eqvAll]
        | cons y ys =>
          unfold datAll
          rw [PyData.eqvAll.eq_2, Bool.and_eq_true, ih (p x List.mem_cons_self) (q y List.mem_cons_self), ih2 (fun y m => p y (List.mem_cons_of_mem _ m)) (fun y m => q y (List.mem_cons_of_mem _ m)), List.cons.injEq]
    intro s t p q
    cases s <;> first | exact absurd p (by unfold plD; exact id) | (cases t <;> first | exact absurd q (by unfold plD; exact id) | (unfold dat; simp [PyData.eqv]; done) | (unfold dat; simp [PyData.eqv]; exact all p q))
/-- kinds whose shapes tell them -/
class Inj (α : Type) [Ty α] where inj : ∀ x y : α, sh x = sh y → x = y
instance injInt : Inj Int := ⟨fun x y h => by cases h; rfl⟩
instance injStr : Inj Str := ⟨fun x y h => by cases h; rfl⟩
theorem map_inj {α : Type} [Ty α] [Inj α] : ∀ {xs ys : List α}, xs.map sh = ys.map sh → xs = ys
  | [], [], _ => rfl
  | [], _ :: _, h => by cases h
  | _ :: _, [], h => by cases h
  | x :: xs, y :: ys, h => by
    rw [List.map_cons, List.map_cons, List.cons.injEq] at h
    rw [Inj.inj x y h.1, map_inj h.2]
instance injL {α : Type} [Ty α] [Inj α] : Inj (List α) := ⟨fun x y h => map_inj (Sh.lst.inj h)⟩
instance injTp {α : Type} [Ty α] [Inj α] : Inj (Tp α) := ⟨fun ⟨x⟩ ⟨y⟩ h => congrArg Tp.mk (map_inj (Sh.tup.inj h))⟩
instance injP {α β : Type} [Ty α] [Ty β] [Inj α] [Inj β] : Inj (α × β) := ⟨fun ⟨a, b⟩ ⟨c, d⟩ h => by
  have z := Sh.tup.inj h
  simp only [List.cons.injEq] at z
  rw [Inj.inj a c z.1, Inj.inj b d z.2.1]⟩
instance injT3 {α β γ : Type} [Ty α] [Ty β] [Ty γ] [Inj α] [Inj β] [Inj γ] : Inj (T3 α β γ) := ⟨fun ⟨a, b, c⟩ ⟨d, e, f⟩ h => by
  have z := Sh.tup.inj h
  simp only [List.cons.injEq] at z
  rw [Inj.inj a d z.1, Inj.inj b e z.2.1, Inj.inj c f z.2.2.1]⟩
open Classical in
theorem rv_eqD {α : Type} [Ty α] [Inj α] {K : PySem.W.Frag} {x y : α} (n : Nat) (hn : n ≤ 64) (p : plD n (sh x)) (q : plD n (sh y)) : Rv2 (rEqD K) x y (decide (x = y)) := fun M H v w Q al r1 r2 k => by
  refine ⟨dat (sh x), dat (sh y), dat_dp n p (r1.same hide_le), dat_dp n q (r2.same hide_le), ?_, ?_, k _ H (Same.refl H) ?_⟩
  · have z := dat_lay n p
    show ((dat (sh x)).canLay0 && decide _) = true
    rw [z.1, decide_eq_true (show (dat (sh x)).depth ≤ 64 by omega)]; rfl
  · have z := dat_lay n q
    show ((dat (sh y)).canLay0 && decide _) = true
    rw [z.1, decide_eq_true (show (dat (sh y)).depth ≤ 64 by omega)]; rfl
  · have e : ((dat (sh x)).eqv (dat (sh y))) = decide (x = y) := by
      rw [Bool.eq_iff_iff, dat_eq n p q, decide_eq_true_eq]
      exact ⟨Inj.inj x y, fun z => by rw [z]⟩
    rw [e]
    exact .bl _
open Classical in
theorem rv_neD {α : Type} [Ty α] [Inj α] {K : PySem.W.Frag} {x y : α} (n : Nat) (hn : n ≤ 64) (p : plD n (sh x)) (q : plD n (sh y)) : Rv2 (rNeD K) x y (!decide (x = y)) := fun M H v w Q al r1 r2 k => by
  refine ⟨dat (sh x), dat (sh y), dat_dp n p (r1.same hide_le), dat_dp n q (r2.same hide_le), ?_, ?_, k _ H (Same.refl H) ?_⟩
  · have z := dat_lay n p
    show ((dat (sh x)).canLay0 && decide _) = true
    rw [z.1, decide_eq_true (show (dat (sh x)).depth ≤ 64 by omega)]; rfl
  · have z := dat_lay n q
    show ((dat (sh y)).canLay0 && decide _) = true
    rw [z.1, decide_eq_true (show (dat (sh y)).depth ≤ 64 by omega)]; rfl
  · have e : ((dat (sh x)).eqv (dat (sh y))) = decide (x = y) := by
      rw [Bool.eq_iff_iff, dat_eq n p q, decide_eq_true_eq]
      exact ⟨Inj.inj x y, fun z => by rw [z]⟩
    rw [e]
    exact .bl _
theorem strOk_low {x : Str} (h : ∀ c ∈ x.cps.toList, 97 ≤ c ∧ c ≤ 122) : PyData.strOk x = true := by
  unfold PyData.strOk
  rw [Array.all_eq_true]
  intro i hi
  have := h x.cps[i] (Array.getElem_mem_toList hi)
  exact decide_eq_true (by omega)
end Yarn

set_option Elab.async false
set_option linter.all false
set_option maxRecDepth 100000
set_option maxHeartbeats 4000000
/-! dicts by names, an object's own dicts and lists while it is made -/
namespace Yarn
open PySem PySem.Spec PyProof.Rows L2 Ty
inductive DR {β : Type} (R : V → β → Prop) : List (Key × V) → List (Str × β) → Prop
  | nil : DR R [] []
  | cons {k : Str} {v : V} {b : β} {kv : List (Key × V)} {l : List (Str × β)} : R v b → DR R kv l → DR R ((.inr k, v) :: kv) ((k, b) :: l)
def putA {β : Type} (l : List (Str × β)) (k : Str) (b : β) : List (Str × β) := if l.any (fun p => decide (p.1 = k)) then l.map (fun p => if p.1 = k then (p.1, b) else p) else l ++ [(k, b)]
section
variable {β : Type} {R R' : V → β → Prop}
theorem DR.imp {kv : List (Key × V)} {l : List (Str × β)} (h : DR R kv l) (i : ∀ v b, R v b → R' v b) : DR R' kv l := by
  induction h with
  | nil => exact .nil
  | cons r _ ih => exact .cons (i _ _ r) ih
theorem DR.len {kv : List (Key × V)} {l : List (Str × β)} (h : DR R kv l) : kv.length = l.length := by
  induction h with
  | nil => rfl
  | cons r _ ih => rw [List.length_cons, List.length_cons, ih]
theorem DR.val {kv : List (Key × V)} {l : List (Str × β)} (h : DR R kv l) (k : Str) : (valV kv (.inr k) = none ∧ l.lookup k = none) ∨ ∃ v b, valV kv (.inr k) = some v ∧ l.lookup k = some b ∧ R v b := by
  induction h with
  | nil => exact .inl ⟨rfl, rfl⟩
  | @cons k' v b kv l r _ ih =>
    by_cases e : k' = k
    · subst e
      exact .inr ⟨v, b, by simp [valV, List.find?], by simp [List.lookup], r⟩
    · have e1 : ∀ {kv : List (Key × V)}, valV (((.inr k' : Key), v) :: kv) (.inr k) = valV kv (.inr k) := fun {kv} => by simp [valV, List.find?, e]
      have e2 : (((k', b) :: l).lookup k) = l.lookup k := by
        rw [List.lookup, show (k == k') = false from beq_eq_false_iff_ne.mpr (Ne.symm e)]
      rw [e1, e2]
      exact ih
theorem DR.any {kv : List (Key × V)} {l : List (Str × β)} (h : DR R kv l) (k : Str) : kv.any (fun p => decide (p.1 = (.inr k : Key))) = l.any fun p => decide (p.1 = k) := by
  induction h with
  | nil => rfl
  | cons r _ ih => rw [List.any_cons, List.any_cons, ih]; simp
theorem DR.app {kv kv' : List (Key × V)} {l l' : List (Str × β)} (h : DR R kv l) (h' : DR R kv' l') : DR R (kv ++ kv') (l ++ l') := by
  induction h with
  | nil => exact h'
  | cons r _ ih => exact .cons r ih
theorem DR.put {kv : List (Key × V)} {l : List (Str × β)} (h : DR R kv l) (k : Str) {v : V} {b : β} (r : R v b) : DR R (putK kv (.inr k) v) (putA l k b) := by
  unfold putK putA
  rw [h.any k]
  by_cases z : (l.any fun p => decide (p.1 = k)) = true
  · rw [if_pos z, if_pos z]
    clear z
    induction h with
    | nil => exact .nil
    | @cons k' v' b' kv l r' _ ih =>
      rw [List.map_cons, List.map_cons]
      by_cases e : k' = k
      · rw [if_pos (show ((.inr k' : Key)) = .inr k by rw [e]), if_pos e]
        exact .cons r ih
      · rw [if_neg (show ¬ ((.inr k' : Key)) = .inr k from fun q => e (Sum.inr.inj q)), if_neg e]
        exact .cons r' ih
  · rw [if_neg z, if_neg z]
    exact h.app (.cons r .nil)
/-- one item changed where its name stands -/
theorem DR.rpk {f : β → Sh} {H : Hp} {kv : List (Key × V)} {l : List (Str × β)} (h : DR (fun v b => Rp H v (f b)) kv l) : RpK H kv (l.map fun p => (.inr p.1, f p.2)) := by
  induction h with
  | nil => exact .nil
  | cons r _ ih => exact .cons r ih
end
theorem upd_hide {M : List Addr} {H : Hp} {a : Addr} {o : HO} (m : a ∈ M) : hide M (upd H a o) = hide M H := by
  funext b
  unfold hide
  by_cases h : b ∈ M
  · rw [if_pos h, if_pos h]
  · rw [if_neg h, if_neg h, upd_ne (fun e => h (by first | (rw [e]; exact m) | (rw [← e]; exact m)))]
theorem notPen_refs {kv : List (Key × V)} (h : ∀ p ∈ kv, ∃ a, p.2 = .ref a) : NotPen (.dK kv) := fun c a l e => by
  subst e
  obtain ⟨b, z⟩ := h _ (List.mem_cons_of_mem _ List.mem_cons_self)
  cases z
theorem notPen_ints {kv : List (Key × V)} (h : ∀ p ∈ kv, ∃ a, p.2 = .int a) : NotPen (.dK kv) := fun c a l e => by
  subst e
  obtain ⟨b, z⟩ := h _ List.mem_cons_self
  cases z
theorem DR.vals {β : Type} {R : V → β → Prop} {kv : List (Key × V)} {l : List (Str × β)} (h : DR R kv l) : ∀ p ∈ kv, ∃ b, R p.2 b := by
  induction h with
  | nil => intro p m; cases m
  | cons r _ ih =>
    intro p m
    rcases List.mem_cons.mp m with rfl | m
    · exact ⟨_, r⟩
    · exact ih p m
def adV : V → Addr
  | .ref a => a
  | _ => 0
def adr (kv : List (Key × V)) : List Addr := kv.map fun p => adV p.2
theorem DR.impM {β : Type} {R R' : V → β → Prop} {kv : List (Key × V)} {l : List (Str × β)} (h : DR R kv l) (i : ∀ p ∈ kv, ∀ b, R p.2 b → R' p.2 b) : DR R' kv l := by
  induction h with
  | nil => exact .nil
  | cons r _ ih => exact .cons (i _ List.mem_cons_self _ r) (ih fun p m => i p (List.mem_cons_of_mem _ m))
def LsR (H : Hp) (v : V) (xs : List Str) : Prop := ∃ a, v = .ref a ∧ H a = some (.lst (xs.map V.str))
theorem putA_no {β : Type} {l : List (Str × β)} {k : Str} {b : β} (h : k ∉ l.map (·.1)) : l.map (fun p => if p.1 = k then (p.1, b) else p) = l := by
  induction l with
  | nil => rfl
  | cons q l ih =>
    rw [List.map_cons, List.mem_cons, not_or] at h
    rw [List.map_cons, if_neg (fun e => h.1 e.symm), ih h.2]
/-- one of the lists gets one item more -/
theorem DR.list {H : Hp} {kv : List (Key × V)} {l : List (Str × List Str)} (h : DR (LsR H) kv l) : ∀ {k : Str} {a : Addr} {ys : List Str}, (adr kv).Nodup → (l.map (·.1)).Nodup → valV kv (.inr k) = some (.ref a) →
    DR (LsR (upd H a (.lst (ys.map V.str)))) kv (l.map (fun p => if p.1 = k then (p.1, ys) else p)) := by
  induction h with
  | nil => intro k a ys _ _ e; cases e
  | @cons k' v b kv l r h ih =>
    intro k a ys n1 n2 e
    have n1' := List.nodup_cons.mp n1
    rw [List.map_cons] at n2
    have n2' := List.nodup_cons.mp n2
    rw [List.map_cons]
    by_cases z : k' = k
    · subst z
      have ev : v = .ref a := by simpa [valV, List.find?] using e
      subst ev
      rw [if_pos rfl, putA_no n2'.1]
      refine .cons ⟨a, rfl, upd_same⟩ (h.impM fun p m c ⟨a', e1, e2⟩ => ⟨a', e1, ?_⟩)
      rw [upd_ne (fun q => n1'.1 (List.mem_map.mpr ⟨p, m, by rw [e1]; first | exact q | exact q.symm⟩))]
      exact e2
    · have e1 : valV (((.inr k' : Key), v) :: kv) (.inr k) = valV kv (.inr k) := by simp [valV, List.find?, z]
      rw [e1] at e
      rw [if_neg z]
      obtain ⟨a', e2, e3⟩ := r
      have m : a ∈ adr kv := by
        unfold valV at e
        obtain ⟨p, hp, q⟩ := Option.map_eq_some_iff.mp e
        exact List.mem_map.mpr ⟨p, List.mem_of_find?_eq_some hp, by rw [q]; rfl⟩
      refine .cons ⟨a', e2, ?_⟩ (ih n1'.2 n2'.2 e)
      rw [upd_ne (fun q => n1'.1 (by rw [e2]; show a' ∈ adr kv; first | (rw [q]; exact m) | (rw [← q]; exact m)))]
      exact e3
theorem ext_upd {n : Nat} {H0 H : Hp} {a : Addr} {o : HO} (e : Ext n H0 H) (h : H0 a = none) : Ext n H0 (upd H a o) := ⟨fun b u no z => by
    rw [upd_ne (fun q => by subst q; rw [h] at z; cases z)]
    exact e.keep b u no z, fun p c i l z => by
    rw [upd_ne (fun q => by subst q; rw [h] at z; cases z)]
    exact e.pen p c i l z⟩
theorem ext_hid {n : Nat} {M O : List Addr} {H0 H : Hp} (e : Ext n H0 H) (h : ∀ a ∈ O, H0 a = none) : Ext n (hide M H0) (hide (O ++ M) H) := ⟨fun b u no z => hide_of (fun q => by
    rcases List.mem_append.mp q with q | q
    · exact absurd (hide_some z).2 (by simp [h b q])
    · exact (hide_some z).1 q) (e.keep b u no (hide_some z).2), fun p c i l z => by
    obtain ⟨i', l', e1, e2⟩ := e.pen p c i l (hide_some z).2
    exact ⟨i', l', hide_of (fun q => by
      rcases List.mem_append.mp q with q | q
      · exact absurd (hide_some z).2 (by simp [h p q])
      · exact (hide_some z).1 q) e1, e2⟩⟩
theorem but_upd2 {l : Addr} {H H2 : Hp} {o : HO} (b : But l H H2) (e : H2 l = some o) : Same (upd H l o) H2 := fun a u z => by
  by_cases q : a = l
  · subst q; rw [upd_same] at z; rw [e]; exact z
  · rw [upd_ne q] at z; exact b a u q z
theorem lk_cons {β : Type} {k' q1 : Str} {q2 : β} {l : List (Str × β)} : ((q1, q2) :: l).lookup k' = if k' = q1 then some q2 else l.lookup k' := by
  by_cases h : k' = q1
  · rw [if_pos h, List.lookup, show (k' == q1) = true by rw [h]; exact beq_self_eq_true _]
  · rw [if_neg h, List.lookup, show (k' == q1) = false from beq_eq_false_iff_ne.mpr h]
theorem lk_map {β : Type} {k k' : Str} {b : β} : ∀ {l : List (Str × β)}, (l.map (fun p => if p.1 = k then (p.1, b) else p)).lookup k' = if k' = k ∧ (l.lookup k').isSome = true then some b else l.lookup k'
  | [] => by simp
  | (q1, q2) :: l => by
    have ih := lk_map (k := k) (k' := k') (b := b) (l := l)
    rw [List.map_cons]
    by_cases e : q1 = k
    · rw [if_pos (show (q1, q2).1 = k from e), lk_cons, lk_cons, ih]
      by_cases e2 : k' = q1
      · rw [if_pos e2, if_pos e2, if_pos ⟨e2.trans e, rfl⟩]
      · rw [if_neg e2, if_neg e2]
    · rw [if_neg (show ¬ (q1, q2).1 = k from e), lk_cons, lk_cons, ih]
      by_cases e2 : k' = q1
      · rw [if_pos e2, if_pos e2, if_neg (fun z => e (e2.symm.trans z.1))]
      · rw [if_neg e2, if_neg e2]
theorem lk_app {β : Type} {k k' : Str} {b : β} : ∀ {l : List (Str × β)}, l.lookup k = none → (l ++ [(k, b)]).lookup k' = if k' = k then some b else l.lookup k'
  | [], _ => by rw [List.nil_append, lk_cons]
  | (q1, q2) :: l, h => by
    rw [lk_cons] at h
    by_cases e : k = q1
    · rw [if_pos e] at h; cases h
    · rw [if_neg e] at h
      rw [List.cons_append, lk_cons, lk_cons, lk_app h]
      by_cases e3 : k' = q1
      · rw [if_pos e3, if_pos e3, if_neg (fun z => e (z.symm.trans e3))]
      · rw [if_neg e3, if_neg e3]
theorem lk_any {β : Type} {k : Str} : ∀ {l : List (Str × β)}, (l.lookup k).isSome = l.any fun p => decide (p.1 = k)
  | [] => rfl
  | (q1, q2) :: l => by
    rw [lk_cons, List.any_cons, ← lk_any (l := l)]
    by_cases e : k = q1
    · rw [if_pos e, decide_eq_true e.symm]; rfl
    · rw [if_neg e, decide_eq_false (fun z => e z.symm), Bool.false_or]
theorem lk_putA {β : Type} {l : List (Str × β)} {k : Str} {b : β} (k' : Str) : (putA l k b).lookup k' = if k' = k then some b else l.lookup k' := by
  unfold putA
  by_cases z : (l.any (fun p => decide (p.1 = k))) = true
  · rw [if_pos z, lk_map]
    by_cases e : k' = k
    · rw [if_pos e, if_pos ⟨e, by rw [e, lk_any]; exact z⟩]
    · rw [if_neg e, if_neg (fun q => e q.1)]
  · rw [if_neg z, lk_app]
    have q : (l.lookup k).isSome = false := by rw [lk_any]; exact Bool.eq_false_iff.mpr z
    cases e : l.lookup k with
    | none => rfl
    | some c => rw [e] at q; cases q
/-- a list, a tuple, or None of none -/
def SqR {α : Type} [Ty α] (M : List Addr) (H : Hp) (v : V) (xs : List α) : Prop := (v = .non ∧ xs = []) ∨ Rp (hide M H) v (sh xs) ∨ Rp (hide M H) v (sh (Tp.mk xs))
theorem for_seqOr {α : Type} [Ty α] {K : PySem.W.Frag} {M0 : List Addr} {H0 : Hp} {v : V} {xs : List α} {i0 : Nat} {g : TG} {tb : TS} {D : Ends} {σ : L2.St} {H : Hp} (r : SqR M0 H0 v xs) (Pv : Nat → L2.St → Hp → Prop) (h0 : Pv 0 σ H)
    (slot : σ[i0]? = some (some v)) (keep : ∀ i σ H, Pv i σ H → Ext 0 H0 H) (more : ∀ H', Same H H' → Pv 0 σ H')
    (turn : ∀ i x xv σ H (D : Ends) (N : L2.St → Hp → Prop), xs[i]? = some x → Rp (hide M0 H0) xv (sh x) → Pv i σ H → (∀ σ H, Pv (i + 1) σ H → N σ H) → g xv σ H fun σ2 H2 => tb { D with nx := N, ct := N, bk := D.nx } σ2 H2)
    (done : ∀ σ H, Pv xs.length σ H → D.nx σ H) : tFor (iLT K (tOrT K (tVar i0) (tTupY tNil))) g tb D σ H := by
  have zero : xs = [] → TruV K v H false → tFor (iLT K (tOrT K (tVar i0) (tTupY tNil))) g tb D σ H := fun e z => ⟨v, slot, false, z, iteF ⟨by decide, fun p H2 hp s e2 => ⟨p, rfl, .inr ⟨⟨[], SqT.of e2⟩, for_tup (K := K) (a := p) (xs := []) (fun i σ H => Pv i σ H ∧ (i = 0 → H p = some (.tup [])))
    ⟨more H2 s, fun _ => e2⟩ (fun i σ H hi J => SqT.of (J.2 (Nat.le_zero.mp hi))) (fun i x σ H hi J => by cases hi) (fun σ H J => done σ H (by rw [e]; exact J.1))⟩⟩⟩⟩
  rcases r with ⟨rfl, e⟩ | r | r
  · exact zero e rfl
  · obtain ⟨a, vs, rfl, ea, ra⟩ := Rp.lstI r
    have lv := ra.len
    rw [List.length_map] at lv
    have at' : ∀ {i σ H}, Pv i σ H → H a = some (.lst vs) := fun J => (keep _ _ _ J).keep a _ trivial ea
    by_cases e : xs = []
    · refine zero e (.inl ⟨vs, SqL.of (at' h0), ?_⟩)
      rw [e] at lv
      cases vs with
      | nil => rfl
      | cons v vs => cases lv
    · refine ⟨_, slot, true, .inl ⟨vs, SqL.of (at' h0), ?_⟩, iteT ⟨a, rfl, .inl ⟨⟨vs, SqL.of (at' h0)⟩, for_list (K := K) (a := a) (xs := vs) Pv h0 (fun i σ H hi J => SqL.of (at' J)) (fun i xv σ H hi J => ?_) (fun σ H J => done σ H (by rw [← lv]; exact J))⟩⟩⟩
      · cases vs with
        | nil => exact absurd (List.length_eq_zero_iff.mp lv.symm) e
        | cons v vs => rfl
      · obtain ⟨sx, hx, rx⟩ := ra.getV hi
        rw [List.getElem?_map] at hx
        obtain ⟨y, hy, rfl⟩ := Option.map_eq_some_iff.mp hx
        exact turn i y xv σ H _ _ hy rx J fun σ H z => z
  · obtain ⟨a, vs, rfl, ea, ra⟩ := Rp.tupI r
    have lv := ra.len
    rw [List.length_map] at lv
    have at' : ∀ {i σ H}, Pv i σ H → H a = some (.tup vs) := fun J => (keep _ _ _ J).keep a _ trivial ea
    by_cases e : xs = []
    · refine zero e (.inr (.inl ⟨vs, SqT.of (at' h0), ?_⟩))
      have lv' : vs.length = xs.length := lv
      rw [e] at lv'
      cases vs with
      | nil => rfl
      | cons v vs => cases lv'
    · refine ⟨_, slot, true, .inr (.inl ⟨vs, SqT.of (at' h0), ?_⟩), iteT ⟨a, rfl, .inr ⟨⟨vs, SqT.of (at' h0)⟩, for_tup (K := K) (a := a) (xs := vs) Pv h0 (fun i σ H hi J => SqT.of (at' J)) (fun i xv σ H hi J => ?_) (fun σ H J => done σ H (by rw [show xs.length = vs.length from lv.symm]; exact J))⟩⟩⟩
      · cases vs with
        | nil => exact absurd (List.length_eq_zero_iff.mp lv.symm) e
        | cons v vs => rfl
      · obtain ⟨sx, hx, rx⟩ := ra.getV hi
        rw [List.getElem?_map] at hx
        obtain ⟨y, hy, rfl⟩ := Option.map_eq_some_iff.mp hx
        exact turn i y xv σ H _ _ hy rx J fun σ H z => z
def dctSh {β : Type} (f : β → Sh) (l : List (Str × β)) : Sh := .dct (l.map fun p => (.inr p.1, f p.2))
theorem Rp.dctI {β : Type} {f : β → Sh} {l : List (Str × β)} {M : List Addr} {H : Hp} {v : V} (r : Rp (hide M H) v (dctSh f l)) : ∃ a kv, v = .ref a ∧ H a = some (.dK kv) ∧ DR (fun v b => Rp (hide M H) v (f b)) kv l := by
  unfold dctSh at r
  cases r with
  | dct e np rk =>
    refine ⟨_, _, rfl, (hide_some e).2, ?_⟩
    clear e np
    rename_i kv
    induction l generalizing kv with
    | nil => cases rk; exact .nil
    | cons q l ih =>
      rw [List.map_cons] at rk
      cases rk with
      | cons r1 rk => exact .cons r1 (ih rk)
theorem DR.keys {β : Type} {R : V → β → Prop} {kv : List (Key × V)} {l : List (Str × β)} (h : DR R kv l) : kv.map (·.1) = (l.map (·.1)).map Sum.inr ∧ (kv.map fun p => kV p.1) = (l.map (·.1)).map V.str := by
  induction h with
  | nil => exact ⟨rfl, rfl⟩
  | cons _ _ ih => rw [List.map_cons, List.map_cons, List.map_cons, List.map_cons, List.map_cons, ih.1, ih.2]; exact ⟨rfl, rfl⟩
section
variable {β : Type} {f : β → Sh} {l : List (Str × β)}
theorem ed_dget {ta tb : TE} {ρ : Ro} {k : Str} {b : β} (h0 : Ev ta ρ 0 (Is (dctSh f l))) (h1 : Ev tb ρ 0 (Is k)) (hl : l.lookup k = some b) : Ev (α := Sh) (tDGet ta tb) ρ 0 (Is (f b)) := fun n M σ H al le env Q q => by
  refine h0 n M σ H al le env _ fun v H1 x e1 a1 r1 => ?_
  have a1' : x = dctSh f l := a1
  rw [a1'] at r1
  refine h1 n M σ H1 (al.ext e1) le (env.ext e1) _ fun w H2 y e2 a2 r2 => ?_
  cases a2
  cases r2
  obtain ⟨a, kv, rfl, ea, dr⟩ := Rp.dctI (show Rp (hide M H2) v (dctSh f l) from r1.ext e2.hide)
  rcases dr.val k with ⟨_, z⟩ | ⟨u, c, z1, z2, r⟩
  · rw [hl] at z; cases z
  · rw [hl] at z2
    cases z2
    exact ⟨a, u, rfl, .inl ⟨kv, .inr k, .inl ea, rfl, z1.symm⟩, q u H2 _ (e1.trans e2) rfl r⟩
theorem Ev.to {α : Type} [Ty α] {t : TE} {ρ : Ro} {c : Nat} {s : Sh} {x : α} (h : Ev (α := Sh) t ρ c (Is s)) (e : s = sh x) : Ev (α := α) t ρ c (Is x) := fun n M σ H al le env Q k => h n M σ H al le env Q fun v H' y e1 a r => by
  cases a
  rw [e] at r
  exact k v H' x e1 rfl r
theorem et_dnotin {ta tb : TE} {ρ : Ro} {k : Str} (h0 : Ev ta ρ 0 (Is k)) (h1 : Ev tb ρ 0 (Is (dctSh f l))) : EvT (tB (tDNotIn ta tb)) ρ 0 (fun b => b = !(l.lookup k).isSome) := fun n M σ H al le env Q q => by
  refine h0 n M σ H al le env _ fun w H1 y e1 a1 r1 => ?_
  cases a1
  cases r1
  refine h1 n M σ H1 (al.ext e1) le (env.ext e1) _ fun v H2 x e2 a2 r2 => ?_
  have a2' : x = dctSh f l := a2
  rw [a2'] at r2
  obtain ⟨a, kv, rfl, ea, dr⟩ := Rp.dctI (show Rp (hide M H2) v (dctSh f l) from r2)
  refine ⟨a, valV kv (.inr k), rfl, .inl ⟨kv, .inr k, .inl ea, rfl, rfl⟩, _, rfl, q _ H2 (e1.trans e2) ?_⟩
  rcases dr.val k with ⟨z1, z2⟩ | ⟨u, c, z1, z2, r⟩
  · rw [z1, z2]; rfl
  · rw [z1, z2]; rfl
theorem ed_listD {ta : TE} {ρ : Ro} (h0 : Ev ta ρ 0 (Is (dctSh f l))) : Ev (α := List Str) (tCB rListD (tCons ta tNil)) ρ 0 (Is (l.map (·.1))) := fun n M σ H al le env Q q => by
  refine h0 n M σ H al le env _ fun v H1 x e1 a1 r1 => ?_
  have a1' : x = dctSh f l := a1
  rw [a1'] at r1
  obtain ⟨a, kv, rfl, ea, dr⟩ := Rp.dctI (show Rp (hide M H1) v (dctSh f l) from r1)
  refine ⟨a, kv, rfl, ea, fun p hp => ?_⟩
  have nr := new_ref (o := .lst (kv.map fun p => kV p.1)) (al.ext e1) hp
  refine q _ _ _ (e1.snd nr.1) rfl (.lst nr.2 ?_)
  rw [dr.keys.2]
  exact rpAll_strs _
theorem ed_sortedD {ta : TE} {ρ : Ro} (h0 : Ev ta ρ 0 (Is (dctSh f l))) (few : l.length < 64) : Ev (α := List Str) (tCB (fun xs H Q => ∃ (a : Addr) (kvs : List (Key × V)) (ks : List Str), xs = [.ref a] ∧ Rd H a (.dK kvs) ∧ kvs.map (·.1) = ks.map Sum.inr ∧ ks.length < 64 ∧ ∀ ys p, ys.Perm ks → sortedS ys = true → H p = none → Q (.ref p) (upd H p (.lst (ys.map V.str)))) (tCons ta tNil)) ρ 0 (Is (srtS (l.map (·.1)))) := fun n M σ H al le env Q q => by
  refine h0 n M σ H al le env _ fun v H1 x e1 a1 r1 => ?_
  have a1' : x = dctSh f l := a1
  rw [a1'] at r1
  obtain ⟨a, kv, rfl, ea, dr⟩ := Rp.dctI (show Rp (hide M H1) v (dctSh f l) from r1)
  refine ⟨a, kv, l.map (·.1), rfl, .inl ea, dr.keys.1, by rw [List.length_map]; exact few, fun ys p pm so hp => ?_⟩
  have z := srt_unique pm (sorted_pair so)
  subst z
  have nr := new_ref (o := .lst ((srtS (l.map (·.1))).map V.str)) (al.ext e1) hp
  exact q _ _ _ (e1.snd nr.1) rfl (.lst nr.2 (rpAll_strs _))
end
/-- a pair, or three, taken apart -/
theorem s_asgT {α : Type} [Ty α] {te : TE} {g : TG} {own : List Nat} {ρ ρ' : Ro} {c1 : Nat} {x : α} {D : Ends} {B : Bs} {c : Nat} {σ : L2.St} {H : Hp} (hS : StOk B c σ H ρ) (h : Ev te ρ c1 (Is x)) (hb : B.n + (c + c1) ≤ LIM) (tg : TgOk g (sh x) own ρ ρ') (no : noOwnAt own ρ' = true)
    (k : ∀ σ' H', StOk B (c + c1) σ' H' ρ' → D.nx σ' H') : tAsg te g D σ H := by
  obtain ⟨M1, hX⟩ := hS.ex
  refine h.atX hX hb fun v H1 y e a r s => ?_
  have a' : y = x := a
  rw [a'] at r
  exact tg.at no s r fun σ' s' => k σ' H1 s'
end Yarn

set_option Elab.async false
set_option linter.all false
set_option maxRecDepth 100000
set_option maxHeartbeats 1000000
/-! comprehensions of two fors -/
namespace Yarn
open PySem PySem.Spec PyProof.Rows L2 Ty
theorem loop_list {K : PySem.W.Frag} {a : Addr} {xs : List V} {H : Hp} {Qd : Hp → Prop} (G : V → Hp → (Hp → Prop) → Prop) (Pv : Nat → Hp → Prop) (h0 : Pv 0 H) (hs : ∀ i H, i ≤ xs.length → Pv i H → SqL K H a xs)
    (turn : ∀ i x H, xs[i]? = some x → Pv i H → G x H (Pv (i + 1))) (done : ∀ H, Pv xs.length H → Qd H) :
    ∃ W : Nat → Nat → Hp → Prop, (∃ m, W 0 m H) ∧ ∀ i m H, W i m H → (Itl K a).stop i H ∧ Qd H ∨ (Itl K a).go i H ∧ ∃ Nx : Hp → Prop, (∀ H', Nx H' → ∃ m', m' < m ∧ W (i + 1) m' H') ∧ ∀ x H', (Itl K a).yld i H x H' → G x H' Nx := by
  obtain ⟨W, w0, w⟩ := for_list (K := K) (a := a) (xs := xs) (g := fun x σ H Qs => G x H fun H2 => Qs σ H2) (tb := fun D σ H => D.nx σ H) (D := { nx := fun _ H => Qd H, rt := fun _ _ => False }) (σ := []) (H := H) (fun i _ H => Pv i H)
    h0 (fun i _ H hi p => hs i H hi p) (fun i x _ H hx p => turn i x H hx p) (fun _ H p => done H p)
  refine ⟨fun i m H => W i m [] H, w0, fun i m H q => ?_⟩
  rcases w i m [] H q with z | ⟨z1, N, z2, z3⟩
  · exact .inl z
  · exact .inr ⟨z1, fun H => N [] H, fun H' n => z2 [] H' n, fun x H' y => z3 x H' y⟩
def noOwn (ρ : Ro) : Bool := ρ.all fun o => match o with | some (.own _) => false | _ => true
theorem noOwn_of {ρ : Ro} (h : noOwn ρ = true) {i : Nat} {xs : List Sh} : ρ[i]? ≠ some (some (.own xs)) := fun e => by
  have z := List.all_eq_true.mp h _ (List.mem_of_getElem? e)
  cases z
theorem EnvOk.hidden {n : Nat} {M : List Addr} {H H' : Hp} {σ : L2.St} {ρ : Ro} (E : EnvOk n M H σ ρ) (no : noOwn ρ = true) (x : Ext 0 (hide M H) (hide M H')) : EnvOk n M H' σ ρ := ⟨E.1, fun i s q => by
  obtain ⟨v, e1, r⟩ := E.2 i s q
  refine ⟨v, e1, ?_⟩
  cases s with
  | v s => exact Rp.ext x r
  | pen => obtain ⟨p, e, P⟩ := r; exact ⟨p, e, Pen.ext x P⟩
  | own xs => exact absurd q (noOwn_of no)⟩
section
variable {α β γ : Type} [Ty α] [Ty β] [Ty γ]
def Lc2 (M : List Addr) (D : Addr) (H1 : Hp) (zs : List γ) (H : Hp) : Prop := ∃ acc, H D = some (.lst acc) ∧ RpAll (hide (D :: M) H) acc (zs.map sh) ∧ Ext 0 H1 (hide [D] H)
theorem ed_lc2 {K : PySem.W.Frag} {tl tl1 : TE} {g g1 : TG} {te : TE} {own vs1 : List Nat} {ρ : Ro} {xs : List α} {ys : α → List β} {f : α → β → γ}
    (hs : Ev tl ρ 0 (Is xs)) (hl : (xs.flatMap fun x => (ys x).map (f x)).length < sizeLine) (ho : ∀ i ∈ own, ∀ s, ρ[i]? ≠ some (some s))
    (hb : ∀ x ∈ xs, ∃ ρ1, TgOk g (sh x) own ρ ρ1 ∧ Ev tl1 ρ1 0 (Is (ys x)) ∧ noOwn ρ1 = true ∧ (∀ i ∈ vs1, ∀ s, ρ1[i]? ≠ some (some s)) ∧ ∀ y ∈ ys x, ∃ ρ2, TgOk g1 (sh y) vs1 ρ1 ρ2 ∧ Ev te ρ2 0 (Is (f x y))) :
    Ev (tLc2 (iList K tl) g tYes (iList K tl1) g1 tYes te own vs1) ρ 0 (Is (xs.flatMap fun x => (ys x).map (f x))) := fun n M σ H al le env Q k => by
  refine hs n M σ H al le env _ fun v H1 xs' e1 ax r1 => ?_
  have ax' : xs' = xs := ax
  rw [ax'] at r1
  obtain ⟨a, vs, rfl, e, ra⟩ := Rp.lstI r1
  have lv := ra.len
  rw [List.length_map] at lv
  refine ⟨a, rfl, ⟨vs, SqL.of e⟩, fun D hD => ?_⟩
  have al1 := al.ext e1
  have alD : ∀ {zs : List γ} {H : Hp}, Lc2 M D H1 zs H → Al (D :: M) H := fun {zs H} ⟨acc, h1, h2, h3⟩ b m => by
    rcases List.mem_cons.mp m with z | m
    · exact ⟨.lst acc, trivial, by rw [z]; exact h1⟩
    · obtain ⟨o, no, q⟩ := al1 b m
      exact ⟨o, no, (hide_some (h3.keep b o no q)).2⟩
  have ext2 : ∀ {zs : List γ} {H H' : Hp}, Lc2 M D H1 zs H → Ext 0 H H' → Lc2 M D H1 zs H' := fun ⟨acc, h1, h2, h3⟩ e => ⟨acc, e.keep _ _ trivial h1, h2.ext e.hide, (h3.trans e.hide).mono (by omega)⟩
  refine loop_list (K := K) (a := a) (xs := vs) _ (fun i H => Lc2 M D H1 ((xs.take i).flatMap fun x => (ys x).map (f x)) H) ?_ ?_ ?_ ?_
  · refine ⟨[], upd_same, .nil, ?_⟩
    have s : Same H1 (hide [D] (upd H1 D (.lst []))) := fun b o q => hide_of (by simpa using ne_of_none q hD) (by rw [upd_ne (ne_of_none q hD)]; exact q)
    exact .same s
  · rintro i H hi ⟨acc, h1, h2, h3⟩
    exact SqL.of (hide_some (h3.keep a (.lst vs) trivial e)).2
  · intro i v H hi I
    obtain ⟨s, hs', rs⟩ := ra.getV hi
    rw [List.getElem?_map] at hs'
    obtain ⟨x, hx, rfl⟩ := Option.map_eq_some_iff.mp hs'
    obtain ⟨ρ1, hg, ht1, no1, ho1, hb1⟩ := hb x (List.mem_of_getElem? hx)
    obtain ⟨acc, h1, h2, h3⟩ := id I
    have tk : xs.take (i + 1) = xs.take i ++ [x] := take_more hx
    have envD : EnvOk n (D :: M) H (wipe σ own) ρ := (((env.ext e1).ext h3).hid).wipe ho
    have rv : Rp (hide (D :: M) H) v (sh x) := by rw [hide_cons]; exact rs.ext h3.hide
    refine hg.2 _ _ H _ v _ (alD I) envD rv fun σ2 l2 o2 env3 => ?_
    refine ⟨wipe_ext (by rw [l2, wipe_length]) fun j hj => by rw [o2 j hj, wipe_other hj], ?_⟩
    dsimp only [tYes]
    refine iteT ?_
    refine ht1 n (D :: M) σ2 H (alD I) le env3 _ fun w H4 zs e4 az rz => ?_
    have az' : zs = ys x := az
    rw [az'] at rz
    have I4 := ext2 I e4
    obtain ⟨b, ws, rfl, eb, rb⟩ := Rp.lstI rz
    have lw := rb.len
    rw [List.length_map] at lw
    have bD : b ≠ D := fun z => by
      cases rz with
      | lst q _ => exact (hide_some q).1 (by rw [z]; exact List.mem_cons_self)
    refine ⟨b, rfl, ⟨ws, SqL.of eb⟩, ?_⟩
    refine loop_list (K := K) (a := b) (xs := ws) _ (fun j H => Lc2 M D H1 (((xs.take i).flatMap fun x => (ys x).map (f x)) ++ ((ys x).take j).map (f x)) H ∧ Ext 0 (hide [D] H4) (hide [D] H)) ?_ ?_ ?_ ?_
    · exact ⟨by rw [List.take_zero, List.map_nil, List.append_nil]; exact I4, .refl _⟩
    · rintro j H hj ⟨J, x4⟩
      exact SqL.of (hide_some (x4.keep b (.lst ws) trivial (hide_of (by simpa using bD) eb))).2
    · rintro j u H5 hj ⟨J, x4⟩
      obtain ⟨s, hs2, rs2⟩ := rb.getV hj
      rw [List.getElem?_map] at hs2
      obtain ⟨y, hy, rfl⟩ := Option.map_eq_some_iff.mp hs2
      obtain ⟨ρ2, hg1, he⟩ := hb1 y (List.mem_of_getElem? hy)
      have tk1 : (ys x).take (j + 1) = (ys x).take j ++ [y] := take_more hy
      have x5 : Ext 0 (hide (D :: M) H4) (hide (D :: M) H5) := by have z := x4.hide (M := M); rwa [← hide_cons, ← hide_cons] at z
      have env5 : EnvOk n (D :: M) H5 (wipe σ2 vs1) ρ1 := ((env3.ext e4).hidden no1 x5).wipe ho1
      have ru : Rp (hide (D :: M) H5) u (sh y) := rs2.ext x5
      refine hg1.2 _ _ H5 _ u _ (alD J) env5 ru fun σ3 l3 o3 env6 => ?_
      refine ⟨wipe_ext (by rw [l3, wipe_length]) fun j hj => by rw [o3 j hj, wipe_other hj], ?_⟩
      dsimp only [tYes]
      refine iteT ?_
      refine he n (D :: M) σ3 H5 (alD J) le env6 _ fun t H7 z e7 az rz => ?_
      have az' : z = f x y := az
      rw [az'] at rz
      have J7 := ext2 J e7
      obtain ⟨acc7, k1, k2, k3⟩ := id J7
      have s5 : Same (hide (D :: M) H7) (hide (D :: M) (upd H7 D (.lst (acc7 ++ [t])))) := by rw [upd_hide List.mem_cons_self]; exact .refl _
      have s6 : Same (hide [D] H7) (hide [D] (upd H7 D (.lst (acc7 ++ [t])))) := by rw [upd_hide List.mem_cons_self]; exact .refl _
      have la := k2.len
      rw [List.length_map] at la
      have pre : (((xs.take i).flatMap fun x => (ys x).map (f x)) ++ ((ys x).take j).map (f x)).length < sizeLine := by
        refine Nat.lt_of_le_of_lt ?_ hl
        have sp : xs = xs.take i ++ (x :: xs.drop (i + 1)) := by
          have z := List.take_append_drop (i + 1) xs
          rw [tk, List.append_assoc] at z
          exact z.symm
        rw [sp, List.flatMap_append, List.flatMap_cons, List.length_append, List.length_append, List.length_append, List.length_map, List.length_map, List.length_take, ← sp]
        omega
      refine ⟨acc7, k1, by omega, ⟨acc7 ++ [t], upd_same, ?_, (k3.trans (.same s6)).mono (by omega)⟩, ((x4.trans e7.hide).trans (.same s6)).mono (by omega)⟩
      have q : (((xs.take i).flatMap fun x => (ys x).map (f x)) ++ ((ys x).take (j + 1)).map (f x)) = (((xs.take i).flatMap fun x => (ys x).map (f x)) ++ ((ys x).take j).map (f x)) ++ [f x y] := by
        rw [tk1, List.map_append, List.append_assoc]; rfl
      show RpAll _ _ (List.map sh (_ ++ _))
      rw [q, List.map_append]
      exact (k2.app (.cons rz .nil)).same s5
    · rintro H ⟨J, _⟩
      rw [lw] at J
      rw [List.take_length] at J
      show Lc2 M D H1 _ H
      rw [tk, List.flatMap_append, List.flatMap_singleton]
      exact J
  · rintro H ⟨acc, h1, h2, h3⟩
    rw [lv, List.take_length] at h2
    exact k _ _ _ (((e1.trans h3).snd hide_le).mono (by omega)) rfl (.lst (hide_of (al1.new hD) h1) (h2.same (hide_sub fun a m => List.mem_cons_of_mem _ m)))
end
end Yarn

set_option Elab.async false
set_option linter.all false
set_option maxRecDepth 100000
set_option maxHeartbeats 1000000
/-! an own dict of whole numbers by names; a dict's items walked by a comprehension -/
namespace Yarn
open PySem PySem.Spec PyProof.Rows L2 Ty
/-! ### the lock behind an evaluation, and its end -/
def tLk (t : TE) : TE := fun σ H Q => t σ H fun v H' => ∃ d u, v = .ref d ∧ H' d = some u ∧ Mut (some u) ∧ ∀ od, Q v (upd H' d (.frz od u))
def tUnlk (t : TE) : TE := fun σ H Q => t σ H fun v H' => ∃ d od u, H' d = some (.frz od u) ∧ (∀ o' u', H d ≠ some (.frz o' u')) ∧ Q v (upd H' d u)
theorem pe_lk {X : Cx} {e : Expr} {t : TE} (h : PE X e t) : PE X e (tLk t) := by
  refine ⟨fun pins s σ H Q I hw => ?_⟩
  refine thn (h.run pins s σ _ _ I hw) fun v s1 ⟨x, H1, I1, r, d, u, _, hd, mu, q⟩ => ?_
  obtain ⟨od, I2⟩ := I1.lock hd mu
  exact ⟨x, _, I2, r, q od⟩
theorem pe_unlk {X : Cx} {e : Expr} {t : TE} (h : PE X e t) : PE X e (tUnlk t) := by
  refine ⟨fun pins s σ H Q I hw => ?_⟩
  refine thn (h.run pins s σ _ _ I hw) fun v s1 ⟨x, H1, I1, r, d, od, u, hd, nf, q⟩ => ?_
  exact ⟨x, _, I1.unlock hd (fun o' u' e => nf o' u' (I.base.frzs d o' u' e)), r, q⟩
theorem sw_trueD {kx vx : Expr} {gs : List Comprehension} {scope : Scope} {pos py : Pos} {y : Str} {l : Nat} {env : Env} (hk : env.scope.kind = .function) (hy : env.scope.names.lookup y = some .local) (hl : (py.line == pos.line) = true)
    (ha : (scope.names.any fun (n, k) => n == y && (k == .local || k == .cell)) = false) : swapsWith (.DictComp kx vx gs scope pos) (some (.Name y py)) l env = pure true := by
  have ky : env.kindOf y = some .local := hy
  have hb : env.blockKind = .function := by unfold Env.blockKind; rw [hk]; rfl
  unfold swapsWith
  simp only [hb, ky, ha, Expr.pos, hl]
  rfl
theorem ps_setDc {X : Cx} {i : Nat} {y : Str} {py : Pos} {kx vx tg iter : Expr} {ifs : List Expr} {scope : Scope} {own : List (Str × Nat)} {pos spos : Pos} {wi : TI} {g : TG} {tt : TT} {tk tv : TE} (hc : X.calm = true) (hN : X.N.Nodup) (hy : X.N[i]? = some y) (hyl : X.env.scope.names.lookup y = some .local)
    (hsw : swapsWith (.DictComp kx vx [⟨tg, iter, ifs, 0⟩] scope pos) (some (.Name y py)) spos.line X.env = pure true) (hi : PI X tg iter wi) (ok : BlkOk X.N X.env.scope scope own)
    (hg : ∀ (s : Shared) (H : Hp) (C : Addr) (cl : List (Str × Addr)) (fp : List Addr), PG (X.blk s H scope (compEnvC scope cl C X.env) fp) tg g) (ht : ∀ (s : Shared) (H : Hp) (C : Addr) (cl : List (Str × Addr)) (fp : List Addr), PTs (X.blk s H scope (compEnvC scope cl C X.env) fp) ifs tt)
    (hk : ∀ (s : Shared) (H : Hp) (C : Addr) (cl : List (Str × Addr)) (fp : List Addr), PE (X.blk s H scope (compEnvC scope cl C X.env) fp) kx tk)
    (he : ∀ (s : Shared) (H : Hp) (C : Addr) (cl : List (Str × Addr)) (fp : List Addr), PE (X.blk s H scope (compEnvC scope cl C X.env) fp) vx tv) (hs : ∀ x, foldedSetIterable iter X.env x = pure x := by intro _; rfl) :
    PS X (.Assign [.Name y py] (.DictComp kx vx [⟨tg, iter, ifs, 0⟩] scope pos) spos) (tAsg (tDc wi g tt tk tv (own.map (·.2))) (gName i)) := by
  refine ⟨fun pins s σ H D I h => ?_⟩
  rw [exec_Assign_Name_used _ _ _ _ hsw]
  refine wpAny_bind (wpAny_standAt (wpAny_bind ?_))
  show wpAny _ X.A (do let _ ← comprehension (.DictComp kx vx [⟨tg, iter, ifs, 0⟩] scope pos) scope X.env (firstIterPos [⟨tg, iter, ifs, 0⟩] pos) newDict false (eval iter X.env) (some (assign (.Name y py) X.env))) _ _ s
  have h : tDc wi g tt tk tv (own.map (·.2)) σ H (fun x H1 => gName i x σ H1 D.nx) := h
  refine wpAny_bind (thn (dc_core (Qf := fun _ s' => SP X pins D .next s') hc hN I hi ok hg ht hk he hs h fun L C s' m H' I' q hn f => ?_) fun _ s' hq => wpAny_pure (wpAny_pure hq))
  show wpAny _ _ (assign (.Name y py) X.env (.ref L)) _ _ _
  refine wpAny_assign_Name (store_ok2 (v := V.ref L) I' hN hy (.inl hyl) rfl (fun s2 I2 ⟨a, sb, ha⟩ => ?_) (.inr hyl))
  obtain ⟨f0, f1, f2, f3, f4, f5⟩ := f
  have haC : C ≠ a := by
    rcases ha with z | z
    · rw [z]; exact f1
    · exact fun e => f4 y a z e.symm
  refine ⟨m, hn.sameBut sb haC, fun h3 sb3 => ?_⟩
  exact ⟨_, H', I2.turned (t' := s2.toks) (fun b o hb e => (sb3.2 b hb).trans e) f0 f1 f3 f4 f5, q⟩
theorem loop_tup {K : PySem.W.Frag} {a : Addr} {xs : List V} {H : Hp} {Qd : Hp → Prop} (G : V → Hp → (Hp → Prop) → Prop) (Pv : Nat → Hp → Prop) (h0 : Pv 0 H) (hs : ∀ i H, i ≤ xs.length → Pv i H → SqT K H a xs)
    (turn : ∀ i x H, xs[i]? = some x → Pv i H → G x H (Pv (i + 1))) (done : ∀ H, Pv xs.length H → Qd H) :
    ∃ W : Nat → Nat → Hp → Prop, (∃ m, W 0 m H) ∧ ∀ i m H, W i m H → (Itt K a).stop i H ∧ Qd H ∨ (Itt K a).go i H ∧ ∃ Nx : Hp → Prop, (∀ H', Nx H' → ∃ m', m' < m ∧ W (i + 1) m' H') ∧ ∀ x H', (Itt K a).yld i H x H' → G x H' Nx := by
  obtain ⟨W, w0, w⟩ := for_tup (K := K) (a := a) (xs := xs) (g := fun x σ H Qs => G x H fun H2 => Qs σ H2) (tb := fun D σ H => D.nx σ H) (D := { nx := fun _ H => Qd H, rt := fun _ _ => False }) (σ := []) (H := H) (fun i _ H => Pv i H)
    h0 (fun i _ H hi p => hs i H hi p) (fun i x _ H hx p => turn i x H hx p) (fun _ H p => done H p)
  refine ⟨fun i m H => W i m [] H, w0, fun i m H q => ?_⟩
  rcases w i m [] H q with z | ⟨z1, N, z2, z3⟩
  · exact .inl z
  · exact .inr ⟨z1, fun H => N [] H, fun H' n => z2 [] H' n, fun x H' y => z3 x H' y⟩
theorem loop_items {d : Addr} {o : Obj} {kv : List (Key × V)} {H : Hp} {Qd : Hp → Prop} (G : V → Hp → (Hp → Prop) → Prop) (Pv : Nat → Hp → Prop) (h0 : Pv 0 H) (hs : ∀ i H, i ≤ kv.length → Pv i H → H d = some (.frz o (.dK kv)))
    (turn : ∀ i k v T H, kv[i]? = some (k, v) → H T = none → Pv i H → G (.ref T) (upd H T (.tup [kV k, v])) (Pv (i + 1))) (done : ∀ H, Pv kv.length H → Qd H) :
    ∃ W : Nat → Nat → Hp → Prop, (∃ m, W 0 m H) ∧ ∀ i m H, W i m H → (Iti d o kv).stop i H ∧ Qd H ∨ (Iti d o kv).go i H ∧ ∃ Nx : Hp → Prop, (∀ H', Nx H' → ∃ m', m' < m ∧ W (i + 1) m' H') ∧ ∀ x H', (Iti d o kv).yld i H x H' → G x H' Nx := by
  refine ⟨fun i m H => m = kv.length - i ∧ i ≤ kv.length ∧ Pv i H, ⟨kv.length, by simp, Nat.zero_le _, h0⟩, ?_⟩
  rintro i m H ⟨rfl, hi, p⟩
  have q := hs i H hi p
  by_cases hlt : i < kv.length
  · refine .inr ⟨⟨q, hlt⟩, Pv (i + 1), fun H' p' => ⟨kv.length - (i + 1), by omega, rfl, hlt, p'⟩, fun x H' y => ?_⟩
    obtain ⟨T, k, v, e1, rfl, e2, rfl⟩ := y
    exact turn i k v T H e1 e2 p
  · have e : i = kv.length := by omega
    subst e
    exact .inl ⟨⟨q, Nat.le_refl _⟩, done H p⟩
theorem DR.getAt {β : Type} {R : V → β → Prop} {kv : List (Key × V)} {l : List (Str × β)} (h : DR R kv l) : ∀ {i : Nat} {k : Key} {v : V}, kv[i]? = some (k, v) → ∃ x, l[i]? = some x ∧ k = .inr x.1 ∧ R v x.2 := by
  induction h with
  | nil => intro i k v e; simp at e
  | cons r _ ih =>
    intro i k v e
    cases i with
    | zero => cases e; exact ⟨_, rfl, rfl, r⟩
    | succ i => exact ih (i := i) (by simpa using e)
theorem DR.impL {β : Type} {R R' : V → β → Prop} {kv : List (Key × V)} {l : List (Str × β)} (h : DR R kv l) (i : ∀ x ∈ l, ∀ v, R v x.2 → R' v x.2) : DR R' kv l := by
  induction h with
  | nil => exact .nil
  | @cons k v b kv l r _ ih => exact .cons (i (k, b) List.mem_cons_self v r) (ih fun x m => i x (List.mem_cons_of_mem _ m))
section
variable {α β γ : Type} [Ty α] [Ty β] [Ty γ]
theorem LcI.same {M : List Addr} {D : Addr} {H1 : Hp} {cc : Nat} {P : α → Bool → Prop} {E : α → β → Prop} {xs : List α} {i : Nat} {H H' : Hp} (I : LcI M D H1 cc P E xs i H) (s : Same H H') : LcI M D H1 cc P E xs i H' := by
  obtain ⟨acc, ys, h1, h2, h3, h4, h5⟩ := I.ex
  exact ⟨acc, ys, s _ _ h1, h2.same (same_hide s), h3, h4, h5.snd (same_hide s)⟩
/-- the comprehension itself, the dict locked and hidden -/
theorem lc_items {kv : List (Key × V)} {l : List (Str × β)} {n : Nat} {M : List Addr} {H1 : Hp} {d : Addr} {σ : L2.St} {ρ : Ro} {g : TG} {tt : TT} {te : TE} {own : List Nat} {p : Str × β → Bool} {h : Str × β → γ} {o : Obj} {Q : VK}
    (al : Al M H1) (md : d ∈ M) (ed : H1 d = some (.dK kv)) (np : NotPen (.dK kv)) (env : EnvOk n M H1 σ ρ) (rows : DR (fun v b => Rp (hide M H1) v (sh b)) kv l) (hl : l.length < sizeLine) (ho : ∀ i ∈ own, ∀ s, ρ[i]? ≠ some (some s)) (hn : n ≤ LIM) (no : noOwn ρ = true)
    (hb : ∀ x ∈ l, ∃ ρ', TgOk g (sh x) own ρ ρ' ∧ EvT tt ρ' 0 (Is (p x)) ∧ Ev te ρ' 0 (Is (h x)))
    (k : ∀ D H', H1 D = none → H' d = some (.frz o (.dK kv)) → Ext 0 H1 (upd H' d (.dK kv)) → (∀ M0 : List Addr, (∀ a ∈ M0, a ∈ M) → Rp (hide M0 (upd H' d (.dK kv))) (.ref D) (sh ((l.filter p).map h))) → Q (.ref D) H') :
    ∀ D, (upd H1 d (.frz o (.dK kv))) D = none → ∃ W : Nat → Nat → Hp → Prop, (∃ m, W 0 m (upd (upd H1 d (.frz o (.dK kv))) D (.lst []))) ∧ ∀ i m H, W i m H →
      ((Iti d o kv).stop i H ∧ Q (.ref D) H) ∨ ((Iti d o kv).go i H ∧ ∃ Nx : Hp → Prop, (∀ H', Nx H' → ∃ m', m' < m ∧ W (i + 1) m' H') ∧ ∀ x H', (Iti d o kv).yld i H x H' → g x (wipe σ own) H' fun σ2 H2 => wipe σ2 own = wipe σ own ∧ tt σ2 H2 fun b H3 =>
        if b = true then te σ2 H3 fun y H4 => ∃ acc, H4 D = some (.lst acc) ∧ acc.length < sizeLine ∧ Nx (upd H4 D (.lst (acc ++ [y]))) else Nx H3) := by
  intro D hD
  have Dd : D ≠ d := fun z => by rw [z, upd_same] at hD; cases hD
  have hD1 : H1 D = none := by rw [upd_ne Dd] at hD; exact hD
  have lk := rows.len
  have hhd : hide M (upd H1 d (.frz o (.dK kv))) = hide M H1 := upd_hide md
  have alL : Al M (upd H1 d (.frz o (.dK kv))) := fun a m => by
    by_cases z : a = d
    · subst z; exact ⟨_, (show NotPen (.frz o (.dK kv)) from trivial), upd_same⟩
    · obtain ⟨u, nu, e⟩ := al a m; exact ⟨u, nu, by rw [upd_ne z]; exact e⟩
  have envL : EnvOk n M (upd H1 d (.frz o (.dK kv))) σ ρ := env.hidden no (by rw [hhd]; exact .refl _)
  refine loop_items (d := d) (o := o) (kv := kv) (fun x H' Nx => g x (wipe σ own) H' fun σ2 H2 => wipe σ2 own = wipe σ own ∧ tt σ2 H2 fun b H3 =>
        if b = true then te σ2 H3 fun y H4 => ∃ acc, H4 D = some (.lst acc) ∧ acc.length < sizeLine ∧ Nx (upd H4 D (.lst (acc ++ [y]))) else Nx H3)
    (LcI M D (upd H1 d (.frz o (.dK kv))) (0 + 0) (fun x => Is (p x)) (fun x => Is (h x)) l) (lcI_zero hD) (fun i H' hi I => ?_) (fun i kk v T H' hi hT I => ?_) fun H' I => ?_
  · obtain ⟨acc, ys, h1, h2, h3, h4, h5⟩ := I.ex
    exact (hide_some (h5.keep d _ (show NotPen (.frz o (.dK kv)) from trivial) upd_same)).2
  · obtain ⟨x, hx, rfl, rx⟩ := rows.getAt hi
    obtain ⟨ρ', hg, ht, he⟩ := hb x (List.mem_of_getElem? hx)
    obtain ⟨acc, ys, h1, h2, h3, h4, h5⟩ := id I.ex
    have sT : Same H' (upd H' T (.tup [kV (.inr x.1), v])) := same_upd hT
    have TD : T ≠ D := fun z => by rw [z, h1] at hT; cases hT
    have TM : T ∉ M := fun m => by
      obtain ⟨u, nu, e⟩ := alL T m
      have := (hide_some (h5.keep T u nu e)).2
      rw [hT] at this; cases this
    refine lcI_turn alL hD (I.same sT) hx hl envL ho (by omega) ?_ hg ht he
    show Rp _ (.ref T) (.tup [.str x.1, sh x.2])
    refine .tup (hide_of (fun z => ?_) upd_same) (.cons (.str _) (.cons ?_ .nil))
    · rcases List.mem_cons.mp z with z | z
      · exact TD z
      · exact TM z
    · have r1 : Rp (hide M (upd H1 d (.frz o (.dK kv)))) v (sh x.2) := by rw [hhd]; exact rx
      have r2 := r1.ext h5.hide
      rw [← hide_cons] at r2
      exact r2.same (same_hide sT)
  · obtain ⟨acc, ys, h1, h2, h3, h4, h5⟩ := I.ex
    rw [lk, List.take_length] at h3
    have ey : ys = (l.filter p).map h := LcR.det (fun _ _ z => z) (fun _ _ z => z) h3
    subst ey
    have ed' : H' d = some (.frz o (.dK kv)) := (hide_some (h5.keep d _ (show NotPen (.frz o (.dK kv)) from trivial) upd_same)).2
    refine k D H' hD1 ed' ⟨fun a u nu e => ?_, fun q c i j e => ?_⟩ fun M0 sub => ?_
    · by_cases z : a = d
      · subst z; rw [ed] at e; rw [upd_same]; exact e
      · rw [upd_ne z]
        exact (hide_some (h5.keep a u nu (by rw [upd_ne z]; exact e))).2
    · by_cases z : q = d
      · subst z; rw [ed] at e; exact ⟨i, j, by rw [upd_same]; exact e, fun a b => ⟨a, by omega, b⟩⟩
      · obtain ⟨i', j', e1, e2⟩ := h5.pen q c i j (by rw [upd_ne z]; exact e)
        exact ⟨i', j', by rw [upd_ne z]; exact (hide_some e1).2, fun a b => ⟨(e2 a b).1, by have := (e2 a b).2.1; omega, (e2 a b).2.2⟩⟩
    · have DM : D ∉ M := al.new hD1
      refine .lst (hide_of (fun m => DM (sub D m)) (by rw [upd_ne Dd]; exact h1)) (h2.same fun a u e => ?_)
      obtain ⟨e1, e2⟩ := hide_some e
      refine hide_of (fun m => e1 (List.mem_cons_of_mem _ (sub a m))) ?_
      rw [upd_ne (fun z => e1 (by rw [z]; exact List.mem_cons_of_mem _ md))]
      exact e2
/-! no dict within -/
mutual
def nd : Sh → Bool
  | .lst xs => ndA xs
  | .tup xs => ndA xs
  | .obj _ fs => ndF fs
  | .dct _ => false
  | _ => true
def ndA : List Sh → Bool
  | [] => true
  | x :: xs => nd x && ndA xs
def ndF : List (Str × Sh) → Bool
  | [] => true
  | (_, x) :: xs => nd x && ndF xs
end
section
variable {H : Hp} {d : Addr} {kv : List (Key × V)}
mutual
theorem Rp.nd (e : H d = some (.dK kv)) : ∀ {v : V} {s : Sh}, Rp H v s → Yarn.nd s = true → Rp (hide [d] H) v s
  | _, _, .non, _ => .non
  | _, _, .bl b, _ => .bl b
  | _, _, .int i, _ => .int i
  | _, _, .str y, _ => .str y
  | _, _, .lst q r, z => .lst (hide_of (fun m => by rw [List.mem_singleton.mp m, e] at q; cases q) q) (RpAll.nd e r (by rw [Yarn.nd] at z; exact z))
  | _, _, .tup q r, z => .tup (hide_of (fun m => by rw [List.mem_singleton.mp m, e] at q; cases q) q) (RpAll.nd e r (by rw [Yarn.nd] at z; exact z))
  | _, _, .obj q r no, z => .obj (hide_of (fun m => by rw [List.mem_singleton.mp m, e] at q; cases q) q) (RpF.nd e r (by rw [Yarn.nd] at z; exact z)) no
  | _, _, .dct q np r, z => by rw [Yarn.nd] at z; cases z
theorem RpAll.nd (e : H d = some (.dK kv)) : ∀ {vs : List V} {xs : List Sh}, RpAll H vs xs → ndA xs = true → RpAll (hide [d] H) vs xs
  | _, _, .nil, _ => .nil
  | _, _, .cons a r, z => by
    rw [ndA, Bool.and_eq_true] at z
    exact .cons (Rp.nd e a z.1) (RpAll.nd e r z.2)
theorem RpF.nd (e : H d = some (.dK kv)) : ∀ {fv : List (Str × V)} {fs : List (Str × Sh)}, RpF H fv fs → ndF fs = true → RpF (hide [d] H) fv fs
  | _, _, .nil, _ => .nil
  | _, _, .cons l a r, z => by
    rw [ndF, Bool.and_eq_true] at z
    exact .cons l (Rp.nd e a z.1) (RpF.nd e r z.2)
end
end
def ndR (ρ : Ro) : Prop := ∀ (i : Nat) s, ρ[i]? = some (some s) → ∃ x, s = .v x ∧ nd x = true
theorem ndR_nil : ndR [] := fun i s e => by simp at e
theorem ndR_none {ρ : Ro} (h : ndR ρ) : ndR (none :: ρ) := fun i s e => by
  cases i with
  | zero => cases e
  | succ i => exact h i s (by simpa using e)
theorem ndR_v {ρ : Ro} {x : Sh} (n : nd x = true) (h : ndR ρ) : ndR (some (.v x) :: ρ) := fun i s e => by
  cases i with
  | zero => cases e; exact ⟨x, rfl, n⟩
  | succ i => exact h i s (by simpa using e)
theorem ndA_map {α : Type} [Ty α] (h : ∀ x : α, nd (sh x) = true) : ∀ xs : List α, ndA (xs.map sh) = true
  | [] => by rw [List.map_nil, ndA]
  | x :: xs => by rw [List.map_cons, ndA, h x, ndA_map h xs]; rfl
/-- [.. for k, v in E.items() if ..], what the block reads has no dicts -/
theorem ed_lcItems {td : TE} {ρ : Ro} {l : List (Str × β)} {g : TG} {tt : TT} {te : TE} {own : List Nat} {p : Str × β → Bool} {h : Str × β → γ}
    (hs : Ev (α := Sh) td ρ 0 (Is (dctSh (fun b : β => sh b) l))) (hl : l.length < sizeLine) (ndv : ∀ x ∈ l, nd (sh x.2) = true) (nr : ndR ρ) (ho : ∀ i ∈ own, ∀ s, ρ[i]? ≠ some (some s)) (no : noOwn ρ = true)
    (hb : ∀ x ∈ l, ∃ ρ', TgOk g (sh x) own ρ ρ' ∧ EvT tt ρ' 0 (Is (p x)) ∧ Ev te ρ' 0 (Is (h x))) :
    Ev (tUnlk (tLc (iItems (tLk td)) g tt te own)) ρ 0 (Is ((l.filter p).map h)) := fun n M σ H al le env Q q => by
  refine hs n M σ H al le env _ fun v H1 x e1 a1 r1 => ?_
  have a1' : x = _ := a1
  rw [a1'] at r1
  obtain ⟨d, kv, rfl, e', hr⟩ := Rp.dctI (f := fun b : β => sh b) r1
  have enp : NotPen (.dK kv) ∧ hide M H1 d = some (.dK kv) := by
    have r2 : Rp (hide M H1) (.ref d) (dctSh (fun b : β => sh b) l) := r1
    cases r2 with
    | dct e np rk =>
      have z := (hide_some e).2
      rw [e'] at z
      cases z
      exact ⟨np, e⟩
  obtain ⟨np, eh⟩ := enp
  refine ⟨d, .dK kv, rfl, e', trivial, fun od => ?_⟩
  refine ⟨d, od, kv, rfl, upd_same, ?_⟩
  have hc : ∀ a u, hide M H1 a = some u → a ≠ d → hide (d :: M) H1 a = some u := fun a u z ne => hide_of (fun m => by
    rcases List.mem_cons.mp m with m | m
    · exact ne m
    · exact (hide_some z).1 m) (hide_some z).2
  have ndR' : ∀ {v : V} {s : Sh}, Rp (hide M H1) v s → nd s = true → Rp (hide (d :: M) H1) v s := fun {v s} r z => by
    have w := Rp.nd eh r z
    rw [show d :: M = [d] ++ M from rfl]
    refine w.same fun a u y => ?_
    obtain ⟨y1, y2⟩ := hide_some y
    exact hc a u y2 (fun m => y1 (List.mem_singleton.mpr m))
  have env1 := env.ext e1
  refine lc_items (o := od) (Q := fun v H' => ∃ d od u, H' d = some (HO.frz od u) ∧ (∀ o' u', H d ≠ some (HO.frz o' u')) ∧ Q v (upd H' d u)) (p := p) (h := h) (M := d :: M) (n := n) (fun a m => ?_) List.mem_cons_self e' np ⟨env1.1, fun i s y => ?_⟩ ?_ hl ho (by omega) no hb fun D H' hD ed' ex rr => ?_
  · rcases List.mem_cons.mp m with z | m
    · exact ⟨_, np, by rw [z]; exact e'⟩
    · exact (al.ext e1) a m
  · obtain ⟨v, y1, y2⟩ := env1.2 i s y
    obtain ⟨x, rfl, nx⟩ := nr i s y
    exact ⟨v, y1, ndR' y2 nx⟩
  · exact hr.impL fun x m v r => ndR' r (ndv x m)
  · refine ⟨d, od, .dK kv, ed', fun o' u' z => ?_, q _ _ _ ((e1.trans ex).mono (by omega)) rfl (rr M fun a m => List.mem_cons_of_mem _ m)⟩
    have w := e1.keep d _ (show NotPen (.frz o' u') from trivial) z
    rw [e'] at w; cases w
end

/-! ### an own dict of whole numbers -/
abbrev IntV : V → Int → Prop := fun v j => v = .int j
theorem DR.intsNP {kv : List (Key × V)} {l : List (Str × Int)} (h : DR IntV kv l) : NotPen (.dK kv) := notPen_ints fun p m => h.vals p m
structure ODx (B : Bs) (M1 : List Addr) (D : Addr) (kv : List (Key × V)) (c : Nat) (σ : L2.St) (H : Hp) (ρ : Ro) (i : Nat) (l : List (Str × Int)) : Prop where
  st : StX B M1 c σ H ρ
  mem : D ∈ M1
  at_ : σ[i]? = some (some (.ref D))
  hD : H D = some (.dK kv)
  rows : DR IntV kv l
def OD (B : Bs) (c : Nat) (σ : L2.St) (H : Hp) (ρ : Ro) (i : Nat) (l : List (Str × Int)) : Prop := ∃ M1 D kv, ODx B M1 D kv c σ H ρ i l
theorem OD.ok {B : Bs} {c : Nat} {σ : L2.St} {H : Hp} {ρ : Ro} {i : Nat} {l : List (Str × Int)} (h : OD B c σ H ρ i l) : StOk B c σ H ρ := let ⟨M1, _, _, z⟩ := h; ⟨M1, z.st⟩
theorem ODx.ext {B : Bs} {M1 : List Addr} {D : Addr} {kv : List (Key × V)} {c : Nat} {σ : L2.St} {H H' : Hp} {ρ : Ro} {i : Nat} {l : List (Str × Int)} (h : ODx B M1 D kv c σ H ρ i l) (e : Ext 0 H H') : ODx B M1 D kv c σ H' ρ i l :=
  ⟨h.st.ext e, h.mem, h.at_, e.keep _ _ h.rows.intsNP h.hD, h.rows⟩
def KP (ρ ρ' : Ro) : Prop := ρ.length = ρ'.length ∧ ∀ (j : Nat) x, ρ[j]? = some (some x) → ρ'[j]? = some (some x)
theorem kp_refl {ρ : Ro} : KP ρ ρ := ⟨rfl, fun _ _ h => h⟩
theorem kp_set {ρ ρ' : Ro} {a : Nat} {s : Option Sl} (h : ρ[a]? = some none) (k : KP ρ ρ') : KP ρ (ρ'.set a s) := ⟨by rw [List.length_set]; exact k.1, fun j x e => by
  rw [List.getElem?_set_ne (fun z => by rw [z, e] at h; cases h)]
  exact k.2 j x e⟩
theorem StX.drop {B : Bs} {M1 : List Addr} {c : Nat} {σ : L2.St} {H : Hp} {ρ ρ' : Ro} (s : StX B M1 c σ H ρ') (k : KP ρ ρ') : StX B M1 c σ H ρ := by
  obtain ⟨h1, h2, h3, h4, h5, h6, h7⟩ := s
  exact ⟨h1, h2, h3, ⟨h4.1.trans k.1.symm, fun i x e => h4.2 i x (k.2 i x e)⟩, fun i xs e => h5 i xs (k.2 i _ e), fun i j xs ys e1 e2 => h6 i j xs ys (k.2 i _ e1) (k.2 j _ e2), h7⟩
theorem ODx.drop {B : Bs} {M1 : List Addr} {D : Addr} {kv : List (Key × V)} {c : Nat} {σ : L2.St} {H : Hp} {ρ ρ' : Ro} {i : Nat} {l : List (Str × Int)} (h : ODx B M1 D kv c σ H ρ' i l) (k : KP ρ ρ') : ODx B M1 D kv c σ H ρ i l := ⟨h.st.drop k, h.mem, h.at_, h.hD, h.rows⟩
theorem TgOk.atX {g : TG} {s : Sh} {own : List Nat} {ρ ρ' : Ro} (h : TgOk g s own ρ ρ') (hno' : noOwnAt own ρ' = true) {B : Bs} {M1 : List Addr} {c : Nat} {σ : L2.St} {H : Hp} {v : V} {Q : L2.St → Hp → Prop} (hS : StX B M1 c σ H ρ) (r : Rp (hide (M1 ++ B.M) H) v s)
    (k : ∀ σ', (∀ i, i ∉ own → σ'[i]? = σ[i]?) → StX B M1 c σ' H ρ' → Q σ' H) : g v σ H Q := by
  obtain ⟨h1, h2, h3, h4, h5, h6, h7⟩ := hS
  have hno : ∀ (i : Nat) xs, ρ'[i]? = some (some (.own xs)) → i ∉ own ∧ ρ[i]? = some (some (.own xs)) := fun i xs q => ⟨fun m => (by
    have z := List.all_eq_true.mp hno' i m
    rw [q] at z
    cases z), h.1.2 i xs q⟩
  refine h.2 _ _ H σ v Q h2 h4 r fun σ' l o env => k σ' o ⟨h1, h2, h3, env, fun i xs q => ?_, fun i j xs ys q1 q2 hij => ?_, h7⟩
  · obtain ⟨ni, q'⟩ := hno i xs q
    rw [o i ni]
    exact h5 i xs q'
  · obtain ⟨ni, q1'⟩ := hno i xs q1
    obtain ⟨nj, q2'⟩ := hno j ys q2
    rw [o i ni, o j nj]
    exact h6 i j xs ys q1' q2' hij
/-- d[k] op= e, d one's own -/
theorem s_daugW {tk tv : TE} {ρ : Ro} {i : Nat} {D : Ends} {B : Bs} {c : Nat} {σ : L2.St} {H : Hp} {l : List (Str × Int)} {key : Str} {v0 x z : Int} {rd : V → V → Hp → VK → Prop} (h : OD B c σ H ρ i l) (hk : Ev tk ρ 0 (Is key)) (hv : Ev tv ρ 0 (Is x)) (hb : B.n + c ≤ LIM) (lk : l.lookup key = some v0) (few : l.length < sizeLine)
    (hrd : ∀ H Q, Q (.int z) H → rd (.int v0) (.int x) H Q) (k : ∀ H', OD B c σ H' ρ i (putA l key z) → D.nx σ H') : sDAug (tVar i) tk tv rd D σ H := by
  obtain ⟨M1, d, kv, o⟩ := h
  refine ⟨_, o.at_, ?_⟩
  refine hk.atX o.st (by omega) fun w H1 y e1 a1 r1 _ => ?_
  cases a1
  cases r1
  have o1 := o.ext e1
  have vl : valV kv (.inr key) = some (.int v0) := by
    rcases o1.rows.val key with ⟨_, z⟩ | ⟨v, b, z1, z2, z3⟩
    · rw [lk] at z; cases z
    · rw [lk] at z2; cases z2; rw [z1, show v = .int v0 from z3]
  have dg : DGet H1 d (.str key) (some (.int v0)) := by have z := DGet.k (k := .inr key) o1.hD; rw [vl] at z; exact z
  refine ⟨d, _, rfl, dg, ?_⟩
  refine hv.atX o1.st (by omega) fun w H2 y e2 a2 r2 _ => ?_
  cases a2
  cases r2
  have o2 := o1.ext e2
  refine hrd _ _ ⟨_, DPut.k (k := .inr key) o2.hD (by rw [o2.rows.len]; exact few), k _ ⟨M1, d, putK kv (.inr key) (.int z), ?_, o2.mem, o2.at_, upd_same, o2.rows.put key rfl⟩⟩
  obtain ⟨h1, h2, h3, h4, h5, h6, m, h7⟩ := o2.st
  have md : d ∈ M1 ++ B.M := List.mem_append_left _ o2.mem
  have hh : hide (M1 ++ B.M) (upd H2 d (.dK (putK kv (.inr key) (.int z)))) = hide (M1 ++ B.M) H2 := upd_hide md
  have np : NotPen (.dK (putK kv (.inr key) (.int z))) := (o2.rows.put key (b := z) rfl).intsNP
  refine ⟨h1, fun a q => ?_, ext_upd h3 (h1 d o2.mem), ⟨h4.1, fun j s q => ?_⟩, h5, h6, m, by rw [hh]; exact h7⟩
  · by_cases w : a = d
    · rw [w]; exact ⟨_, np, upd_same⟩
    · obtain ⟨u, nu, e⟩ := h2 a q; exact ⟨u, nu, by rw [upd_ne w]; exact e⟩
  · obtain ⟨v, e, r⟩ := h4.2 j s q
    refine ⟨v, e, ?_⟩
    cases s with
    | v s => show Rp (hide (M1 ++ B.M) _) v s; rw [hh]; exact r
    | pen => obtain ⟨p, w, P⟩ := r; exact ⟨p, w, by rw [hh]; exact P⟩
    | own xs =>
      obtain ⟨a, vs, w, m, e, r⟩ := r
      refine ⟨a, vs, w, m, ?_, by rw [hh]; exact r⟩
      rw [upd_ne (fun w => by rw [w, o2.hD] at e; cases e)]
      exact e
/-- return d -/
theorem od_ret {ρ : Ro} {i : Nat} {D : Ends} {B : Bs} {c : Nat} {σ : L2.St} {H : Hp} {l : List (Str × Int)} (h : OD B c σ H ρ i l)
    (k : ∀ v H', Ext c B.H H' → Rp (hide B.M H') v (dctSh Sh.int l) → D.rt v H') : tRet (tVar i) D σ H := by
  obtain ⟨M1, d, kv, o⟩ := h
  obtain ⟨h1, h2, h3, h4, h5, h6, m, h7⟩ := o.st
  refine ⟨_, o.at_, k _ H h3 (.dct (hide_of (B.al.new (h1 d o.mem)) o.hD) o.rows.intsNP ?_)⟩
  exact DR.rpk (f := Sh.int) (o.rows.imp fun v b e => by rw [show v = .int b from e]; exact .int b)
theorem EnvOk.none_at {n : Nat} {M : List Addr} {H : Hp} {σ : L2.St} {ρ : Ro} {i : Nat} {v : V} (E : EnvOk n M H σ ρ) : EnvOk n M H (σ.set i (some v)) (ρ.set i none) := ⟨by rw [List.length_set, List.length_set]; exact E.1, fun j s e => by
  by_cases q : i = j
  · subst q
    by_cases hz : i < ρ.length
    · rw [List.getElem?_set_self hz] at e; cases e
    · rw [List.getElem?_eq_none (by rw [List.length_set]; omega)] at e; cases e
  · rw [List.getElem?_set_ne q] at e ⊢
    exact E.2 j s e⟩
section
variable {α : Type} [Ty α]
def DcI (D : Addr) (H1 : Hp) (l : List (Str × Int)) (H : Hp) : Prop := ∃ kv, H D = some (.dK kv) ∧ DR IntV kv l ∧ Ext 0 H1 (hide [D] H)
def dcL (fk : α → Str) (fv : α → Int) (xs : List α) : List (Str × Int) := xs.foldl (fun l x => putA l (fk x) (fv x)) []
theorem dcL_more {fk : α → Str} {fv : α → Int} {xs : List α} {x : α} : dcL fk fv (xs ++ [x]) = putA (dcL fk fv xs) (fk x) (fv x) := by unfold dcL; rw [List.foldl_append]; rfl
theorem putA_le {β : Type} {l : List (Str × β)} {k : Str} {b : β} : (putA l k b).length ≤ l.length + 1 := by
  unfold putA
  split
  · rw [List.length_map]; omega
  · rw [List.length_append]; exact Nat.le_refl _
theorem fold_le {β : Type} {fk : α → Str} {fv : α → β} : ∀ (xs : List α) (l : List (Str × β)), (xs.foldl (fun l x => putA l (fk x) (fv x)) l).length ≤ l.length + xs.length
  | [], l => Nat.le_refl _
  | x :: xs, l => by
    rw [List.foldl_cons, List.length_cons]
    have a := fold_le (fk := fk) (fv := fv) xs (putA l (fk x) (fv x))
    have b := putA_le (l := l) (k := fk x) (b := fv x)
    omega
theorem dcI_turn {M : List Addr} {D : Addr} {H1 H : Hp} {n : Nat} {xs : List α} {j : Nat} {x : α} {fk : α → Str} {fv : α → Int} {g : TG} {tk tv : TE} {own : List Nat} {ρ ρ' : Ro} {σ : L2.St} {v : V}
    (al : Al M H1) (I : DcI D H1 (dcL fk fv (xs.take j)) H) (hx : xs[j]? = some x) (hlen : xs.length < sizeLine) (env : EnvOk n M H1 σ ρ) (ho : ∀ i ∈ own, ∀ s, ρ[i]? ≠ some (some s)) (hn : n ≤ LIM)
    (hv : Rp (hide (D :: M) H) v (sh x)) (hg : TgOk g (sh x) own ρ ρ') (hk : Ev tk ρ' 0 (Is (fk x))) (he : Ev tv ρ' 0 (Is (fv x))) :
    g v (wipe σ own) H fun σ2 H2 => wipe σ2 own = wipe σ own ∧ tYes σ2 H2 fun b H3 =>
      if b = true then tk σ2 H3 fun y H4 => tv σ2 H4 fun z H5 => ∃ kvs k, y = kV k ∧ H5 D = some (.dK kvs) ∧ kvs.length < sizeLine ∧ DcI D H1 (dcL fk fv (xs.take (j + 1))) (upd H5 D (.dK (putK kvs k z))) else DcI D H1 (dcL fk fv (xs.take (j + 1))) H3 := by
  obtain ⟨kv, h1, h2, h3⟩ := I
  have env2 : EnvOk n (D :: M) H (wipe σ own) ρ := ((env.ext h3).hid).wipe ho
  have al2 : Al (D :: M) H := fun a m => by
    rcases List.mem_cons.mp m with e | m
    · exact ⟨_, h2.intsNP, by rw [e]; exact h1⟩
    · obtain ⟨o, no, e⟩ := al a m
      exact ⟨o, no, (hide_some (h3.keep a o no e)).2⟩
  have tk' : xs.take (j + 1) = xs.take j ++ [x] := take_more hx
  refine hg.2 _ _ H _ v _ al2 env2 hv fun σ2 l2 o2 env3 => ?_
  refine ⟨wipe_ext (by rw [l2, wipe_length]) fun k hk => by rw [o2 k hk, wipe_other hk], ?_⟩
  dsimp only [tYes]
  refine iteT ?_
  refine hk n (D :: M) σ2 H al2 hn env3 _ fun y H4 y' e4 ay ry => ?_
  cases ay
  cases ry
  refine he n (D :: M) σ2 H4 (al2.ext e4) hn (env3.ext e4) _ fun z H5 z' e5 az rz => ?_
  cases az
  cases rz
  have a5 : H5 D = some (.dK kv) := e5.keep _ _ h2.intsNP (e4.keep _ _ h2.intsNP h1)
  refine ⟨kv, .inr (fk x), rfl, a5, ?_, putK kv (.inr (fk x)) (.int (fv x)), upd_same, ?_, ?_⟩
  · rw [h2.len]
    have a := fold_le (fk := fk) (fv := fv) (xs.take j) []
    have b := (List.getElem?_eq_some_iff.mp hx).1
    rw [List.length_take, List.length_nil] at a
    show (dcL fk fv _).length < _
    unfold dcL
    omega
  · rw [tk', dcL_more]
    exact h2.put (fk x) rfl
  · have s5 : Same (hide [D] H5) (hide [D] (upd H5 D (.dK (putK kv (.inr (fk x)) (.int (fv x)))))) := by rw [upd_hide (List.mem_singleton.mpr rfl)]; exact .refl _
    exact (((h3.trans e4.hide).trans e5.hide).snd s5).mono (by omega)
theorem dcI_end {ρ : Ro} {i : Nat} {D : Ends} {B : Bs} {M1 : List Addr} {c : Nat} {σ : L2.St} {H1 H : Hp} {d : Addr} {l : List (Str × Int)} (hX : StX B M1 c σ H1 ρ) (hd : H1 d = none) (hi : i < ρ.length) (I : DcI d H1 l H)
    (k : ∀ σ' H', OD B c σ' H' (ρ.set i none) i l → D.nx σ' H') : gName i (.ref d) σ H D.nx := by
  obtain ⟨kv, e1, e2, e3⟩ := I
  obtain ⟨h1, h2, h3, h4, h5, h6, m, h7⟩ := hX
  have hBd : B.H d = none := h3.dom hd
  have ns : ∀ (j : Nat) xs, (ρ.set i none)[j]? = some (some (.own xs)) → i ≠ j ∧ ρ[j]? = some (some (.own xs)) := fun j xs q => by
    by_cases hij : i = j
    · subst hij; rw [List.getElem?_set_self hi] at q; cases q
    · rw [List.getElem?_set_ne hij] at q; exact ⟨hij, q⟩
  refine k _ H ⟨d :: M1, d, kv, ⟨fun a q => ?_, fun a q => ?_, ((h3.trans e3).snd hide_le).mono (by omega), ?_, fun j xs q => ?_, fun j j' xs ys q1 q2 ne => ?_, m + 0, ?_⟩, List.mem_cons_self, ?_, e1, e2⟩
  · rcases List.mem_cons.mp q with z | z
    · rw [z]; exact hBd
    · exact h1 a z
  · rcases List.mem_cons.mp q with z | z
    · exact ⟨_, e2.intsNP, by rw [z]; exact e1⟩
    · obtain ⟨o, no, e⟩ := h2 a z
      exact ⟨o, no, (hide_some (e3.keep a o no e)).2⟩
  · have E := ((h4.ext e3).hid).none_at (i := i) (v := .ref d)
    exact E
  · obtain ⟨ne, q'⟩ := ns j xs q
    obtain ⟨a, ma, e⟩ := h5 j xs q'
    exact ⟨a, List.mem_cons_of_mem _ ma, by rw [List.getElem?_set_ne ne]; exact e⟩
  · obtain ⟨n1, q1'⟩ := ns j xs q1
    obtain ⟨n2, q2'⟩ := ns j' ys q2
    rw [List.getElem?_set_ne n1, List.getElem?_set_ne n2]
    exact h6 j j' xs ys q1' q2' ne
  · have z := e3.hide (M := M1 ++ B.M)
    rw [← hide_cons] at z
    exact h7.trans z
  · rw [List.getElem?_set_self (by rw [h4.1]; exact hi)]
/-- d = {k: v for .. in a tuple} -/
theorem s_dcT {K : PySem.W.Frag} {tl : TE} {g : TG} {tk tv : TE} {own : List Nat} {ρ : Ro} {i : Nat} {D : Ends} {B : Bs} {c : Nat} {σ : L2.St} {H : Hp} {xs : Tp α} {fk : α → Str} {fv : α → Int} (hS : StOk B c σ H ρ) (hs : Ev tl ρ 0 (Is xs)) (hb : B.n + c ≤ LIM) (hl : xs.l.length < sizeLine) (hi : i < ρ.length)
    (ho : ∀ i ∈ own, ∀ s, ρ[i]? ≠ some (some s)) (turn : ∀ x ∈ xs.l, ∃ ρ', TgOk g (sh x) own ρ ρ' ∧ Ev tk ρ' 0 (Is (fk x)) ∧ Ev tv ρ' 0 (Is (fv x)))
    (k : ∀ σ' H', OD B c σ' H' (ρ.set i none) i (dcL fk fv xs.l) → D.nx σ' H') : tAsg (tDc (iTup K tl) g tYes tk tv own) (gName i) D σ H := by
  obtain ⟨M1, hX⟩ := hS.ex
  refine hs.atX hX (by omega) fun v H1 ys e a r hX1 => ?_
  cases a
  obtain ⟨a, vs, rfl, ea, ra⟩ := Rp.tupI r
  have lv := ra.len
  rw [List.length_map] at lv
  refine ⟨a, rfl, ⟨vs, SqT.of ea⟩, fun d hd => ?_⟩
  obtain ⟨h1, h2, h3, h4, h5, h6, m, h7⟩ := id hX1
  refine loop_tup (K := K) (a := a) (xs := vs) _ (fun j H => DcI d H1 (dcL fk fv (xs.l.take j)) H) ?_ ?_ ?_ ?_
  · refine ⟨[], upd_same, .nil, ?_⟩
    exact .same fun b o q => hide_of (by simpa using ne_of_none q hd) (by rw [upd_ne (ne_of_none q hd)]; exact q)
  · rintro j H hj ⟨kv, z1, z2, z3⟩
    exact SqT.of (hide_some (z3.keep a (.tup vs) trivial ea)).2
  · intro j v H hj I
    obtain ⟨s, hs', rs⟩ := ra.getV hj
    rw [List.getElem?_map] at hs'
    obtain ⟨x, hx, rfl⟩ := Option.map_eq_some_iff.mp hs'
    obtain ⟨ρ', hg, hk, he⟩ := turn x (List.mem_of_getElem? hx)
    obtain ⟨kv, z1, z2, z3⟩ := id I
    exact dcI_turn h2 I hx hl h4 ho (by omega) (by rw [hide_cons]; exact rs.ext z3.hide) hg hk he
  · intro H I
    rw [lv, List.take_length] at I
    exact dcI_end hX1 hd hi I k
/-- d = {k: v for .. in a list} -/
theorem s_dcL {K : PySem.W.Frag} {tl : TE} {g : TG} {tk tv : TE} {own : List Nat} {ρ : Ro} {i : Nat} {D : Ends} {B : Bs} {c : Nat} {σ : L2.St} {H : Hp} {xs : List α} {fk : α → Str} {fv : α → Int} (hS : StOk B c σ H ρ) (hs : Ev tl ρ 0 (Is xs)) (hb : B.n + c ≤ LIM) (hl : xs.length < sizeLine) (hi : i < ρ.length)
    (ho : ∀ i ∈ own, ∀ s, ρ[i]? ≠ some (some s)) (turn : ∀ x ∈ xs, ∃ ρ', TgOk g (sh x) own ρ ρ' ∧ Ev tk ρ' 0 (Is (fk x)) ∧ Ev tv ρ' 0 (Is (fv x)))
    (k : ∀ σ' H', OD B c σ' H' (ρ.set i none) i (dcL fk fv xs) → D.nx σ' H') : tAsg (tDc (iList K tl) g tYes tk tv own) (gName i) D σ H := by
  obtain ⟨M1, hX⟩ := hS.ex
  refine hs.atX hX (by omega) fun v H1 ys e a r hX1 => ?_
  cases a
  obtain ⟨a, vs, rfl, ea, ra⟩ := Rp.lstI r
  have lv := ra.len
  rw [List.length_map] at lv
  refine ⟨a, rfl, ⟨vs, SqL.of ea⟩, fun d hd => ?_⟩
  obtain ⟨h1, h2, h3, h4, h5, h6, m, h7⟩ := id hX1
  refine loop_list (K := K) (a := a) (xs := vs) _ (fun j H => DcI d H1 (dcL fk fv (xs.take j)) H) ?_ ?_ ?_ ?_
  · refine ⟨[], upd_same, .nil, ?_⟩
    exact .same fun b o q => hide_of (by simpa using ne_of_none q hd) (by rw [upd_ne (ne_of_none q hd)]; exact q)
  · rintro j H hj ⟨kv, z1, z2, z3⟩
    exact SqL.of (hide_some (z3.keep a (.lst vs) trivial ea)).2
  · intro j v H hj I
    obtain ⟨s, hs', rs⟩ := ra.getV hj
    rw [List.getElem?_map] at hs'
    obtain ⟨x, hx, rfl⟩ := Option.map_eq_some_iff.mp hs'
    obtain ⟨ρ', hg, hk, he⟩ := turn x (List.mem_of_getElem? hx)
    obtain ⟨kv, z1, z2, z3⟩ := id I
    exact dcI_turn h2 I hx hl h4 ho (by omega) (by rw [hide_cons]; exact rs.ext z3.hide) hg hk he
  · intro H I
    rw [lv, List.take_length] at I
    exact dcI_end hX1 hd hi I k
/-- for .. in a tuple, an own dict kept -/
theorem s_odT {K : PySem.W.Frag} {tl : TE} {g : TG} {tb : TS} {own : List Nat} {ρ : Ro} {i : Nat} {D : Ends} {B : Bs} {c : Nat} {σ : L2.St} {H : Hp} {xs : Tp α} (L : Nat → List (Str × Int)) (h : OD B c σ H ρ i (L 0)) (hs : Ev tl ρ 0 (Is xs)) (hb : B.n + c ≤ LIM)
    (turn : ∀ G j x, xs.l[j]? = some x → ∃ ρ', TgOk g (sh x) own ρ ρ' ∧ noOwnAt own ρ' = true ∧ i ∉ own ∧ KP ρ ρ' ∧
      ∀ σ H, OD (B.at G) c σ H ρ' i (L j) → ∀ N : L2.St → Hp → Prop, (∀ σ H, OD (B.at G) c σ H ρ' i (L (j + 1)) → N σ H) → tb { D with nx := N, ct := N, bk := D.nx } σ H)
    (done : ∀ σ H, OD B c σ H ρ i (L xs.l.length) → D.nx σ H) : tFor (iTup K tl) g tb D σ H := by
  obtain ⟨M1, d, kv, o⟩ := h
  refine hs.atX o.st (by omega) fun v H1 ys e a r s => ?_
  cases a
  obtain ⟨a, vs, rfl, ea, ra⟩ := Rp.tupI r
  have lv := ra.len
  rw [List.length_map] at lv
  have o1 := o.ext e
  obtain ⟨h1, h2, h3, h4, h5, h6, m0, h7⟩ := id o1.st
  have ea' : hide (M1 ++ B.M) H1 a = some (.tup vs) := by
    cases r with
    | tup q _ =>
      have q2 := (hide_some q).2
      rw [ea] at q2
      cases q2
      exact q
  refine ⟨a, rfl, ⟨vs, SqT.of ea⟩, for_tup (K := K) (a := a) (xs := vs) (fun j σ H => OD (B.at (hide (M1 ++ B.M) H1)) c σ H ρ i (L j))
    ⟨M1, d, kv, ⟨h1, h2, h3, h4, h5, h6, 0, .refl _⟩, o1.mem, o1.at_, o1.hD, o1.rows⟩ (fun j σ H hj J => ?_) (fun j x σ H hj J => ?_) fun σ H J => ?_⟩
  · obtain ⟨M2, d2, kv2, o2⟩ := J
    obtain ⟨z1, z2, z3, z4, z5, z6, m, z7⟩ := o2.st
    exact SqT.of (hide_some (z7.keep a (.tup vs) trivial ea')).2
  · obtain ⟨M2, d2, kv2, o2⟩ := J
    obtain ⟨z1, z2, z3, z4, z5, z6, m, z7⟩ := id o2.st
    obtain ⟨sx, hx, rx⟩ := ra.getV hj
    rw [List.getElem?_map] at hx
    obtain ⟨y, hy, rfl⟩ := Option.map_eq_some_iff.mp hx
    obtain ⟨ρ', tg, no, ni, kp, body⟩ := turn _ j y hy
    refine tg.atX no o2.st (rx.ext z7) fun σ' oth sX => body σ' H ⟨M2, d2, kv2, sX, o2.mem, by rw [oth i ni]; exact o2.at_, o2.hD, o2.rows⟩ _ fun σ3 H3 ⟨M3, d3, kv3, o3⟩ => ?_
    exact ⟨M3, d3, kv3, o3.drop kp⟩
  · rw [lv] at J
    obtain ⟨M2, d2, kv2, o2⟩ := J
    obtain ⟨z1, z2, z3, z4, z5, z6, m, z7⟩ := id o2.st
    exact done σ H ⟨M2, d2, kv2, ⟨z1, z2, z3, z4, z5, z6, _, h7.trans z7⟩, o2.mem, o2.at_, o2.hD, o2.rows⟩
/-- return [.. for k, v in d.items() if ..], d one's own -/
theorem od_retItems {γ : Type} [Ty γ] {ρ : Ro} {i : Nat} {D : Ends} {B : Bs} {c : Nat} {σ : L2.St} {H : Hp} {l : List (Str × Int)} {g : TG} {tt : TT} {te : TE} {own : List Nat} {p : Str × Int → Bool} {f : Str × Int → γ} (h : OD B c σ H ρ i l) (hl : l.length < sizeLine) (hb : B.n + c ≤ LIM)
    (ho : ∀ i ∈ own, ∀ s, ρ[i]? ≠ some (some s)) (no : noOwn ρ = true) (turn : ∀ x ∈ l, ∃ ρ', TgOk g (sh x) own ρ ρ' ∧ EvT tt ρ' 0 (Is (p x)) ∧ Ev te ρ' 0 (Is (f x)))
    (k : ∀ v H', Ext c B.H H' → Rp (hide B.M H') v (sh ((l.filter p).map f)) → D.rt v H') : tRet (tUnlk (tLc (iItems (tLk (tVar i))) g tt te own)) D σ H := by
  obtain ⟨M1, d, kv, o⟩ := h
  obtain ⟨h1, h2, h3, h4, h5, h6, m, h7⟩ := id o.st
  refine ⟨_, o.at_, d, .dK kv, rfl, o.hD, trivial, fun od => ⟨d, od, kv, rfl, upd_same, ?_⟩⟩
  refine lc_items (o := od) (Q := fun v H' => ∃ d od u, H' d = some (HO.frz od u) ∧ (∀ o' u', H d ≠ some (HO.frz o' u')) ∧ D.rt v (upd H' d u)) (p := p) (h := f) (M := M1 ++ B.M) (n := B.n + c) h2 (List.mem_append_left _ o.mem) o.hD o.rows.intsNP h4 (o.rows.imp fun v b e => by rw [show v = .int b from e]; exact .int b) hl ho hb no turn fun D' H' hD ed' ex rr => ?_
  refine ⟨d, od, .dK kv, ed', ⟨fun o' u' z => ?_, ?_⟩⟩
  · rw [o.hD] at z; cases z
  exact k _ _ ((h3.trans ex).mono (by omega)) (rr B.M fun a m => List.mem_append_right _ m)
end
end Yarn
namespace Yarn
open PySem PySem.Spec PyProof.Rows L2 Ty
theorem et_truthL {α : Type} [Ty α] {K : PySem.W.Frag} {te : TE} {ρ : Ro} {xs : List α} (h : Ev te ρ 0 (Is xs)) : EvT (fun σ H Q => te σ H fun x H' => ∃ k, TruV K x H' k ∧ Q k H') ρ 0 (Is (!xs.isEmpty)) := fun n M σ H al le env Q k => by
  refine h n M σ H al le env _ fun v H1 ys e a r => ?_
  cases a
  obtain ⟨p, vs, rfl, ep, ra⟩ := Rp.lstI r
  have l := ra.len
  rw [List.length_map] at l
  refine ⟨_, .inl ⟨vs, SqL.of ep, rfl⟩, k _ H1 e ?_⟩
  cases xs with
  | nil => cases vs with
    | nil => rfl
    | cons v vs => cases l
  | cons x xs => cases vs with
    | nil => cases l
    | cons v vs => rfl
theorem Ev.re {α β : Type} [Ty α] [Ty β] {t : TE} {ρ : Ro} {c : Nat} {y : β} {x : α} (h : Ev (α := β) t ρ c (Is y)) (e : sh y = sh x) : Ev (α := α) t ρ c (Is x) := fun n M σ H al le env Q k => h n M σ H al le env Q fun v H' z e1 a r => by
  cases a
  exact k v H' x e1 rfl (by rw [← e]; exact r)
theorem mapped {α β γ : Type} [Ty β] [Ty γ] {f : α → β} {g : α → γ} {xs : List α} (h : ∀ x, sh (f x) = sh (g x)) : sh (xs.map f) = sh (xs.map g) := by
  show Sh.lst ((xs.map f).map sh) = Sh.lst ((xs.map g).map sh)
  rw [List.map_map, List.map_map]
  exact congrArg Sh.lst (List.map_congr_left fun x _ => h x)
end Yarn
namespace L2
open PySem PySem.Spec PyProof.Rows
section
variable {K : PySem.W.Frag} {x qual : Str} {params : Arguments} {body : List Stmt} {scope : Scope} {kws : List (Str × V)} {f : Addr} {fd : FuncData} {ps : List Str}
/-- names told by a call of a def that has no defaults -/
theorem FunD.kplain (F : FunD K x qual params body scope [] kws f fd) (n : Nat) (ks : List Str) (g : {α : Type} → List α → List α → List α → List α)
    (hrel : ∀ {vs ds zs : List V} {us its ws : List Value}, Vals vs us → Vals ds its → Vals zs ws → Vals (g vs ds zs) (g us its ws))
    (h : ∀ (kV doc pm : Value) (an : Option Addr) (cdv ct : Value) (us ws : List Value), us.length = n → ws.length = ks.length → bindArgs (PySem.W.fnOf x qual params body scope .none kV doc pm an cdv ct) ⟨us, ks.zip ws⟩ = pure (ps.zip (g us [] ws))) :
    ∃ its : List Value, KBn K fd ps n ks (fun us ws => g us its ws) (fun vs zs => g vs [] zs) := by
  obtain ⟨oc, od, dV, kV, doc, pm, an, cdv, ct, osl, rfl, lk, hcd, hD, hK⟩ := F.ex
  rcases hD with ⟨_, rfl⟩ | ⟨e, _⟩
  · exact ⟨[], ⟨fun s us ws X l1 l2 => .of_eq (h _ _ _ _ _ _ us ws l1 l2), fun r1 r2 => hrel r1 .nil r2⟩⟩
  · exact absurd rfl e
end
end L2
namespace Yarn
open PySem PySem.Spec PyProof.Rows L2 Ty
/-- a call with names -/
theorem en_fnN {α τ : Type} [Ty α] {c n0 m0 : Nat} {pre : τ → Prop} {post : τ → α → Prop} {enc : τ → List Sl} {gV : List V → List V → List V} {E : XK} {ta tk : TA} {ρ : Ro} {rs zs : List Sl} (t : τ) (ha : EvA ta ρ 0 (fun ss => ss = rs)) (hk : EvA tk ρ 0 (fun ss => ss = zs)) (hn : rs.length = n0) (hm : zs.length = m0)
    (hg : ∀ {n : Nat} {M : List Addr} {H : Hp} {vs ws : List V}, SlAll n M H vs rs → SlAll n M H ws zs → SlAll n M H (gV vs ws) (enc t)) (h : pre t) : Ev (tCallN n0 m0 (spF c pre post enc) gV E ta tk) ρ c (post t) := fun n M σ H al le env Q k => by
  refine ha n M σ H al (by omega) env _ fun vs H1 ss e1 a l r => ?_
  refine hk n M σ H1 (al.ext e1) (by omega) (env.ext e1) _ fun ws H2 zs' e2 b l2 r2 => ?_
  subst a b
  refine ⟨l.trans hn, l2.trans hm, n, M, enc t, _, (al.ext e1).ext e2, by omega, hg (SlAll.ext e2 ⟨l, r⟩) ⟨l2, r2⟩, ⟨t, h, rfl, rfl⟩, fun v H3 s e3 as rs => ?_⟩
  obtain ⟨x, px, rfl⟩ := as
  exact k v H3 x (((e1.trans e2).trans e3).mono (by omega)) px rs
theorem kw11 {n : Nat} {M : List Addr} {H : Hp} {vs ws : List V} {a b : Sl} {gV : List V → List V → List V} (hg : ∀ v w, gV [v] [w] = [v, w]) (h1 : SlAll n M H vs [a]) (h2 : SlAll n M H ws [b]) : SlAll n M H (gV vs ws) [a, b] := by
  obtain ⟨v, r, rfl, x1, x2⟩ := h1.uncons
  obtain ⟨w, r', rfl, y1, y2⟩ := h2.uncons
  rw [x2.unnil, y2.unnil, hg]
  exact slAll_cons x1 (slAll_cons y1 slAll_nil)
/-- a value that is taken apart, not known -/
theorem s_asgTn {α : Type} [Ty α] {te : TE} {g : TG} {own : List Nat} {ρ : Ro} {ρ' : α → Ro} {c1 : Nat} {A : α → Prop} {D : Ends} {B : Bs} {c : Nat} {σ : L2.St} {H : Hp} (hS : StOk B c σ H ρ) (h : Ev te ρ c1 A) (hb : B.n + (c + c1) ≤ LIM) (tg : ∀ x, A x → TgOk g (sh x) own ρ (ρ' x)) (no : ∀ x, noOwnAt own (ρ' x) = true)
    (k : ∀ x, A x → ∀ σ H, StOk B (c + c1) σ H (ρ' x) → D.nx σ H) : tAsg te g D σ H := by
  obtain ⟨M1, hX⟩ := hS.ex
  refine h.atX hX hb fun v H1 x e a r s => ?_
  exact (tg x a).at (no x) s r fun σ' z => k x a σ' H1 z
end Yarn
namespace Yarn
open PySem PySem.Spec PyProof.Rows L2 Ty
theorem ed_isiI {K : PySem.W.Frag} {ta : TE} {ρ : Ro} {i : Int} {n : String} {b : Bool} (h : Ev ta ρ 0 (Is i)) (hk : PySem.W.kitOne K (.type "int") (.type n) = some b) : Ev (α := Bool) (tCB (rIsi K) (tCons ta (tCons (tC (V.ty n)) tNil))) ρ 0 (Is b) := fun m M σ H al le env Q k => by
  refine h _ M σ H al le env _ fun v H1 x e a r => ?_
  cases a
  cases r
  exact ⟨_, _, _, _, b, rfl, .ty n, .base (.int i), hk, k _ H1 b e rfl (.bl b)⟩
theorem ed_notN {α : Type} [Ty α] {te : TE} {ρ : Ro} {x : α} (h : Ev te ρ 0 (Is x)) (e : sh x = .non) : Ev (α := Bool) (tOp (fun x y H Q => y = V.non ∧ Q (V.bl !decide (x = V.non)) H) te (tC .non)) ρ 0 (Is false) := fun m M σ H al le env Q k => by
  refine h _ M σ H al le env _ fun v H1 y e1 a r => ?_
  cases a
  rw [e] at r
  cases r
  refine ⟨rfl, ?_⟩
  exact k (.bl false) H1 false e1 rfl (.bl false)
def bs0 (H0 : Hp) : Bs := ⟨0, [], H0, fun a m => (by cases m), H0⟩
theorem penAt {k : Nat} : ∀ (i : Nat) (s : Sl), (none :: some .pen :: List.replicate k none : Ro)[i]? = some (some s) → i = 1 ∧ s = .pen
  | 0, s, h => by cases h
  | 1, s, h => by cases h; exact ⟨rfl, rfl⟩
  | i + 2, s, h => by
    have z : (List.replicate k (none : Option Sl))[i]? = some (some s) := by simpa using h
    rw [List.getElem?_replicate] at z
    split at z
    · cases z
    · cases z
/-- the law's own slots at the start of its loop: the pen alone is known -/
theorem law_start {H0 : Hp} {p : Addr} {σ : L2.St} {k : Nat} (P0 : Pen H0 p 0) (hl : σ.length = k + 2) (hp : σ[1]? = some (some (.ref p))) : StOk (bs0 H0) 0 σ H0 (none :: some .pen :: List.replicate k none) := by
  refine ⟨[], fun a m => (by cases m), fun a m => (by cases m), Ext.refl _, ⟨?_, fun i s e => ?_⟩, fun i xs e => ?_, fun i j xs ys e1 e2 _ => ?_, 0, ?_⟩
  · simp [hl]
  · obtain ⟨rfl, rfl⟩ := penAt i s e
    refine ⟨_, hp, p, rfl, ?_⟩
    show Pen (hide ([] ++ []) H0) p _
    rw [List.append_nil, hide_nil]
    exact P0
  · have := (penAt i _ e).2; cases this
  · have := (penAt i _ e1).2; cases this
  · show Ext 0 H0 (hide ([] ++ []) H0)
    rw [List.append_nil, hide_nil]
    exact .refl _
theorem StOk.toPen {B : Bs} {c : Nat} {σ : L2.St} {H : Hp} {ρ : Ro} {k : Nat} (s : StOk B c σ H ρ) (hl : ρ.length = k + 2) (h : ρ[1]? = some (some .pen)) : StOk B c σ H (none :: some .pen :: List.replicate k none) :=
  s.drop (by simp [hl]) fun i x e => by
    obtain ⟨rfl, rfl⟩ := penAt i x e
    exact h
end Yarn

set_option Elab.async false
set_option linter.all false
set_option maxRecDepth 100000
set_option maxHeartbeats 1000000
/-! own lists: one item laid over, compared with none -/
namespace Yarn
open PySem PySem.Spec PyProof.Rows L2 Ty
section
variable {α : Type} [Ty α]
theorem RpAll.setAt {H : Hp} : ∀ {vs : List V} {xs : List Sh} (j : Nat) {v : V} {x : Sh}, RpAll H vs xs → Rp H v x → RpAll H (vs.set j v) (xs.set j x)
  | _, _, _, _, _, .nil, _ => .nil
  | _, _, 0, _, _, .cons a r, q => .cons q r
  | _, _, j + 1, _, _, .cons a r, q => .cons a (r.setAt j q)
/-- xs[j] = e, xs one's own -/
theorem s_putOwn {te ti : TE} {ρ : Ro} {i c1 : Nat} {xs : List α} {j : Int} {A : α → Prop} {D : Ends} {B : Bs} {c : Nat} {σ : L2.St} {H : Hp} (hS : StOk B c σ H ρ) (hi : ρ[i]? = some (some (.own (xs.map sh)))) (h : Ev te ρ c1 A) (ht : Ev ti ρ 0 (Is j)) (hj : 0 ≤ j ∧ j < xs.length) (hb : B.n + (c + c1) ≤ LIM)
    (k : ∀ x, A x → ∀ H', StOk B (c + c1) σ H' (ρ.set i (some (.own ((xs.set j.toNat x).map sh)))) → D.nx σ H') : tAsg te (gSub (tVar i) ti rSetL) D σ H := by
  obtain ⟨M1, hX⟩ := hS.ex
  refine h.atX hX hb fun v H1 x e a r s => ?_
  obtain ⟨p, vs, ep, hp, rv⟩ := s.ownAt hi
  refine ⟨_, ep, ?_⟩
  refine ht.atX s (by omega) fun w H2 y e2 a2 r2 s2 => ?_
  cases a2
  cases r2
  obtain ⟨p', vs', ep', hp', rv'⟩ := s2.ownAt hi
  rw [ep] at ep'
  cases ep'
  have ln := rv'.len
  rw [List.length_map] at ln
  have ix : ixN vs'.length j = some j.toNat := by
    unfold ixN
    rw [if_pos hj.1, if_pos (by omega)]
  refine ⟨p, vs', j, j.toNat, rfl, rfl, hp', ix, k x a _ ?_⟩
  have m := s2.mut hi ep (H' := upd H2 p (.lst (vs'.set j.toNat v))) but_upd upd_same (ys := (xs.set j.toNat x).map sh) (by
    rw [List.map_set]
    exact rv'.setAt j.toNat (r.ext e2.hide))
  exact ⟨M1, m⟩
/-- xs == [], xs one's own -/
theorem ed_ownNil {K : PySem.W.Frag} {ρ : Ro} {i : Nat} {xs : List α} (n : Nat) (hn : n + 1 ≤ 64) (hi : ρ[i]? = some (some (.own (xs.map sh)))) (pl : ∀ x ∈ xs, plD n (sh x)) : Ev (α := Bool) (tOp (rEqD K) (tVar i) (tLstY tNil)) ρ 0 (Is xs.isEmpty) := fun m M σ H al le env Q k => by
  obtain ⟨v, e, a, vs, rfl, ma, hv, r⟩ := env.2 _ _ hi
  refine ⟨_, e, by show 0 ≤ sizeLine; decide, fun p H2 hp s h2 => ?_⟩
  have p1 : plD (n + 1) (.lst (xs.map sh)) := fun y my => by
    obtain ⟨x, mx, rfl⟩ := List.mem_map.mp my
    exact pl x mx
  have p2 : plD (n + 1) (.lst []) := fun y my => by cases my
  have r1 : Rp H2 (.ref a) (.lst (xs.map sh)) := .lst (s _ _ hv) ((r.same hide_le).same s)
  have r2 : Rp H2 (.ref p) (.lst []) := .lst h2 .nil
  refine ⟨dat (.lst (xs.map sh)), dat (.lst []), dat_dp _ p1 r1, dat_dp _ p2 r2, ?_, ?_, k _ H2 _ (.same s) rfl ?_⟩
  · have z := dat_lay _ p1
    show ((dat _).canLay0 && decide _) = true
    rw [z.1, decide_eq_true (show (dat _).depth ≤ 64 by omega)]; rfl
  · have z := dat_lay _ p2
    show ((dat _).canLay0 && decide _) = true
    rw [z.1, decide_eq_true (show (dat _).depth ≤ 64 by omega)]; rfl
  · have q : (dat (.lst (xs.map sh))).eqv (dat (.lst [])) = xs.isEmpty := by
      rw [Bool.eq_iff_iff, dat_eq _ p1 p2]
      cases xs with
      | nil => exact ⟨fun _ => rfl, fun _ => rfl⟩
      | cons x xs => exact ⟨fun z => (by cases z), fun z => (by cases z)⟩
    rw [q]
    exact .bl _
theorem RpAll.rev {H : Hp} : ∀ {vs : List V} {xs : List Sh}, RpAll H vs xs → RpAll H vs.reverse xs.reverse
  | _, _, .nil => .nil
  | _, _, .cons a r => by
    rw [List.reverse_cons, List.reverse_cons]
    exact r.rev.app (.cons a .nil)
theorem ed_rev {K : PySem.W.Frag} {te : TE} {ρ : Ro} {xs : List α} (h : Ev te ρ 0 (Is xs)) : Ev (tBy2 K List.reverse te) ρ 0 (Is xs.reverse) := fun n M σ H al le env Q k => by
  refine h n M σ H al le env _ fun v H1 ys e a r => ?_
  cases a
  obtain ⟨a, vs, rfl, ea, ra⟩ := Rp.lstI r
  refine ⟨a, vs, rfl, SqL.of ea, fun p H2 hp s h2 => ?_⟩
  refine k _ H2 _ (e.snd s) rfl (.lst (hide_of ((al.ext e).new hp) h2) ?_)
  rw [List.map_reverse]
  exact ra.rev.same (same_hide s)
end
end Yarn
namespace Yarn
open PySem PySem.Spec PyProof.Rows L2 Ty
theorem StOk.freezeL {α : Type} [Ty α] {B : Bs} {c : Nat} {σ : L2.St} {H : Hp} {ρ : Ro} {i : Nat} {ys : List Sh} {xs : List α} (hS : StOk B c σ H ρ) (hi : ρ[i]? = some (some (.own ys))) (e : ys = xs.map sh) : StOk B c σ H (ρ.set i (some (.v (sh xs)))) := by
  subst e
  exact hS.freeze hi
end Yarn
namespace Yarn
open PySem PySem.Spec PyProof.Rows L2 Ty
theorem uniq_le : ∀ (xs : List Str), (uniq xs).length ≤ xs.length
  | [] => Nat.le_refl _
  | y :: ys => by
    have ih := uniq_le ys
    unfold uniq
    split
    · rw [List.length_cons]; omega
    · rw [List.length_cons, List.length_cons]; omega
theorem sset_le {xs : List Str} : (sset xs).length ≤ xs.length := by
  unfold sset
  rw [(srt_perm _).length_eq]
  exact uniq_le xs
end Yarn

set_option Elab.async false
set_option linter.all false
set_option maxRecDepth 100000
set_option maxHeartbeats 1000000
/-! t[::-1] of a tuple -/
namespace HT
open PySem PySem.Spec PyProof.Rows
section
variable {prog : Program} {w : World} {A : Around} {E : Value → Shared → Prop} {s : Shared}
theorem adjust_back (n : Nat) : Builtin.Slice.sliceAdjust none none (-1) (n : Int) = ((n : Int) - 1, -1) := by
  unfold Builtin.Slice.sliceAdjust
  simp
theorem places_back (n : Nat) : Builtin.Slice.slicePlaces ((n : Int) - 1) (-1) (-1) = n := by
  unfold Builtin.Slice.slicePlaces
  simp
  omega
theorem sliceApplied_back {sl : Addr} {vl vu vs : Value} {n : Nat} {Q : Int × Int × Nat → Shared → Prop} (hs : s.heap.IsSliceOf sl vl vu vs) (pl : IsPart vl none) (pu : IsPart vu none) (ps : IsPart vs (some (-1)))
    (h : Q ((n : Int) - 1, -1, n) s) : wpAny (model prog w) A (Builtin.Slice.sliceApplied (.ref sl) (pure (n : Int))) Q E s := by
  obtain ⟨os, hos, hcs, hds⟩ := id hs
  unfold Builtin.Slice.sliceApplied Builtin.Slice.sliceFields
  refine wpAny_bind (wpAny_bind (wpAny_field hos hds (x := vl) rfl (wpAny_bind (wpAny_field hos hds (x := vu) rfl (wpAny_bind (wpAny_field hos hds (x := vs) rfl (wpAny_pure ?_)))))))
  refine wpAny_bind (slicePart_ ps ?_)
  show wpAny _ _ (if ((-1 : Int) == 0) = true then _ else _) _ _ s
  rw [if_neg (by decide)]
  refine wpAny_bind (slicePart_ pl (wpAny_bind (slicePart_ pu (wpAny_bind (wpAny_pure ?_)))))
  show wpAny _ _ (match Builtin.Slice.sliceAdjust none none (-1) (n : Int) with | (lo, hi) => pure (lo, (-1 : Int), Builtin.Slice.slicePlaces lo hi (-1))) _ _ s
  rw [adjust_back n]
  show wpAny _ _ (pure ((n : Int) - 1, (-1 : Int), Builtin.Slice.slicePlaces ((n : Int) - 1) (-1) (-1))) _ _ s
  rw [places_back]
  exact wpAny_pure h
theorem filterMap_same {α β : Type} {f g : α → Option β} : ∀ {l : List α}, (∀ m ∈ l, f m = g m) → l.filterMap f = l.filterMap g
  | [], _ => rfl
  | x :: l, h => by
    rw [List.filterMap_cons, List.filterMap_cons, h x List.mem_cons_self, filterMap_same fun m hm => h m (List.mem_cons_of_mem _ hm)]
theorem pick_back (xs : Array Value) : ((List.range xs.size).filterMap fun (m : Nat) => xs[(((xs.size : Int) - 1) + (m : Int) * (-1)).toNat]?).toArray = xs.toList.reverse.toArray := by
  have z := pick_gen xs.toList.reverse.toArray 0 xs.size
  have e1 : ((xs.toList.reverse.toArray.toList.drop 0).take xs.size) = xs.toList.reverse := by
    rw [List.drop_zero]
    exact List.take_of_length_le (by simp)
  rw [e1] at z
  rw [← z]
  congr 1
  refine filterMap_same fun m hm => ?_
  have hlt : m < xs.size := List.mem_range.mp hm
  have i1 : (((xs.size : Int) - 1) + (m : Int) * (-1)).toNat = xs.size - 1 - m := by omega
  have i2 : (((0 : Nat) : Int) + (m : Int) * 1).toNat = m := by omega
  rw [i1, i2]
  simp [List.getElem?_reverse, hlt]
theorem getItem_tuple_back {t sl : Addr} {items : Array Value} {vl vu vs : Value} {Q : Value → Shared → Prop} (ht : IsTup s.heap t items) (hs : s.heap.IsSliceOf sl vl vu vs) (pl : IsPart vl none) (pu : IsPart vu none) (ps : IsPart vs (some (-1)))
    (h : Q (.ref s.heap.objs.size) { s with heap := s.heap.push { cls := .type "tuple", data := .seq items.toList.reverse.toArray } })
    (hsz : items.size ≤ sizeLine) : wpAny (model prog w) A (getItem (.ref t) (.ref sl)) Q E s := by
  have htake : sizeOk (.seq items.toList.reverse.toArray) := by
    show items.toList.reverse.toArray.size ≤ sizeLine
    simpa using hsz
  obtain ⟨os, hos, hcs, hds⟩ := id hs
  have hTs : s.TypeIs (.ref sl) "slice" := ⟨os, hos, hcs⟩
  unfold getItem
  try with_reducible refine wpAny_holding ?_
  first | refine wpAny_bind (wpAny_pure ?_) | skip
  refine wpAny_bind (wpAny_sequenceKey ht.typeIs (by decide) ?_)
  refine wpAny_bind (wpAny_callSpecial?_slot (name := Str.ofString "__getitem__") ht.typeIs PyProof.Rows.slot_tuple_getitem
    (wpAny_call_entry PyProof.Rows.slot_tuple_getitem ht.typeIs entry_tuple_getitem ?_ (args_tuple_getitem _ _)))
  show wpAny _ _ (Builtin.Tuple.tupleItemsOf (.ref t) >>= _) _ _ s
  refine wpAny_bind (tupleItemsOf_ ht ?_)
  refine wpAny_bind (wpAny_typeOf hTs ?_)
  rw [if_pos (by decide)]
  refine wpAny_bind (sliceApplied_back hs pl pu ps ?_)
  have hno : ¬ ((((items.size : Int) - 1) == 0 && (-1 : Int) == 1 && items.size == items.size) = true) := by simp
  show wpAny _ _ (if (((items.size : Int) - 1) == 0 && (-1 : Int) == 1 && items.size == items.size) = true then _ else _) _ _ s
  rw [if_neg hno, pick_back]
  first
    | exact wpAny_bind (m := Builtin.Tuple.tupleExact _) (wpAny_newObj_type (wpAny_pure ⟨_, rfl, wpAny_pure h⟩) htake)
    | exact wpAny_bind (m := Builtin.Tuple.tupleExact _) (wpAny_newObj_type (wpAny_bind (wpAny_pure (wpAny_pure ⟨_, rfl, wpAny_pure h⟩))) htake)
    | exact wpAny_bind (wpAny_bind (m := Builtin.Tuple.tupleExact _) (wpAny_newObj_type (wpAny_pure (wpAny_pure ⟨_, rfl, wpAny_pure h⟩)) htake))
    | exact wpAny_bind (wpAny_bind (m := Builtin.Tuple.tupleExact _) (wpAny_newObj_type (wpAny_pure ⟨_, rfl, wpAny_pure h⟩) htake))
end
end HT
namespace Yarn
open PySem PySem.Spec PyProof.Rows L2 Ty
def tBackT (K : PySem.W.Frag) (te : TE) : TE := fun σ H Q => te σ H fun x H1 => ∃ a xs, x = .ref a ∧ SqT K H1 a xs ∧ ∀ p H2, H1 p = none → Same H1 H2 → H2 p = some (.tup xs.reverse) → Q (.ref p) H2
theorem pe_backT {X : Cx} {e : Expr} {te : TE} {k : Nat} {p1 p2 p3 pos : Pos} (he : PE X e te) : PE X (.Subscript e (.Slice none none (some (.UnaryOp .USub (.Constant (.int 1) k p1) p2)) p3) pos) (tBackT X.K te) := by
  refine ⟨fun pins s σ H Q I h => ?_⟩
  refine Subscript_ (thn (he.run pins s σ H _ I h) fun v s1 ⟨x, H1, I1, r1, a, xs, ex, hx, q⟩ => ?_)
  subst ex
  cases r1
  have hst : PO X (some (.UnaryOp .USub (.Constant (.int 1) k p1) p2)) (tPart (tUn (rU fun i => .int (-i)) (tC (.int 1)))) := po_some (pe_un un_neg pe_int)
  refine wpAny_Slice (thn (po_none.run pins s1 σ H1 (fun o H2 => o = none ∧ H2 = H1) I1 ⟨rfl, rfl⟩) fun vl s2 ⟨l, H2, I2, pl, el, e2⟩ => ?_)
  subst el e2
  refine thn (po_none.run pins s2 σ H2 (fun o H3 => o = none ∧ H3 = H2) I2 ⟨rfl, rfl⟩) fun vu s3 ⟨u, H3, I3, pu, eu, e3⟩ => ?_
  subst eu e3
  refine thn (hst.run pins s3 σ H3 (fun o H4 => o = some (-1) ∧ H4 = H3) I3 ⟨1, rfl, -1, rfl, rfl, rfl⟩) fun vs s4 ⟨o, H4, I4, ps, eo, e4⟩ => ?_
  subst eo e4
  have I5 : Inv X pins σ H4 { s4 with heap := s4.heap.push { cls := .type "slice", data := .fields #[vl, vu, vs] } } := I4.kept (t' := s4.toks) fun b ob q => Heap.get?_push_of_some _ q
  obtain ⟨its, r, ht, hz⟩ := I5.tuple hx
  have hlen := r.length
  refine tail_any (ops := [.ref a, .ref s4.heap.objs.size]) ht.typeIs (PyProof.Rows.slot_tuple_getitem.lookup) ?_ (by with_unfolding_all rfl)
  refine HT.getItem_tuple_back ht (Heap.IsSliceOf.new _ vl vu vs) pl pu ps ?_ (by rw [List.size_toArray]; omega)
  have nn := I5.hok.fresh (Nat.le_refl _)
  refine ⟨.ref _, _, I5.laid (t' := s4.toks) (o := .tup xs.reverse) (fun b ob q => Heap.get?_push_of_some _ q) (Nat.le_refl _) ?_, rfl, q _ _ nn (same_upd nn) upd_same⟩
  exact ⟨by rw [List.length_reverse]; exact hz, _, r.reverse, IsTup.new _ _⟩
theorem ed_backT {α : Type} [Ty α] {K : PySem.W.Frag} {te : TE} {ρ : Ro} {xs : Tp α} (h : Ev te ρ 0 (Is xs)) : Ev (tBackT K te) ρ 0 (Is (Tp.mk xs.l.reverse)) := fun n M σ H al le env Q k => by
  refine h n M σ H al le env _ fun v H1 ys e a r => ?_
  cases a
  obtain ⟨a, vs, rfl, ea, ra⟩ := Rp.tupI r
  refine ⟨a, vs, rfl, SqT.of ea, fun p H2 hp s h2 => ?_⟩
  refine k _ H2 _ (e.snd s) rfl (.tup (hide_of ((al.ext e).new hp) h2) ?_)
  show RpAll _ _ (xs.l.reverse.map sh)
  rw [List.map_reverse]
  exact ra.rev.same (same_hide s)
end Yarn
namespace Yarn
open PySem PySem.Spec PyProof.Rows L2 Ty
/-- xs[i] = e, xs one's own, i not known -/
theorem s_putOwnN {α : Type} [Ty α] {te ti : TE} {ρ : Ro} {i c1 c2 : Nat} {xs : List α} {A : α → Prop} {J : Int → Prop} {D : Ends} {B : Bs} {c : Nat} {σ : L2.St} {H : Hp} (hS : StOk B c σ H ρ) (hi : ρ[i]? = some (some (.own (xs.map sh)))) (h : Ev te ρ c1 A) (ht : Ev ti ρ c2 J) (hj : ∀ j, J j → 0 ≤ j ∧ j < xs.length) (hb : B.n + (c + c1 + c2) ≤ LIM)
    (k : ∀ x j, A x → J j → ∀ H', StOk B (c + c1 + c2) σ H' (ρ.set i (some (.own ((xs.set j.toNat x).map sh)))) → D.nx σ H') : tAsg te (gSub (tVar i) ti rSetL) D σ H := by
  obtain ⟨M1, hX⟩ := hS.ex
  refine h.atX hX (by omega) fun v H1 x e a r s => ?_
  obtain ⟨p, vs, ep, hp, rv⟩ := s.ownAt hi
  refine ⟨_, ep, ?_⟩
  refine ht.atX s (by omega) fun w H2 j e2 a2 r2 s2 => ?_
  cases r2
  obtain ⟨p', vs', ep', hp', rv'⟩ := s2.ownAt hi
  rw [ep] at ep'
  cases ep'
  have ln := rv'.len
  rw [List.length_map] at ln
  have hj' := hj j a2
  have ix : ixN vs'.length j = some j.toNat := by
    unfold ixN
    rw [if_pos hj'.1, if_pos (by omega)]
  refine ⟨p, vs', j, j.toNat, rfl, rfl, hp', ix, k x j a a2 _ ?_⟩
  have m := s2.mut hi ep (H' := upd H2 p (.lst (vs'.set j.toNat v))) but_upd upd_same (ys := (xs.set j.toNat x).map sh) (by
    rw [List.map_set]
    exact rv'.setAt j.toNat (r.ext e2.hide))
  exact ⟨M1, m⟩
theorem Ev.reA {α β : Type} [Ty α] [Ty β] {t : TE} {ρ : Ro} {c : Nat} {A : β → Prop} {A' : α → Prop} (h : Ev (α := β) t ρ c A) (f : ∀ y, A y → ∃ x, A' x ∧ sh y = sh x) : Ev (α := α) t ρ c A' := fun n M σ H al le env Q k => h n M σ H al le env Q fun v H' z e1 a r => by
  obtain ⟨x, ax, e⟩ := f z a
  exact k v H' x e1 ax (by rw [← e]; exact r)
theorem cut_le {α : Type} {xs : List α} {lo hi : Option Int} : (cutL xs lo hi).length ≤ xs.length := by
  unfold cutL
  rw [List.length_take, List.length_drop]
  omega
theorem cut_mem {α : Type} {xs : List α} {lo hi : Option Int} {x : α} (h : x ∈ cutL xs lo hi) : x ∈ xs := List.mem_of_mem_drop (List.mem_of_mem_take h)
theorem cut_init {α : Type} {xs : List α} {y : α} : cutL (xs ++ [y]) none (some (-1)) = xs := by
  unfold cutL
  have e1 : HT.sIx (xs ++ [y]).length 0 none = 0 := rfl
  have e2 : HT.sIx (xs ++ [y]).length (xs ++ [y]).length (some (-1)) = xs.length := by
    show (if (-1 : Int) < 0 then ((-1 : Int) + ((xs ++ [y]).length : Int)).toNat else min (-1 : Int).toNat (xs ++ [y]).length) = _
    rw [if_pos (by decide), List.length_append]
    show ((-1 : Int) + ((xs.length + 1 : Nat) : Int)).toNat = _
    omega
  rw [e1, e2, List.drop_zero, Nat.sub_zero]
  exact List.take_left
theorem cut_last {α : Type} {xs : List α} {y : α} : cutL (xs ++ [y]) (some (-1)) none = [y] := by
  unfold cutL
  have e1 : HT.sIx (xs ++ [y]).length (xs ++ [y]).length none = (xs ++ [y]).length := rfl
  have e2 : HT.sIx (xs ++ [y]).length 0 (some (-1)) = xs.length := by
    show (if (-1 : Int) < 0 then ((-1 : Int) + ((xs ++ [y]).length : Int)).toNat else min (-1 : Int).toNat (xs ++ [y]).length) = _
    rw [if_pos (by decide), List.length_append]
    show ((-1 : Int) + ((xs.length + 1 : Nat) : Int)).toNat = _
    omega
  rw [e1, e2, List.drop_left]
  exact List.take_of_length_le (by rw [List.length_append]; show 1 ≤ xs.length + 1 - xs.length; omega)
end Yarn

set_option Elab.async false
set_option linter.all false
set_option maxRecDepth 100000
set_option maxHeartbeats 4000000
/-! {e for a in xs for b in ys}: a set of texts of two fors -/
namespace Yarn
open PySem PySem.Spec PyProof.Rows L2 Ty
abbrev two (t0 i0 : Expr) (c0 : List Expr) (t1 i1 : Expr) (c1 : List Expr) : List Comprehension := [⟨t0, i0, c0, 0⟩, ⟨t1, i1, c1, 0⟩]
abbrev sc2E (elt t0 i0 : Expr) (c0 : List Expr) (t1 i1 : Expr) (c1 : List Expr) (scope : Scope) (pos : Pos) : Expr := .SetComp elt (two t0 i0 c0 t1 i1 c1) scope pos
def okAll (cs : List Expr) (env : Env) : Sem Bool := forIn cs true fun c r => if r = true then do let ok ← isTrue c env (eval c env); pure (ForInStep.yield ok) else pure (ForInStep.yield r)
theorem tx_call_add {P : Program} {w : World} {A : Around} {E : Value → Shared → Prop} {s : Shared} {a : Addr} {S : Str → Bool} {n : Nat} {x : Str} {t : Tok} {Q : Value → Shared → Prop} (ha : s.TypeIs (.ref a) "set") (R : TxSet P w s.heap a S n) (room : n + 1 < scanBound)
    (hQ : ∀ h' tk, Heap.SameBut a s.heap h' → TxSet P w h' a (fun y => S y || decide (y = x)) (if S x = true then n else n + 1) → Q .none { s with heap := h', toks := tk }) : wpAny (model P w) A (call (.builtin "set.add") [.ref a, .str x t]) Q E s := by
  refine wpAny_call_entry PySem.F.slot_set_add ha PySem.F.entry_set_add ?_ (PySem.F.args_set_add_2 _ _)
  unfold Builtin.«set.add» Builtin.Frozenset.oneOther
  simp only [List.isEmpty_nil, bind_assoc]
  unfold Builtin.Frozenset.addrOf setAdd
  refine wpAny_bind (wpAny_pure ?_); try dsimp only
  refine wpAny_bind (wpAny_pure ?_); try dsimp only
  refine wpAny_bind (wpAny_holding (wpAny_bind ((PySem.strKind P w).pyHash (PySem.strKind_is P w x t) ?_)))
  refine tx_add (s := { s with toks := s.toks + 1 }) R room fun h' sb r => ?_
  show wpAny _ _ (ret Value.none) _ _ _
  exact wpAny_pure ⟨_, rfl, hQ h' _ sb r⟩
section
variable {prog : Program} {w : World} {A : Around} {R : Result → Shared → Prop} {s : Shared} {elt t0 i0 t1 i1 : Expr} {c0 c1 : List Expr} {scope : Scope} {pos : Pos} {it acc : Value} {env : Env}
theorem turn_outer : compTurn (sc2E elt t0 i0 c0 t1 i1 c1 scope pos) 0 it acc env = (do
    standAt i0.pos
    match ← pyNext it with
    | none => pure (.done .next)
    | some v =>
      letOwnedTupleGo t0 it v
      assign t0 env v
      let ok ← okAll c0 env
      if ok then
        let x ← eval i1 env
        standAt i1.pos
        let x ← foldedSetIterable i1 env x
        let _ ← runOwn (.compStart (sc2E elt t0 i0 c0 t1 i1 c1 scope pos) 1 (← holding [x] (pyIter x)) acc env) env
      again (.compLoop (sc2E elt t0 i0 c0 t1 i1 c1 scope pos) 0 it acc env)) := by rfl
theorem turn_inner : compTurn (sc2E elt t0 i0 c0 t1 i1 c1 scope pos) 1 it acc env = (do
    standAt i1.pos
    match ← pyNext it with
    | none => pure (.done .next)
    | some v =>
      letOwnedTupleGo t1 it v
      assign t1 env v
      let ok ← okAll c1 env
      if ok then
        (do let v ← eval elt env; standAt elt.pos; let _ ← call (.builtin "set.add") [acc, v])
      again (.compLoop (sc2E elt t0 i0 c0 t1 i1 c1 scope pos) 1 it acc env)) := by rfl
abbrev nt (prog : Program) (w : World) (A : Around) (env : Env) (R : Result → Shared → Prop) : Value → Shared → Prop := notedBy (model prog w) A env fun e s' => R (.error e) s'
abbrev Told (prog : Program) (w : World) (A : Around) (env : Env) (R : Result → Shared → Prop) {α : Type} (m : Sem α) (Q : α → Shared → Prop) (s : Shared) : Prop := wpAny (model prog w) A m Q (nt prog w A env R) s
theorem loop_outer (hs : ∀ x, foldedSetIterable i1 env x = pure x) (I : Nat → Shared → Prop)
    (turn : ∀ n s, I n s → Told prog w A env R (pyNext it) (fun r s1 => match r with
      | none => R (.ok .next) s1
      | some v => Told prog w A env R (letOwnedTupleGo t0 it v) (fun _ s2 => Told prog w A env R (assign t0 env v) (fun _ s3 => Told prog w A env R (okAll c0 env) (fun ok s4 =>
          if ok = true then Told prog w A env R (eval i1 env) (fun x s5 => Told prog w A env R (pyIter x) (fun it1 s6 =>
              codeAny (model prog w) A (.compStart (sc2E elt t0 i0 c0 t1 i1 c1 scope pos) 1 it1 acc env) (fun r s' => match r with
                | .ok _ => ∃ m, m < n ∧ I m s'
                | .error _ => False) s6) s5) s4
          else ∃ m, m < n ∧ I m s4) s3) s2) s1) s)
    (n : Nat) (h : I n s) : codeAny (model prog w) A (.compLoop (sc2E elt t0 i0 c0 t1 i1 c1 scope pos) 0 it acc env) R s := by
  refine codeAny_loop rfl I (fun n s hI => ?_) n h
  show wpAny _ A ((compTurn (sc2E elt t0 i0 c0 t1 i1 c1 scope pos) 0 it acc env).onRaise (fun x => do noteFrame x env; theTreesLotGoes x)) _ _ s
  refine wpAny_noted ?_
  rw [turn_outer]
  refine wpAny_bind (wpAny_standAt (wpAny_bind (wpAny_mono (turn n s hI) (fun r s1 h1 => ?_) fun _ _ z => z)))
  cases r with
  | none => exact wpAny_pure h1
  | some v =>
    refine wpAny_bind (wpAny_mono h1 (fun _ s2 h2 => wpAny_bind (wpAny_mono h2 (fun _ s3 h3 => wpAny_bind (wpAny_mono h3 (fun ok s4 h4 => ?_) fun _ _ z => z)) fun _ _ z => z)) fun _ _ z => z)
    cases ok with
    | false => exact wpAny_pure ⟨rfl, h4⟩
    | true =>
      refine wpAny_bind (wpAny_mono h4 (fun x s5 h5 => wpAny_bind (wpAny_standAt (wpAny_bind (wpAny_of_eq (hs x) (wpAny_bind (wpAny_holding (wpAny_mono h5 (fun it1 s6 h6 => ?_) fun _ _ z => z))))))) fun _ _ z => z)
      refine wpAny_bind (wpAny_runOwn ?_)
      rw [Around.mark_none]
      refine codeAny_mono h6 fun r s' hr => ?_
      cases r with
      | error e => exact hr.elim
      | ok f => first | exact wpAny_pure ⟨rfl, hr⟩ | exact wpAny_bind (wpAny_pure (wpAny_pure ⟨rfl, hr⟩))
theorem loop_inner (I : Nat → Shared → Prop)
    (turn : ∀ n s, I n s → Told prog w A env R (pyNext it) (fun r s1 => match r with
      | none => R (.ok .next) s1
      | some v => Told prog w A env R (letOwnedTupleGo t1 it v) (fun _ s2 => Told prog w A env R (assign t1 env v) (fun _ s3 => Told prog w A env R (okAll c1 env) (fun ok s4 =>
          if ok = true then Told prog w A env R (eval elt env) (fun x s5 => Told prog w A env R (call (.builtin "set.add") [acc, x]) (fun _ s6 => ∃ m, m < n ∧ I m s6) s5) s4
          else ∃ m, m < n ∧ I m s4) s3) s2) s1) s)
    (n : Nat) (h : I n s) : codeAny (model prog w) A (.compLoop (sc2E elt t0 i0 c0 t1 i1 c1 scope pos) 1 it acc env) R s := by
  refine codeAny_loop rfl I (fun n s hI => ?_) n h
  show wpAny _ A ((compTurn (sc2E elt t0 i0 c0 t1 i1 c1 scope pos) 1 it acc env).onRaise (fun x => do noteFrame x env; theTreesLotGoes x)) _ _ s
  refine wpAny_noted ?_
  rw [turn_inner]
  refine wpAny_bind (wpAny_standAt (wpAny_bind (wpAny_mono (turn n s hI) (fun r s1 h1 => ?_) fun _ _ z => z)))
  cases r with
  | none => exact wpAny_pure h1
  | some v =>
    refine wpAny_bind (wpAny_mono h1 (fun _ s2 h2 => wpAny_bind (wpAny_mono h2 (fun _ s3 h3 => wpAny_bind (wpAny_mono h3 (fun ok s4 h4 => ?_) fun _ _ z => z)) fun _ _ z => z)) fun _ _ z => z)
    cases ok with
    | false => exact wpAny_pure ⟨rfl, h4⟩
    | true => exact wpAny_bind (wpAny_bind (wpAny_mono h4 (fun x s5 h5 => wpAny_bind (wpAny_standAt (wpAny_bind (wpAny_mono h5 (fun _ s6 h6 => wpAny_pure (wpAny_pure ⟨rfl, h6⟩)) fun _ _ z => z)))) fun _ _ z => z))
theorem start_inner (h0 : codeAny (model prog w) A (.compLoop (sc2E elt t0 i0 c0 t1 i1 c1 scope pos) 1 it acc env) R s)
    (h : Told prog w A env R (pyIter it) (fun it' s' => codeAny (model prog w) A (.compLoop (sc2E elt t0 i0 c0 t1 i1 c1 scope pos) 1 it' acc env) R s') s) :
    codeAny (model prog w) A (.compStart (sc2E elt t0 i0 c0 t1 i1 c1 scope pos) 1 it acc env) R s := by
  refine codeAny_of_tree ?_
  show wpAny _ _ ((compStart (sc2E elt t0 i0 c0 t1 i1 c1 scope pos) 1 it acc env).onRaise (fun x => do noteFrame x env; standAt theWindowsPlace)) _ _ s
  refine wpAny_notedAt ?_
  unfold compStart
  show wpAny _ _ (ask >>= _) _ _ s
  refine wpAny_bind (wpAny_askSetting (wpAny_ite ?_))
  split
  · first | exact wpAny_bind (wpAny_pure (wpAny_pure ⟨rfl, h0⟩)) | exact wpAny_pure ⟨rfl, h0⟩
  · refine wpAny_bind (wpAny_rule ?_)
    show wpAny _ _ (standAt i1.pos >>= _) _ _ s
    exact wpAny_bind (wpAny_standAt (wpAny_bind (wpAny_mono h (fun it' s' h' => wpAny_pure ⟨rfl, h'⟩) fun _ _ z => z)))
end
section
variable {X : Cx}
theorem tx_add_ok {pins : List (Addr × Obj)} {σ : L2.St} {H : Hp} {s : Shared} {E : Value → Shared → Prop} {D : Addr} {S : Str → Bool} {n : Nat} {x : Str} {t : Tok} {Q : Value → Shared → Prop} (I : Inv X pins σ H s) (hD : H D = some (TxO X.prog X.w D S n)) (room : n + 1 < scanBound)
    (h : ∀ s', Inv X pins σ (upd H D (TxO X.prog X.w D (fun y => S y || decide (y = x)) (if S x = true then n else n + 1))) s' → Q .none s') : wpAny (model X.prog X.w) X.A (call (.builtin "set.add") [.ref D, .str x t]) Q E s := by
  have R : TxSet X.prog X.w s.heap D S n := (I.hok D _ hD).1
  have ty : s.TypeIs (.ref D) "set" := by
    obtain ⟨o, rows, ep, tb, ho, hx, r⟩ := id R
    exact ⟨o, ho, hx.1⟩
  refine tx_call_add ty R room fun h' tk sb new => ?_
  have he : ∃ u, h'.get? D = some u := by
    obtain ⟨o, _, _, _, ho, _⟩ := id new
    exact ⟨o, ho⟩
  exact h _ (I.write (e := D) (t' := tk) (by rw [hD]; trivial) (.inl rfl) (fun b u hb hu => (sb.2 b hb).trans hu) he (txO_new new))
def tSc2 (P : Program) (w : World) (wi : TI) (g : TG) (tt : TT) (wi1 : TI) (g1 : TG) (tt1 : TT) (te : TE) (vs vs1 : List Nat) : TE := fun σ H Q =>
  wi σ H fun J H1 => ∀ D, H1 D = none → ∃ W : Nat → Nat → Hp → Prop, (∃ m, W 0 m (upd H1 D (TxO P w D (fun _ => false) 0))) ∧ ∀ i m H, W i m H →
    (J.stop i H ∧ Q (.ref D) H) ∨
    (J.go i H ∧ ∃ Nx : Hp → Prop, (∀ H', Nx H' → ∃ m', m' < m ∧ W (i + 1) m' H') ∧ ∀ x H', J.yld i H x H' → g x (wipe σ vs) H' fun σ2 H2 => wipe σ2 vs = wipe σ vs ∧ tt σ2 H2 fun b H3 =>
      if b = true then wi1 σ2 H3 fun J1 H4 => ∃ W1 : Nat → Nat → Hp → Prop, (∃ m, W1 0 m H4) ∧ ∀ j k H, W1 j k H →
        (J1.stop j H ∧ Nx H) ∨
        (J1.go j H ∧ ∃ Nx1 : Hp → Prop, (∀ H', Nx1 H' → ∃ k', k' < k ∧ W1 (j + 1) k' H') ∧ ∀ x H', J1.yld j H x H' → g1 x (wipe σ2 vs1) H' fun σ3 H5 => wipe σ3 vs1 = wipe σ2 vs1 ∧ tt1 σ3 H5 fun b H6 =>
          if b = true then te σ3 H6 fun y H7 => ∃ (c : Str) (S : Str → Bool) (n : Nat), y = .str c ∧ H7 D = some (TxO P w D S n) ∧ n + 1 < scanBound ∧ Nx1 (upd H7 D (TxO P w D (fun y => S y || decide (y = c)) (if S c = true then n else n + 1)))
          else Nx1 H6)
      else Nx H3)
abbrev AllPG (X : Cx) (scope : Scope) (tg : Expr) (g : TG) : Prop := ∀ (s : Shared) (H : Hp) (C : Addr) (cl : List (Str × Addr)) (fp : List Addr), PG (X.blk s H scope (compEnvC scope cl C X.env) fp) tg g
abbrev AllPTs (X : Cx) (scope : Scope) (cs : List Expr) (t : TT) : Prop := ∀ (s : Shared) (H : Hp) (C : Addr) (cl : List (Str × Addr)) (fp : List Addr), PTs (X.blk s H scope (compEnvC scope cl C X.env) fp) cs t
abbrev AllPE (X : Cx) (scope : Scope) (e : Expr) (t : TE) : Prop := ∀ (s : Shared) (H : Hp) (C : Addr) (cl : List (Str × Addr)) (fp : List Addr), PE (X.blk s H scope (compEnvC scope cl C X.env) fp) e t
abbrev AllPI (X : Cx) (scope : Scope) (tg e : Expr) (t : TI) : Prop := ∀ (s : Shared) (H : Hp) (C : Addr) (cl : List (Str × Addr)) (fp : List Addr), PI (X.blk s H scope (compEnvC scope cl C X.env) fp) tg e t
theorem pe_sc2 {elt t0 i0 t1 i1 : Expr} {c0 c1 : List Expr} {scope : Scope} {own : List (Str × Nat)} {vs1 : List Nat} {pos : Pos} {wi wi1 : TI} {g g1 : TG} {tt tt1 : TT} {te : TE} (hc : X.calm = true) (hN : X.N.Nodup) (hi : PI X t0 i0 wi) (ok : BlkOk X.N X.env.scope scope own) (hv : ∀ i ∈ vs1, i ∈ own.map (·.2))
    (hg : AllPG X scope t0 g) (ht : AllPTs X scope c0 tt) (hi1 : AllPI X scope t1 i1 wi1) (hg1 : AllPG X scope t1 g1) (ht1 : AllPTs X scope c1 tt1) (he : AllPE X scope elt te)
    (hs : ∀ x, foldedSetIterable i0 X.env x = pure x := by intro _; rfl) (hs1 : ∀ env x, foldedSetIterable i1 env x = pure x := by intro _ _; rfl) :
    PE X (sc2E elt t0 i0 c0 t1 i1 c1 scope pos) (tSc2 X.prog X.w wi g tt wi1 g1 tt1 te (own.map (·.2)) vs1) := by
  refine ⟨fun pins s σ H Q I h => ?_⟩
  rw [PpSet.eval_SetComp]
  have hfree : ∀ y ∈ scope.names, y.2 = .free → ∃ c, X.env.cells.lookup y.1 = some c := fun y hy e => (ok.free y hy e).elim (fun k => I.ok.has _ (.inl k)) fun k => I.ok.has _ (.inr k)
  refine wpAny_comprehension_free (use := none) rfl hs (closure_ok hfree) ok.kind (fun y hy e => by rw [ok.uniq y hy, e]) (thn (hi.run pins s σ H _ I h) fun xv sa hx => thn hx fun itv sb hb => ?_)
  obtain ⟨it, fp, tn, J, Hb, rfl, Ib, T, stb, fb, q⟩ := hb
  refine PpSet.newSet_ok (newEnv_comp ?_)
  generalize hD : sb.heap.objs.size = D
  have hDn : Hb D = none := Ib.hok.fresh (Nat.le_of_eq hD)
  obtain ⟨W, ⟨m0, w0⟩, turn⟩ := q D hDn
  generalize hsc : ({ sb with heap := sb.heap.push (blank X.w) } : Shared) = sc
  have Ic : Inv X pins σ (upd Hb D (TxO X.prog X.w D (fun _ => false) 0)) sc := by
    rw [← hsc]
    refine Ib.laid (t' := sb.toks) (fun b o e => Heap.get?_push_of_some _ e) (Nat.le_of_eq hD) ?_
    rw [← hD]
    exact txO_new ((tx_blank (xs := []) (Heap.get?_push_size _ rfl)).congr fun _ => rfl)
  have hh : sc.heap = sb.heap.push (blank X.w) := by rw [← hsc]
  have small : ∀ b ∈ fp, b < sb.heap.objs.size := fun b hb => let ⟨o, e, _⟩ := T.obj _ _ stb b hb; Heap.lt_size e
  have fc : ∀ b ∈ fp, FpOk X pins (upd Hb D (TxO X.prog X.w D (fun _ => false) 0)) b ∧ b < sc.heap.objs.size := fun b hb => by
    have lt := small b hb
    refine ⟨⟨?_, (fb b hb).2⟩, by rw [hh, Heap.size_push]; exact Nat.lt_succ_of_lt lt⟩
    rw [upd_ne (by rw [← hD]; exact Nat.ne_of_lt lt)]
    exact (fb b hb).1
  have stc : tn 0 sc.heap := T.keep _ _ _ stb fun b _ o e => by rw [hh]; exact Heap.get?_push_of_some _ e
  have Id := block_start Ic ok hN fc
  generalize hHc : upd Hb D (TxO X.prog X.w D (fun _ => false) 0) = Hc at Ic Id w0 fc
  generalize hcl : cellsFrom (sc.heap.objs.size + 1) scope.names (cloFrom X.env.cells scope.names []) = cl at Id
  have pg := hg sc Hc sc.heap.objs.size cl fp
  have pt := ht sc Hc sc.heap.objs.size cl fp
  have pe := he sc Hc sc.heap.objs.size cl fp
  have pi1 := hi1 sc Hc sc.heap.objs.size cl fp
  have pg1 := hg1 sc Hc sc.heap.objs.size cl fp
  have pt1 := ht1 sc Hc sc.heap.objs.size cl fp
  have nfp : ∀ b ∈ fp, Hc b = none := fun b hb => (fc b hb).1.1
  show codeAny _ _ (.compStart (sc2E elt t0 i0 c0 t1 i1 c1 scope pos) 0 (.ref it) (.ref D) (compEnvC scope cl sc.heap.objs.size X.env)) _ _
  generalize hce : compEnvC scope cl sc.heap.objs.size X.env = ce at Id pg pt pe pi1 pg1 pt1 ⊢
  have cL : ce.locals = sc.heap.objs.size := by subst hce; rfl
  generalize hsd : ({ sc with heap := pushCells (sc.heap.push { cls := .type "dict", data := .dict #[] }) scope.names } : Shared) = sd at Id
  show codeAny _ _ _ (compPost (model X.prog X.w) X.A X.xe none (EP X pins σ Q) (.ref D) sc.heap.objs.size) sd
  have std : tn 0 sd.heap := T.keep _ _ _ stc fun b _ o e => by rw [← hsd]; exact pushCells_keeps _ _ _ _ (Heap.get?_push_of_some _ e)
  -- what stands at the start of each turn
  let Y := X.blk sc Hc scope ce fp
  let w0s := wipe σ (own.map (·.2))
  have stat : ∀ {σ' : L2.St} {H' : Hp} {s' : Shared}, Inv Y [] σ' H' s' → (∀ b ∈ fp, H' b = none) → ∀ b ∈ fp, FpOk Y [] H' b := fun {σ' H' s'} J hn b hb =>
    ⟨hn b hb, (J.ok.exf b hb).1, J.ok.exfs b hb, .inl hb, fun x c e => (J.ok.exf b hb).2 x c e, fun p hp => absurd (show p ∈ ([] : List (Addr × Obj)) ++ [] from hp) (by simp)⟩
  let At := fun (n : Nat) (s' : Shared) => ∃ i H', Inv Y [] w0s H' s' ∧ tn i s'.heap ∧ (∀ b ∈ fp, H' b = none) ∧ W i n H'
  have loop : codeAny (model X.prog X.w) X.A (.compLoop (sc2E elt t0 i0 c0 t1 i1 c1 scope pos) 0 (.ref it) (.ref D) ce) (compPost (model X.prog X.w) X.A X.xe none (EP X pins σ Q) (.ref D) sc.heap.objs.size) sd := by
    refine loop_outer (hs1 ce) At ?_ m0 ⟨0, Hc, Id, std, nfp, w0⟩
    rintro n se ⟨i, He, Ie, ste, ne, we⟩
    rcases turn i n He we with ⟨stop, qq⟩ | ⟨go, Nx, hNx, step⟩
    · refine thnF (T.done Y rfl rfl rfl hc i [] se _ He (fun _ _ => False) Ie (stat Ie ne) ste stop) fun r sf ⟨hr, If⟩ => ?_
      subst hr
      have Ig : Inv X pins σ He sf := Ic.call' (ch := fp) If.os If.base If.hok If.bare fun b hb => ⟨(fc b hb).1.2.2.2.1, (fc b hb).1.2.1, (fc b hb).1.2.2.2.2.1, (fc b hb).1.2.2.2.2.2⟩
      have nC : He sc.heap.objs.size = none := by have z : He ce.locals = none := If.free; rwa [cL] at z
      obtain ⟨m, hn, _⟩ := If.loc
      have hn : sf.heap.Ns ce.locals m := hn
      rw [cL] at hn
      refine ⟨m, hn, fun h'' sbt => ?_⟩
      obtain ⟨f0, f1, f2, f3, f4, f5⟩ := Ic.fpOk (Nat.le_refl _) nC
      exact ⟨.ref D, He, Ig.turned (t' := sf.toks) (fun b o hb e => (sbt.2 b hb).trans e) f0 f1 f3 f4 f5, rfl, qq⟩
    · refine thnF (T.item Y rfl rfl rfl hc i [] se _ He (fun _ _ => False) Ie (stat Ie ne) ste go) fun r sf ⟨u, hr, hf⟩ => ?_
      subst hr
      refine thnF hf fun _ sg ⟨x, Hg, Ig, rg, yg, stg, ng⟩ => ?_
      have Ig' := Ig.pinned (stat Ig ng) (T.obj _ _ stg)
      refine thnF (pg.run _ sg _ Hg x u _ Ig' rg (step x Hg yg)) fun _ sh ⟨σh, Hh, Ih, hwh, qh⟩ => ?_
      refine thnF (pt.run _ sh σh Hh _ Ih qh) fun b si ⟨Hi, Ii, qi⟩ => ?_
      have lh : w0s.length = σh.length := by show (wipe σ _).length = _; rw [← hwh, wipe_length]
      have kh : ∀ (j : Nat) v, w0s[j]? = some (some v) → σh[j]? = some (some v) := fun j v e => by
        have e' : (wipe σ (own.map (·.2)))[j]? = some (some v) := e
        rw [← hwh] at e'
        exact (wipe_some e').1
      have kw : ∀ (j : Nat) v, w0s[j]? = some (some v) → (wipe σh vs1)[j]? = some (some v) := fun j v e => by
        have e' : (wipe σ (own.map (·.2)))[j]? = some (some v) := e
        rw [← hwh] at e'
        obtain ⟨e1, e2⟩ := wipe_some e'
        rw [wipe_out fun z => e2 (hv j z)]
        exact e1
      have fin : ∀ {σ' : L2.St} {s' : Shared} {H' : Hp}, Inv Y ([] ++ pinsAt fp sg.heap) σ' H' s' → w0s.length = σ'.length → (∀ (j : Nat) v, w0s[j]? = some (some v) → σ'[j]? = some (some v)) → Nx H' → ∃ m, m < n ∧ At m s' := fun {σ' s' H'} J hl hk nx => by
        obtain ⟨m', hm, w'⟩ := hNx H' nx
        have pin' : ∀ b ∈ fp, ∀ o, sg.heap.get? b = some o → s'.heap.get? b = some o ∧ H' b = none := fun b hb o e =>
          let z := J.pin (b, o) (List.mem_append_right _ (List.mem_append_right _ (mem_pinsAt hb e)))
          ⟨z.1, z.2.1⟩
        exact ⟨m', hm, i + 1, H', (J.unpinned (pins := [])).weak hl hk, T.keep _ _ _ stg fun b hb o e => (pin' b hb o e).1, fun b hb => let ⟨o, e, _⟩ := T.obj _ _ stg b hb; (pin' b hb o e).2, w'⟩
      cases b with
      | false =>
        simp only [Bool.false_eq_true, if_false] at qi ⊢
        exact fin Ii lh kh qi
      | true =>
        simp only [if_true] at qi ⊢
        refine thnF (pi1.run _ si σh Hi _ Ii qi) fun xv1 sj hx1 => thnF hx1 fun itv1 sk hk1 => ?_
        obtain ⟨it1, fp1, tn1, J1, Hk, rfl, Ik, T1, stk, fk, W1, ⟨m1, w1⟩, turn1⟩ := hk1
        have stat1 : ∀ {H' : Hp}, (∀ b ∈ fp1, H' b = none) → ∀ b ∈ fp1, FpOk Y ([] ++ pinsAt fp sg.heap) H' b := fun hn b hb => ⟨hn b hb, (fk b hb).2⟩
        let At1 := fun (k : Nat) (s' : Shared) => ∃ j H', Inv Y ([] ++ pinsAt fp sg.heap) (wipe σh vs1) H' s' ∧ tn1 j s'.heap ∧ (∀ b ∈ fp1, H' b = none) ∧ W1 j k H'
        have loop1 : codeAny (model X.prog X.w) X.A (.compLoop (sc2E elt t0 i0 c0 t1 i1 c1 scope pos) 1 (.ref it1) (.ref D) ce) (fun r s' => match r with
            | .ok _ => ∃ m, m < n ∧ At m s'
            | .error _ => False) sk := by
          refine loop_inner At1 ?_ m1 ⟨0, Hk, Ik.weak (wipe_length _ _) (fun j v e => (wipe_some e).1), stk, fun b hb => (fk b hb).1, w1⟩
          rintro k sl ⟨j, Hl, Il, stl, nl, wl⟩
          rcases turn1 j k Hl wl with ⟨stop1, nx1⟩ | ⟨go1, Nx1, hNx1, step1⟩
          · refine thnF (T1.done Y rfl rfl rfl hc j _ sl (wipe σh vs1) Hl (fun _ _ => False) Il (stat1 nl) stl stop1) fun r sm ⟨hr, Im⟩ => ?_
            subst hr
            exact fin Im (lh.trans (wipe_length σh vs1).symm) kw nx1
          · refine thnF (T1.item Y rfl rfl rfl hc j _ sl (wipe σh vs1) Hl (fun _ _ => False) Il (stat1 nl) stl go1) fun r sm ⟨u1, hr, hm1⟩ => ?_
            subst hr
            refine thnF hm1 fun _ sn ⟨x1, Hn, In, rn, yn, stn, nn⟩ => ?_
            have In' := In.pinned (stat1 nn) (T1.obj _ _ stn)
            refine thnF (pg1.run _ sn (wipe σh vs1) Hn x1 u1 _ In' rn (step1 x1 Hn yn)) fun _ so ⟨σo, Ho, Io, hwo, qo⟩ => ?_
            refine thnF (pt1.run _ so σo Ho _ Io qo) fun b1 sp ⟨Hp', Ip, qp⟩ => ?_
            have fin1 : ∀ {s' : Shared} {H' : Hp}, Inv Y (([] ++ pinsAt fp sg.heap) ++ pinsAt fp1 sn.heap) σo H' s' → Nx1 H' → ∃ m, m < k ∧ At1 m s' := fun {s' H'} J nx => by
              obtain ⟨m', hm, w'⟩ := hNx1 H' nx
              have pin' : ∀ b ∈ fp1, ∀ o, sn.heap.get? b = some o → s'.heap.get? b = some o ∧ H' b = none := fun b hb o e =>
                let z := J.pin (b, o) (List.mem_append_right _ (List.mem_append_right _ (mem_pinsAt hb e)))
                ⟨z.1, z.2.1⟩
              exact ⟨m', hm, j + 1, H', J.unpinned.weak (by rw [← hwo, wipe_length]) (fun j v e => by rw [← hwo] at e; exact (wipe_some e).1), T1.keep _ _ _ stn fun b hb o e => (pin' b hb o e).1, fun b hb => let ⟨o, e, _⟩ := T1.obj _ _ stn b hb; (pin' b hb o e).2, w'⟩
            cases b1 with
            | false =>
              simp only [Bool.false_eq_true, if_false] at qp ⊢
              exact fin1 Ip qp
            | true =>
              simp only [if_true] at qp ⊢
              refine thnF (pe.run _ sp σo Hp' _ Ip qp) fun z sq ⟨yv, Hq, Iq, rq, c, S, n0, ey, hDq, room, nx⟩ => ?_
              subst ey
              obtain ⟨t, rfl⟩ := (show ∃ t, z = Value.str c t from rq)
              exact tx_add_ok (X := Y) Iq hDq room fun sr Ir => fin1 Ir nx
        exact start_inner loop1 (T1.self X.A 0 _ _ _ stk loop1)
  exact PpSet.codeAny_compStart_set loop (T.self X.A 0 _ _ _ std loop)
end
end Yarn

set_option Elab.async false
set_option linter.all false
set_option maxRecDepth 100000
set_option maxHeartbeats 4000000
/-! sorted({e for a in t for b in l}) -/
namespace Yarn
open PySem PySem.Spec PyProof.Rows L2 Ty
section
variable {α β : Type} [Ty α] [Ty β]
def Sc2 (P : Program) (w : World) (D : Addr) (H1 : Hp) (zs : List Str) (H : Hp) : Prop := ∃ n, H D = some (TxO P w D (fun y => decide (y ∈ zs)) n) ∧ n ≤ zs.length ∧ Ext 0 H1 (hide [D] H)
theorem ed_sortedSc2 {K : PySem.W.Frag} {P : Program} {w : World} {tl tl1 : TE} {g g1 : TG} {te : TE} {own vs1 : List Nat} {ρ : Ro} {xs : Tp α} {ys : α → List β} {f : α → β → Str}
    (hs : Ev tl ρ 0 (Is xs)) (hl : (xs.l.flatMap fun x => (ys x).map (f x)).length < 64) (ho : ∀ i ∈ own, ∀ s, ρ[i]? ≠ some (some s))
    (hb : ∀ x ∈ xs.l, ∃ ρ1, TgOk g (sh x) own ρ ρ1 ∧ Ev tl1 ρ1 0 (Is (ys x)) ∧ noOwn ρ1 = true ∧ (∀ i ∈ vs1, ∀ s, ρ1[i]? ≠ some (some s)) ∧ ∀ y ∈ ys x, ∃ ρ2, TgOk g1 (sh y) vs1 ρ1 ρ2 ∧ Ev te ρ2 0 (Is (f x y))) :
    Ev (α := List Str) (tCB (rSortedTx P w) (tCons (tSc2 P w (iTup K tl) g tYes (iList K tl1) g1 tYes te own vs1) tNil)) ρ 0 (Is (sset (xs.l.flatMap fun x => (ys x).map (f x)))) := fun n M σ H al le env Q k => by
  refine hs n M σ H al le env _ fun v H1 xs' e1 ax r1 => ?_
  have ax' : xs' = xs := ax
  rw [ax'] at r1
  obtain ⟨a, vs, rfl, e, ra⟩ := Rp.tupI r1
  have lv := ra.len
  rw [List.length_map] at lv
  refine ⟨a, rfl, ⟨vs, SqT.of e⟩, fun D hD => ?_⟩
  have al1 := al.ext e1
  have alD : ∀ {zs : List Str} {H : Hp}, Sc2 P w D H1 zs H → Al (D :: M) H := fun {zs H} ⟨acc, h1, h2, h3⟩ b m => by
    rcases List.mem_cons.mp m with z | m
    · exact ⟨_, (show NotPen (TxO P w D _ acc) from trivial), by rw [z]; exact h1⟩
    · obtain ⟨o, no, q⟩ := al1 b m
      exact ⟨o, no, (hide_some (h3.keep b o no q)).2⟩
  have ext2 : ∀ {zs : List Str} {H H' : Hp}, Sc2 P w D H1 zs H → Ext 0 H H' → Sc2 P w D H1 zs H' := fun ⟨acc, h1, h2, h3⟩ e => ⟨acc, e.keep _ _ (show NotPen (TxO P w D _ acc) from trivial) h1, h2, (h3.trans e.hide).mono (by omega)⟩
  refine loop_tup (K := K) (a := a) (xs := vs) _ (fun i H => Sc2 P w D H1 ((xs.l.take i).flatMap fun x => (ys x).map (f x)) H) ?_ ?_ ?_ ?_
  · refine ⟨0, by rw [upd_same]; rfl, Nat.zero_le _, ?_⟩
    exact .same fun b o q => hide_of (by simpa using ne_of_none q hD) (by rw [upd_ne (ne_of_none q hD)]; exact q)
  · rintro i H hi ⟨acc, h1, h2, h3⟩
    exact SqT.of (hide_some (h3.keep a (.tup vs) trivial e)).2
  · intro i v H hi I
    obtain ⟨s, hs', rs⟩ := ra.getV hi
    rw [List.getElem?_map] at hs'
    obtain ⟨x, hx, rfl⟩ := Option.map_eq_some_iff.mp hs'
    obtain ⟨ρ1, hg, ht1, no1, ho1, hb1⟩ := hb x (List.mem_of_getElem? hx)
    obtain ⟨acc, h1, h2, h3⟩ := id I
    have tk : xs.l.take (i + 1) = xs.l.take i ++ [x] := take_more hx
    have envD : EnvOk n (D :: M) H (wipe σ own) ρ := (((env.ext e1).ext h3).hid).wipe ho
    have rv : Rp (hide (D :: M) H) v (sh x) := by rw [hide_cons]; exact rs.ext h3.hide
    refine hg.2 _ _ H _ v _ (alD I) envD rv fun σ2 l2 o2 env3 => ?_
    refine ⟨wipe_ext (by rw [l2, wipe_length]) fun j hj => by rw [o2 j hj, wipe_other hj], ?_⟩
    dsimp only [tYes]
    refine iteT ?_
    refine ht1 n (D :: M) σ2 H (alD I) le env3 _ fun u H4 zs e4 az rz => ?_
    have az' : zs = ys x := az
    rw [az'] at rz
    have I4 := ext2 I e4
    obtain ⟨b, ws, rfl, eb, rb⟩ := Rp.lstI rz
    have lw := rb.len
    rw [List.length_map] at lw
    have bD : b ≠ D := fun z => by
      cases rz with
      | lst q _ => exact (hide_some q).1 (by rw [z]; exact List.mem_cons_self)
    refine ⟨b, rfl, ⟨ws, SqL.of eb⟩, ?_⟩
    refine loop_list (K := K) (a := b) (xs := ws) _ (fun j H => Sc2 P w D H1 (((xs.l.take i).flatMap fun x => (ys x).map (f x)) ++ ((ys x).take j).map (f x)) H ∧ Ext 0 (hide [D] H4) (hide [D] H)) ?_ ?_ ?_ ?_
    · exact ⟨by rw [List.take_zero, List.map_nil, List.append_nil]; exact I4, .refl _⟩
    · rintro j H hj ⟨J, x4⟩
      exact SqL.of (hide_some (x4.keep b (.lst ws) trivial (hide_of (by simpa using bD) eb))).2
    · rintro j u H5 hj ⟨J, x4⟩
      obtain ⟨s, hs2, rs2⟩ := rb.getV hj
      rw [List.getElem?_map] at hs2
      obtain ⟨y, hy, rfl⟩ := Option.map_eq_some_iff.mp hs2
      obtain ⟨ρ2, hg1, he⟩ := hb1 y (List.mem_of_getElem? hy)
      have tk1 : (ys x).take (j + 1) = (ys x).take j ++ [y] := take_more hy
      have x5 : Ext 0 (hide (D :: M) H4) (hide (D :: M) H5) := by have z := x4.hide (M := M); rwa [← hide_cons, ← hide_cons] at z
      have env5 : EnvOk n (D :: M) H5 (wipe σ2 vs1) ρ1 := ((env3.ext e4).hidden no1 x5).wipe ho1
      have ru : Rp (hide (D :: M) H5) u (sh y) := rs2.ext x5
      refine hg1.2 _ _ H5 _ u _ (alD J) env5 ru fun σ3 l3 o3 env6 => ?_
      refine ⟨wipe_ext (by rw [l3, wipe_length]) fun j hj => by rw [o3 j hj, wipe_other hj], ?_⟩
      dsimp only [tYes]
      refine iteT ?_
      refine he n (D :: M) σ3 H5 (alD J) le env6 _ fun t H7 z e7 az rz => ?_
      have az' : z = f x y := az
      subst az'
      cases rz
      have J7 := ext2 J e7
      obtain ⟨n7, k1, k2, k3⟩ := id J7
      have s6 : Same (hide [D] H7) (hide [D] (upd H7 D (TxO P w D (fun y' => decide (y' ∈ (xs.l.take i).flatMap (fun x => (ys x).map (f x)) ++ ((ys x).take j).map (f x)) || decide (y' = f x y)) (if decide (f x y ∈ (xs.l.take i).flatMap (fun x => (ys x).map (f x)) ++ ((ys x).take j).map (f x)) = true then n7 else n7 + 1)))) := by rw [upd_hide (List.mem_singleton.mpr rfl)]; exact .refl _
      have pre : (((xs.l.take i).flatMap fun x => (ys x).map (f x)) ++ ((ys x).take j).map (f x)).length < 64 := by
        refine Nat.lt_of_le_of_lt ?_ hl
        have sp : xs.l = xs.l.take i ++ (x :: xs.l.drop (i + 1)) := by
          have z := List.take_append_drop (i + 1) xs.l
          rw [tk, List.append_assoc] at z
          exact z.symm
        rw [sp, List.flatMap_append, List.flatMap_cons, List.length_append, List.length_append, List.length_append, List.length_map, List.length_map, List.length_take, ← sp]
        omega
      have q : (((xs.l.take i).flatMap fun x => (ys x).map (f x)) ++ ((ys x).take (j + 1)).map (f x)) = (((xs.l.take i).flatMap fun x => (ys x).map (f x)) ++ ((ys x).take j).map (f x)) ++ [f x y] := by
        rw [tk1, List.map_append, List.append_assoc]; rfl
      refine ⟨f x y, _, n7, rfl, k1, by unfold scanBound; omega, ⟨(if decide (f x y ∈ (xs.l.take i).flatMap (fun x => (ys x).map (f x)) ++ ((ys x).take j).map (f x)) = true then n7 else n7 + 1), upd_same.trans ?_, ?_, (k3.trans (.same s6)).mono (by omega)⟩, ((x4.trans e7.hide).trans (.same s6)).mono (by omega)⟩
      · rw [q]
        congr 2
        funext y'
        rw [Bool.eq_iff_iff, Bool.or_eq_true, decide_eq_true_iff, decide_eq_true_iff, decide_eq_true_iff]
        simp only [List.mem_append, List.mem_singleton]
      · rw [q, List.length_append]
        split
        · omega
        · show n7 + 1 ≤ _ + 1; omega
    · rintro H ⟨J, _⟩
      rw [lw] at J
      rw [List.take_length] at J
      show Sc2 P w D H1 _ H
      rw [tk, List.flatMap_append, List.flatMap_singleton]
      exact J
  · rintro H ⟨m, h1, h2, h3⟩
    rw [lv, List.take_length] at h1 h2
    refine ⟨D, _, m, rfl, h1, by omega, fun zs p so nd mem hp => ?_⟩
    have e : zs = sset (xs.l.flatMap fun x => (ys x).map (f x)) := sset_unique so nd fun x => (mem x).trans decide_eq_true_iff
    subst e
    have al3 : Al M H := fun b mb => let ⟨o, no, q⟩ := al1 b mb; ⟨o, no, (hide_some (h3.keep b o no q)).2⟩
    have n2 := new_ref (o := .lst ((sset (xs.l.flatMap fun x => (ys x).map (f x))).map V.str)) al3 hp
    exact k _ _ _ ((((e1.trans h3).snd hide_le).snd n2.1).mono (by omega)) rfl (.lst n2.2 (rpAll_strs _))
end
end Yarn

set_option Elab.async false
set_option linter.all false
set_option maxRecDepth 100000
set_option maxHeartbeats 4000000
/-! a list of one's own by a comprehension; a list or a tuple of texts -/
namespace Yarn
open PySem PySem.Spec PyProof.Rows L2 Ty
section
variable {α β : Type} [Ty α] [Ty β]
theorem evn_lcL {K : PySem.W.Frag} {tl : TE} {g : TG} {tt : TT} {te : TE} {own : List Nat} {ρ : Ro} {c0 c1 c2 m : Nat} {A : List α → Prop} {P : α → Bool → Prop} {E : α → β → Prop}
    (hs : Ev tl ρ c0 A) (hm : ∀ xs, A xs → xs.length ≤ m) (hml : m < sizeLine) (ho : ∀ i ∈ own, ∀ s, ρ[i]? ≠ some (some s))
    (hb : ∀ xs, A xs → ∀ x ∈ xs, ∃ ρ', TgOk g (sh x) own ρ ρ' ∧ EvT tt ρ' c1 (P x) ∧ Ev te ρ' c2 (E x)) :
    EvNew (tLc (iList K tl) g tt te own) ρ (c0 + m * (c1 + c2)) (fun ys => ∃ xs, A xs ∧ LcR P E xs ys) := fun n M σ H al le env Q k => by
  refine hs n M σ H al (by omega) env _ fun v H1 xs e1 ax r1 => ?_
  obtain ⟨a, vs, rfl, e, ra⟩ := Rp.lstI r1
  have lv := ra.len
  rw [List.length_map] at lv
  have hx := hm xs ax
  have hc : xs.length * (c1 + c2) ≤ m * (c1 + c2) := Nat.mul_le_mul_right _ hx
  refine ⟨a, rfl, ⟨vs, SqL.of e⟩, fun D hD => ?_⟩
  refine lc_list (K := K) (a := a) (xs := vs) (LcI M D H1 (c1 + c2) P E xs) (lcI_zero hD) (fun i H' hi I => ?_) (fun i x H' hi I => ?_) fun H' I => ?_
  · obtain ⟨acc, ys, h1, h2, h3, h4, h5⟩ := I.ex
    exact SqL.of (hide_some (h5.keep a (.lst vs) trivial e)).2
  · obtain ⟨s, hs', rs⟩ := ra.getV hi
    rw [List.getElem?_map] at hs'
    cases hx' : xs[i]? with
    | none => rw [hx'] at hs'; cases hs'
    | some y =>
      rw [hx'] at hs'
      cases hs'
      obtain ⟨ρ', hg, ht, he⟩ := hb xs ax y (List.mem_of_getElem? hx')
      obtain ⟨acc, ys, h1, h2, h3, h4, h5⟩ := id I.ex
      refine lcI_turn (al.ext e1) hD I hx' (by omega) (env.ext e1) ho (by omega) ?_ hg ht he
      rw [hide_cons]
      exact rs.ext h5.hide
  · rw [lv] at I
    obtain ⟨acc, ys, h1, h2, h3, h4, h5⟩ := I.ex
    rw [List.take_length] at h3
    refine k D (Yarn.hide [D] H') H' acc ys ((e1.trans h5).mono (by omega)) (by unfold Yarn.hide; rw [if_pos List.mem_cons_self]) hide_le h1 ⟨xs, ax, h3⟩ ?_
    rw [← hide_cons]
    exact h2
end
/-- a list or a tuple of texts -/
inductive Lt | l (xs : List Str) | t (xs : List Str)
def Lt.sh : Lt → Sh
  | .l xs => .lst (xs.map Sh.str)
  | .t xs => .tup (xs.map Sh.str)
def Lt.xs : Lt → List Str
  | .l xs => xs
  | .t xs => xs
instance tyLt : Ty Lt := ⟨Lt.sh⟩
theorem rv_ninLt {K : PySem.W.Frag} {x : Str} {k : Lt} : Rv2 (rIn K true) x k (!decide (x ∈ k.xs)) := by
  cases k with
  | l xs => exact rv_ninLS
  | t xs => exact fun M H v w Q al r1 r2 => rv_ninTS (xs := ⟨xs⟩) M H v w Q al r1 r2

/-- not xs, as a value -/
theorem ed_notL {α : Type} [Ty α] {K : PySem.W.Frag} {te : TE} {ρ : Ro} {xs : List α} (h : Ev te ρ 0 (Is xs)) : Ev (α := Bool) (tNotT K te) ρ 0 (Is xs.isEmpty) := fun n M σ H al le env Q k => by
  refine h n M σ H al le env _ fun v H1 ys e a r => ?_
  cases a
  obtain ⟨p, vs, rfl, ep, ra⟩ := Rp.lstI r
  have lv := ra.len
  rw [List.length_map] at lv
  refine ⟨!vs.isEmpty, .inl ⟨vs, SqL.of ep, rfl⟩, ?_⟩
  have z : (!(!vs.isEmpty)) = xs.isEmpty := by
    rw [Bool.not_not]
    cases vs <;> cases xs <;> first | rfl | (simp at lv)
  rw [z]
  exact k _ H1 _ e rfl (.bl _)
/-- no list, a list or a tuple of texts -/
inductive Fr | n | l (xs : List Str) | t (xs : List Str)
def Fr.sh : Fr → Sh
  | .n => .non
  | .l xs => .lst (xs.map Sh.str)
  | .t xs => .tup (xs.map Sh.str)
def Fr.xs : Fr → List Str
  | .n => []
  | .l xs => xs
  | .t xs => xs
instance tyFr : Ty Fr := ⟨Fr.sh⟩
/-- x or () -/
theorem ev_orFr {K : PySem.W.Frag} {ta : TE} {ρ : Ro} {f : Fr} (h : Ev ta ρ 0 (Is f)) : Ev (α := Lt) (tOrT K ta (tTupY tNil)) ρ 0 (fun k => k.xs = f.xs) := fun n M σ H al le env Q k => by
  refine h n M σ H al le env _ fun v H1 g e a r => ?_
  cases a
  have nil : f.xs = [] → (if false = true then Q v H1 else tTupY tNil σ H1 Q) := fun z => by
    rw [if_neg (by decide)]
    exact ⟨by decide, fun p H2 hp s e2 => k (.ref p) H2 (.t []) (e.trans (.same s)) (by rw [z]; rfl) (.tup (hide_of ((al.ext e).new hp) e2) .nil)⟩
  cases f with
  | n =>
    cases r
    exact ⟨false, rfl, nil rfl⟩
  | l xs =>
    obtain ⟨p, vs, rfl, ep, ra⟩ := Rp.lstI r
    cases vs with
    | nil =>
      refine ⟨false, .inl ⟨[], SqL.of ep, rfl⟩, nil ?_⟩
      have z := ra.len
      rw [List.length_map] at z
      exact List.length_eq_zero_iff.mp z.symm
    | cons v vs =>
      exact ⟨true, .inl ⟨v :: vs, SqL.of ep, rfl⟩, by rw [if_pos rfl]; exact k _ H1 (.l xs) e rfl r⟩
  | t xs =>
    obtain ⟨p, vs, rfl, ep, ra⟩ := Rp.tupI r
    cases vs with
    | nil =>
      refine ⟨false, .inr (.inl ⟨[], SqT.of ep, rfl⟩), nil ?_⟩
      have z := ra.len
      rw [List.length_map] at z
      exact List.length_eq_zero_iff.mp z.symm
    | cons v vs =>
      exact ⟨true, .inr (.inl ⟨v :: vs, SqT.of ep, rfl⟩), by rw [if_pos rfl]; exact k _ H1 (.t xs) e rfl r⟩
theorem pi_listK {X : Cx} {K : PySem.W.Frag} {t e : Expr} {tl : TE} (hk : X.K = K) (h : PE X e tl) : PI X t e (iList K tl) := by
  subst hk; exact pi_list h
theorem pi_tupK {X : Cx} {K : PySem.W.Frag} {t e : Expr} {tl : TE} (hk : X.K = K) (h : PE X e tl) : PI X t e (iTup K tl) := by
  subst hk; exact pi_tup h
theorem pe_fldK {X : Cx} {K : PySem.W.Frag} {e : Expr} {f : Str} {pos : Pos} {ta : TE} (hk : X.K = K) (h : PE X e ta) (hb : attributeBase e f X.env (eval e X.env) = eval e X.env) : PE X (e.Attribute f pos) (tFld K ta f) := by
  subst hk; exact pe_fld h hb
theorem op_in_seqK {X : Cx} {K : PySem.W.Frag} (hk : X.K = K) : OpR X (compareOp CmpOp.In) (rIn K false) := by
  subst hk; exact op_in_seq
theorem op_notIn_seqK {X : Cx} {K : PySem.W.Frag} (hk : X.K = K) : OpR X (compareOp CmpOp.NotIn) (rIn K true) := by
  subst hk; exact op_notIn_seq
theorem op_neDK {X : Cx} {K : PySem.W.Frag} (hk : X.K = K) (hu : X.A.units + 64 < cLine) : OpR X (compareOp CmpOp.NotEq) (rNeD K) := by
  subst hk; exact op_neD hu
theorem op_eqDK {X : Cx} {K : PySem.W.Frag} (hk : X.K = K) (hu : X.A.units + 64 < cLine) : OpR X (compareOp CmpOp.Eq) (rEqD K) := by
  subst hk; exact op_eqD hu
/-- a block within a block -/
theorem lk_rel {env : Env} {y : Str} : ∀ l : List (Str × NameKind), List.lookup y l = some .cell ∨ List.lookup y l = some .free →
    List.lookup y (l.map fun x => match x with
      | (n, k) => if (k == NameKind.free && env.scope.kind == ScopeKind.function && env.kindOf n == some NameKind.cell) = true then (n, NameKind.cell) else (n, k)) = some .cell ∨
    List.lookup y (l.map fun x => match x with
      | (n, k) => if (k == NameKind.free && env.scope.kind == ScopeKind.function && env.kindOf n == some NameKind.cell) = true then (n, NameKind.cell) else (n, k)) = some .free
  | [], h => by rcases h with h | h <;> cases h
  | (n, k) :: l, h => by
    rw [List.map_cons]
    by_cases e : y = n
    · subst e
      have hk : k = .cell ∨ k = .free := by simpa [List.lookup] using h
      dsimp only
      split
      · left; simp [List.lookup]
      · rcases hk with rfl | rfl
        · left; simp [List.lookup]
        · right; simp [List.lookup]
    · have e' : (y == n) = false := by simpa using e
      have h' : List.lookup y l = some .cell ∨ List.lookup y l = some .free := by simpa [List.lookup, e'] using h
      have z := lk_rel (env := env) l h'
      dsimp only
      split <;> simpa [List.lookup, e'] using z
theorem blkIn {X : Cx} {s : Shared} {H : Hp} {scO sc : Scope} {cl : List (Str × Addr)} {C : Addr} {env : Env} {fp : List Addr} {N : List Str} {own : List (Str × Nat)} (h : blkC N scO sc own = true) :
    BlkOk N (X.blk s H scO (compEnvC scO cl C env) fp).env.scope sc own := by
  have b : BlkOk N scO sc own := blkOk_by h
  exact ⟨b.kind, b.uniq, b.ix, fun y hy hf => lk_rel (env := env) _ (b.free y hy hf), b.own⟩
theorem ed_isiB {K : PySem.W.Frag} {ta : TE} {ρ : Ro} {i : Bool} {n : String} {b : Bool} (h : Ev ta ρ 0 (Is i)) (hk : PySem.W.kitOne K (.type "bool") (.type n) = some b) : Ev (α := Bool) (tCB (rIsi K) (tCons ta (tCons (tC (V.ty n)) tNil))) ρ 0 (Is b) := fun m M σ H al le env Q k => by
  refine h _ M σ H al le env _ fun v H1 x e a r => ?_
  cases a
  cases r
  exact ⟨_, _, _, _, b, rfl, .ty n, .base (.bl i), hk, k _ H1 b e rfl (.bl b)⟩
theorem en_fnD {α τ : Type} [Ty α] {c c1 : Nat} {pre : τ → Prop} {post : τ → α → Prop} {enc : τ → List Sl} {E : XK} {ta : TA} {ρ : Ro} {rs : List Sl} {dvs : List V} {dss : List Sh} (t : τ) (ha : EvA ta ρ c1 (fun ss => ss = rs)) (hd : ∀ H, RpAll H dvs dss) (he : rs ++ dss.map .v = enc t) (h : pre t) : Ev (tCall (spF c pre post enc) dvs E ta) ρ (c1 + c) (post t) :=
  ev_callD ha hd fun ss e => ⟨_, ⟨t, h, by rw [e, he], rfl⟩, fun s z => z⟩
theorem kw21 {n : Nat} {M : List Addr} {H : Hp} {vs ws : List V} {a b c : Sl} {gV : List V → List V → List V} (hg : ∀ u v w, gV [u, v] [w] = [u, v, w]) (h1 : SlAll n M H vs [a, b]) (h2 : SlAll n M H ws [c]) : SlAll n M H (gV vs ws) [a, b, c] := by
  obtain ⟨u, r, rfl, x1, x2⟩ := h1.uncons
  obtain ⟨v, r2, rfl, y1, y2⟩ := x2.uncons
  obtain ⟨w, r', rfl, z1, z2⟩ := h2.uncons
  rw [y2.unnil, z2.unnil, hg]
  exact slAll_cons x1 (slAll_cons y1 (slAll_cons z1 slAll_nil))
/-- if c: x = e -/
theorem s_ifSet {α : Type} [Ty α] {tc : TT} {te : TE} {u : TS} {ρ : Ro} {i c1 c2 : Nat} {x0 : α} {A : α → Prop} {C : Bool → Prop} {D : Ends} {B : Bs} {c : Nat} {σ : L2.St} {H : Hp} (hS : StOk B c σ H ρ) (hρ : ρ[i]? = some (some (.v (sh x0)))) (a0 : A x0) (ht : EvT tc ρ c1 C) (he : C true → Ev te ρ c2 A) (hb : B.n + (c + c1 + c2) ≤ LIM)
    (k : ∀ x, A x → ∀ σ' H', StOk B (c + c1 + c2) σ' H' (ρ.set i (some (.v (sh x)))) → u D σ' H') : tSeq (tIfS tc (tAsg te (gName i)) tNext) u D σ H := by
  refine s_seq (s_if hS ht (by omega) (fun h H hS => ?_) (fun h H hS => ?_))
  · exact s_set hS (he h) (by omega) fun x hx σ H hS => k x hx σ H hS
  · have e : ρ.set i (some (.v (sh x0))) = ρ := by
      refine List.ext_getElem? fun j => ?_
      by_cases q : i = j
      · subst q
        rw [List.getElem?_set_self (List.getElem?_eq_some_iff.mp hρ).1, hρ]
      · rw [List.getElem?_set_ne q]
    have z := k x0 a0 σ H
    rw [e] at z
    exact z (hS.up (by omega))
end Yarn

set_option Elab.async false
set_option linter.all false
set_option maxRecDepth 100000
set_option maxHeartbeats 4000000
/-! xs[::e], e one or minus one -/
namespace Yarn
open PySem PySem.Spec PyProof.Rows L2 Ty
theorem range_get {α : Type} : ∀ l : List α, (List.range l.length).filterMap (fun k => l[k]?) = l
  | [] => rfl
  | a :: l => by
    rw [List.length_cons, List.range_succ_eq_map, List.filterMap_cons, List.filterMap_map]
    show a :: (List.range l.length).filterMap (fun k => l[k]?) = _
    rw [range_get l]
theorem pick_one (items : Array Value) : slicePick items none none (some 1) = items := by
  obtain ⟨l⟩ := items
  show ((sliceRange ((0 : Nat) : Int) (l.length : Int) 1).filterMap (fun k => l.toArray[k]?)).toArray = l.toArray
  unfold sliceRange
  have c : (if (1 : Int) > 0 then (if ((0 : Nat) : Int) < (l.length : Int) then ((l.length : Int) - ((0 : Nat) : Int) + 1 - 1) / 1 else 0) else (if ((0 : Nat) : Int) > (l.length : Int) then (((0 : Nat) : Int) - (l.length : Int) - 1 - 1) / (-1) else 0)).toNat = l.length := by
    rw [if_pos (by decide)]
    split <;> omega
  dsimp only
  rw [c, List.filterMap_map]
  have ef : (fun k => l.toArray[k]?) ∘ (fun k : Nat => (((0 : Nat) : Int) + 1 * (k : Int)).toNat) = fun k => l[k]? := funext fun k => by
    show l.toArray[(((0 : Nat) : Int) + 1 * (k : Int)).toNat]? = _
    rw [show (((0 : Nat) : Int) + 1 * (k : Int)).toNat = k by omega]
    simp
  rw [ef, range_get]
theorem pick_neg (items : Array Value) : slicePick items none none (some (-1)) = items.toList.reverse.toArray := by
  have z := HT.pick_back items
  rw [← z]
  obtain ⟨l⟩ := items
  show ((sliceRange ((l.length : Int) - 1) (-1) (-1)).filterMap (fun k => l.toArray[k]?)).toArray = _
  unfold sliceRange
  have c : (if (-1 : Int) > 0 then (if ((l.length : Int) - 1) < (-1 : Int) then ((-1 : Int) - ((l.length : Int) - 1) + (-1) - 1) / (-1) else 0) else (if ((l.length : Int) - 1) > (-1 : Int) then (((l.length : Int) - 1) - (-1 : Int) - (-1) - 1) / (-(-1)) else 0)).toNat = l.length := by
    rw [if_neg (by decide), show (-(-1) : Int) = 1 from rfl]
    split <;> omega
  dsimp only
  rw [c, List.filterMap_map]
  congr 1
  refine HT.filterMap_same fun m hm => ?_
  show l.toArray[(((l.length : Int) - 1) + -1 * (m : Int)).toNat]? = _
  rw [show (((l.length : Int) - 1) + -1 * (m : Int)).toNat = ((((l.toArray).size : Int) - 1) + (m : Int) * (-1)).toNat by rw [List.size_toArray]; omega]
def stp (i : Int) {α : Type} (xs : List α) : List α := if i = -1 then xs.reverse else xs
def tStep (K : PySem.W.Frag) (te ts : TE) : TE := fun σ H Q => te σ H fun x H1 => tPart ts σ H1 fun o H2 => ∃ a xs i, x = .ref a ∧ o = some i ∧ (i = 1 ∨ i = -1) ∧ SqL K H2 a xs ∧ ∀ p H3, H2 p = none → Same H2 H3 → H3 p = some (.lst (stp i xs)) → Q (.ref p) H3
theorem pe_step {X : Cx} {e e2 : Expr} {te ts : TE} {p3 pos : Pos} (he : PE X e te) (hs2 : PE X e2 ts) : PE X (.Subscript e (.Slice none none (some e2) p3) pos) (tStep X.K te ts) := by
  refine ⟨fun pins s σ H Q I h => ?_⟩
  refine Subscript_ (thn (he.run pins s σ H _ I h) fun v s1 ⟨x, H1, I1, r1, q⟩ => ?_)
  have hst : PO X (some e2) (tPart ts) := po_some hs2
  refine wpAny_Slice (thn (po_none.run pins s1 σ H1 (fun o H2 => o = none ∧ H2 = H1) I1 ⟨rfl, rfl⟩) fun vl s2 ⟨l, H2, I2, pl, el, e2'⟩ => ?_)
  subst el e2'
  refine thn (po_none.run pins s2 σ H2 (fun o H3 => o = none ∧ H3 = H2) I2 ⟨rfl, rfl⟩) fun vu s3 ⟨u, H3, I3, pu, eu, e3⟩ => ?_
  subst eu e3
  refine thn (hst.run pins s3 σ H3 _ I3 q) fun vs s4 ⟨o, H4, I4, ps, a, xs, i, ex, eo, hi, hx, w⟩ => ?_
  subst ex eo
  cases r1
  have I5 : Inv X pins σ H4 { s4 with heap := s4.heap.push { cls := .type "slice", data := .fields #[vl, vu, vs] } } := I4.kept (t' := s4.toks) fun b ob q => Heap.get?_push_of_some _ q
  obtain ⟨its, r, ht, hz⟩ := I5.list hx
  have hlen := r.length
  refine tail_any (ops := [.ref a, .ref s4.heap.objs.size]) ht.isList.typeIs (PySem.slot_list_getitem.lookup) ?_ (by with_unfolding_all rfl)
  have nn := I5.hok.fresh (Nat.le_refl _)
  rcases hi with rfl | rfl
  · refine wpAny_getItem_list_slice ht.isList (Heap.IsSliceOf.new _ vl vu vs) pl pu ps (by decide) ?_ (by rw [List.size_toArray]; omega)
    rw [pick_one]
    refine ⟨.ref _, _, I5.laid (t' := s4.toks) (o := .lst xs) (fun b ob q => Heap.get?_push_of_some _ q) (Nat.le_refl _) ?_, rfl, w _ _ nn (same_upd nn) upd_same⟩
    exact ⟨hz, _, 0, r, Heap.get?_push_size _ rfl⟩
  · refine wpAny_getItem_list_slice ht.isList (Heap.IsSliceOf.new _ vl vu vs) pl pu ps (by decide) ?_ (by rw [List.size_toArray]; omega)
    rw [pick_neg]
    refine ⟨.ref _, _, I5.laid (t' := s4.toks) (o := .lst xs.reverse) (fun b ob q => Heap.get?_push_of_some _ q) (Nat.le_refl _) ?_, rfl, w _ _ nn (same_upd nn) upd_same⟩
    exact ⟨by rw [List.length_reverse]; exact hz, _, 0, r.reverse, Heap.get?_push_size _ rfl⟩
theorem en_step {α : Type} [Ty α] {K : PySem.W.Frag} {te ts : TE} {ρ : Ro} {c1 c2 : Nat} {A : List α → Prop} {B : Int → Prop} (h : Ev te ρ c1 A) (h2 : Ev ts ρ c2 B) (hB : ∀ i, B i → i = 1 ∨ i = -1) : Ev (tStep K te ts) ρ (c1 + c2) (fun ys => ∃ xs i, A xs ∧ B i ∧ ys = stp i xs) := fun n M σ H al le env Q k => by
  refine h n M σ H al (by omega) env _ fun v H1 xs e a r => ?_
  refine h2 (n + c1) M σ H1 (al.ext e) (by omega) (env.ext e) _ fun y H2 i e2 b r2 => ?_
  cases r2
  obtain ⟨p, vs, rfl, ep, ra⟩ := Rp.lstI (r.ext e2.hide)
  refine ⟨i, rfl, p, vs, i, rfl, rfl, hB i b, SqL.of ep, fun q H3 hq s h3 => ?_⟩
  refine k _ H3 _ ((e.trans e2).snd s) ⟨xs, i, a, b, rfl⟩ (.lst (hide_of (((al.ext e).ext e2).new hq) h3) ?_)
  unfold stp
  rcases hB i b with rfl | rfl
  · rw [if_neg (by decide), if_neg (by decide)]
    exact ra.same (same_hide s)
  · rw [if_pos rfl, if_pos rfl, List.map_reverse]
    exact ra.rev.same (same_hide s)
end Yarn

set_option Elab.async false
set_option linter.all false
set_option maxRecDepth 100000
set_option maxHeartbeats 4000000
namespace Law
open PySem PySem.Spec PyProof.Rows L2 Yarn Ty
def top (i : Nat) : Stmt := PySem.Challenge.pw_yarnback_k21_homes_that_are_over.main.body.getD i (.Pass ⟨0, 0, 0, 0⟩)
abbrev s__law_pen : Stmt := top 17
abbrev s__law_draw : Stmt := top 18
abbrev s__law_names : Stmt := top 19
abbrev s__law_titles : Stmt := top 20
abbrev s__law_makers : Stmt := top 22
abbrev s__law_span : Stmt := top 21
abbrev s__law_around : Stmt := top 24
abbrev s__law_fitted : Stmt := top 25
abbrev s_Span_init : Stmt := inClass (top 12) 0
abbrev s_Span_eq : Stmt := inClass (top 12) 1
abbrev s_Span_plus : Stmt := inClass (top 12) 6
abbrev s_copied : Stmt := top 15
abbrev s_Sheetadd_give : Stmt := inClass (top 14) 1
abbrev s_Sheetadd_maker : Stmt := inClass (top 14) 3
abbrev s_Sheetadd_piece : Stmt := inClass (top 14) 2
abbrev s_Sheet_init : Stmt := inClass (top 14) 0
abbrev s__law_homes : Stmt := top 27
abbrev s__law_got : Stmt := top 28
abbrev s_Sheet_homes : Stmt := inClass (top 14) 4
abbrev s_Sheet_pieces : Stmt := inClass (top 14) 5
abbrev s_Sheetask_home : Stmt := inClass (top 14) 11
abbrev s_Sheetask_piece : Stmt := inClass (top 14) 12
abbrev s_Sheet_got : Stmt := inClass (top 14) 6
abbrev s_Sheet_yarn : Stmt := inClass (top 14) 8
abbrev s_Sheet_makers : Stmt := inClass (top 14) 9
abbrev s__law_made : Stmt := top 26
abbrev s_Sheet_waste : Stmt := inClass (top 14) 7
abbrev s_Sheet_made_by : Stmt := inClass (top 14) 10
abbrev s_rise_in : Stmt := top 4
abbrev s_want_more : Stmt := top 5
abbrev s_must_put : Stmt := top 3
abbrev s_put_more : Stmt := top 6
abbrev s_bars : Stmt := top 2
abbrev s__law_free : Stmt := top 23
abbrev s__law_waste : Stmt := top 29
abbrev s__law_bars : Stmt := top 30
abbrev s__law_fair : Stmt := top 31
abbrev s_law : Stmt := top 32
theorem sc__law_pen : FnScope ["script", "cell"] ["script"] (defScope s__law_pen) := ⟨rfl, rfl, rfl, by decide +kernel, rfl, by decide +kernel, by decide +kernel⟩
theorem sc__law_draw : FnScope ["pen", "many", "digit", "at", "cell", "number", "again"] ["pen", "many"] (defScope s__law_draw) := ⟨rfl, rfl, rfl, by decide +kernel, rfl, by decide +kernel, by decide +kernel⟩
theorem sc__law_names : FnScope ["pen", "many", "letters", "word", "k", "at", "first", "by", "cut", "found", "tail"] ["pen", "many"] (defScope s__law_names) := ⟨rfl, rfl, rfl, by decide +kernel, rfl, by decide +kernel, by decide +kernel⟩
theorem sc__law_titles : FnScope ["pen", "names", "many", "some"] ["pen", "names", "many"] (defScope s__law_titles) := ⟨rfl, rfl, rfl, by decide +kernel, rfl, by decide +kernel, by decide +kernel⟩
theorem sc__law_makers : FnScope ["pen", "homes", "left", "found", "k"] ["pen", "homes"] (defScope s__law_makers) := ⟨rfl, rfl, rfl, by decide +kernel, rfl, by decide +kernel, by decide +kernel⟩
theorem sc__law_span : FnScope ["pen", "wide", "least"] ["pen", "wide"] (defScope s__law_span) := ⟨rfl, rfl, rfl, by decide +kernel, rfl, by decide +kernel, by decide +kernel⟩
theorem sc__law_around : FnScope ["pen", "many", "wide"] ["pen", "many"] (defScope s__law_around) := ⟨rfl, rfl, rfl, by decide +kernel, rfl, by decide +kernel, by decide +kernel⟩
theorem sc__law_fitted : FnScope ["pen", "homes", "a_pieces", "wide", "names", "rows", "title", "shares", "makers", "home", "got", "a_gives", "lack", "many", "maker", "drams", "part", "told", "piece"] ["pen", "homes", "a_pieces", "wide"] (defScope s__law_fitted) := ⟨rfl, rfl, rfl, by decide +kernel, rfl, by decide +kernel, by decide +kernel⟩
theorem sc_Span_init : FnScope ["self", "least", "most"] ["self", "least", "most"] (defScope s_Span_init) := ⟨rfl, rfl, rfl, by decide +kernel, rfl, by decide +kernel, by decide +kernel⟩
theorem sc_Span_eq : FnScope ["self", "other"] ["self", "other"] (defScope s_Span_eq) := ⟨rfl, rfl, rfl, by decide +kernel, rfl, by decide +kernel, by decide +kernel⟩
theorem sc_Span_plus : FnScope ["self", "other"] ["self", "other"] (defScope s_Span_plus) := ⟨rfl, rfl, rfl, by decide +kernel, rfl, by decide +kernel, by decide +kernel⟩
theorem sc_copied : FnScope ["span"] ["span"] (defScope s_copied) := ⟨rfl, rfl, rfl, by decide +kernel, rfl, by decide +kernel, by decide +kernel⟩
theorem sc_Sheetadd_give : FnScope ["self", "home", "got", "waste"] ["self", "home", "got", "waste"] (defScope s_Sheetadd_give) := ⟨rfl, rfl, rfl, by decide +kernel, rfl, by decide +kernel, by decide +kernel⟩
theorem sc_Sheetadd_maker : FnScope ["self", "piece", "home"] ["self", "piece", "home"] (defScope s_Sheetadd_maker) := ⟨rfl, rfl, rfl, by decide +kernel, rfl, by decide +kernel, by decide +kernel⟩
theorem sc_Sheetadd_piece : FnScope ["self", "name", "yarn", "makers", "home"] ["self", "name", "yarn", "makers"] (defScope s_Sheetadd_piece) := ⟨rfl, rfl, rfl, by decide +kernel, rfl, by decide +kernel, by decide +kernel⟩
theorem sc_Sheet_init : FnScope ["self", "gives", "pieces", "home", "got", "waste", "name", "yarn", "makers"] ["self", "gives", "pieces"] (defScope s_Sheet_init) := ⟨rfl, rfl, rfl, by decide +kernel, rfl, by decide +kernel, by decide +kernel⟩
theorem sc__law_homes : FnScope ["raw", "home", "span", "waste"] ["raw"] (defScope s__law_homes) := ⟨rfl, rfl, rfl, by decide +kernel, rfl, by decide +kernel, by decide +kernel⟩
theorem sc__law_got : FnScope ["raw", "home", "some", "other", "span", "waste"] ["raw", "home"] (defScope s__law_got) := ⟨rfl, rfl, rfl, by decide +kernel, rfl, by decide +kernel, by decide +kernel⟩
theorem sc_Sheet_homes : FnScope ["self"] ["self"] (defScope s_Sheet_homes) := ⟨rfl, rfl, rfl, by decide +kernel, rfl, by decide +kernel, by decide +kernel⟩
theorem sc_Sheet_pieces : FnScope ["self"] ["self"] (defScope s_Sheet_pieces) := ⟨rfl, rfl, rfl, by decide +kernel, rfl, by decide +kernel, by decide +kernel⟩
theorem sc_Sheetask_home : FnScope ["self", "home"] ["self", "home"] (defScope s_Sheetask_home) := ⟨rfl, rfl, rfl, by decide +kernel, rfl, by decide +kernel, by decide +kernel⟩
theorem sc_Sheetask_piece : FnScope ["self", "piece"] ["self", "piece"] (defScope s_Sheetask_piece) := ⟨rfl, rfl, rfl, by decide +kernel, rfl, by decide +kernel, by decide +kernel⟩
theorem sc_Sheet_got : FnScope ["self", "home"] ["self", "home"] (defScope s_Sheet_got) := ⟨rfl, rfl, rfl, by decide +kernel, rfl, by decide +kernel, by decide +kernel⟩
theorem sc_Sheet_yarn : FnScope ["self", "piece"] ["self", "piece"] (defScope s_Sheet_yarn) := ⟨rfl, rfl, rfl, by decide +kernel, rfl, by decide +kernel, by decide +kernel⟩
theorem sc_Sheet_makers : FnScope ["self", "piece"] ["self", "piece"] (defScope s_Sheet_makers) := ⟨rfl, rfl, rfl, by decide +kernel, rfl, by decide +kernel, by decide +kernel⟩
theorem sc__law_made : FnScope ["raw", "a_gives", "home", "span", "waste", "a_pieces", "title", "makers"] ["raw"] (defScope s__law_made) := ⟨rfl, rfl, rfl, by decide +kernel, rfl, by decide +kernel, by decide +kernel⟩
theorem sc_Sheet_waste : FnScope ["self", "home"] ["self", "home"] (defScope s_Sheet_waste) := ⟨rfl, rfl, rfl, by decide +kernel, rfl, by decide +kernel, by decide +kernel⟩
theorem sc_Sheet_made_by : FnScope ["self", "home"] ["self", "home"] (defScope s_Sheet_made_by) := ⟨rfl, rfl, rfl, by decide +kernel, rfl, by decide +kernel, by decide +kernel⟩
theorem sc_rise_in : FnScope ["names", "known", "name"] ["names", "known"] (defScope s_rise_in) := ⟨rfl, rfl, rfl, by decide +kernel, rfl, by decide +kernel, by decide +kernel⟩
theorem sc_want_more : FnScope ["sheet", "pieces", "makers", "piece", "home", "least"] ["sheet", "pieces"] (defScope s_want_more) := ⟨rfl, rfl, rfl, by decide +kernel, rfl, by decide +kernel, by decide +kernel⟩
theorem sc_must_put : FnScope ["sheet", "home"] ["sheet", "home"] (defScope s_must_put) := ⟨rfl, rfl, rfl, by decide +kernel, rfl, by decide +kernel, by decide +kernel⟩
theorem sc_put_more : FnScope ["sheet", "homes", "made", "home", "piece", "least"] ["sheet", "homes"] (defScope s_put_more) := ⟨rfl, rfl, rfl, by decide +kernel, rfl, by decide +kernel, by decide +kernel⟩
theorem sc_bars : FnScope ["sheet", "paper", "fair", "word", "names"] ["sheet", "paper", "fair"] (defScope s_bars) := ⟨rfl, rfl, rfl, by decide +kernel, rfl, by decide +kernel, by decide +kernel⟩
theorem sc__law_free : FnScope ["pen", "homes", "a_pieces", "wide", "names", "a_gives", "home", "titles", "title"] ["pen", "homes", "a_pieces", "wide"] (defScope s__law_free) := ⟨rfl, rfl, rfl, by decide +kernel, rfl, by decide +kernel, by decide +kernel⟩
theorem sc__law_waste : FnScope ["raw", "home", "other", "span", "waste"] ["raw", "home"] (defScope s__law_waste) := ⟨rfl, rfl, rfl, by decide +kernel, rfl, by decide +kernel, by decide +kernel⟩
theorem sc__law_bars : FnScope ["raw", "paper", "fair", "word", "names", "some", "row", "makers", "home", "must"] ["raw", "paper", "fair"] (defScope s__law_bars) := ⟨rfl, rfl, rfl, by decide +kernel, rfl, by decide +kernel, by decide +kernel⟩
theorem sc__law_fair : FnScope ["pen", "raw", "names", "found", "home", "gone"] ["pen", "raw", "names"] (defScope s__law_fair) := ⟨rfl, rfl, rfl, by decide +kernel, rfl, by decide +kernel, by decide +kernel⟩
theorem sc_law : FnScope ["script", "pen", "turn", "wide", "raw", "sheet", "again", "names", "home", "paper", "fair", "kept", "found"] ["script"] (defScope s_law) := ⟨rfl, rfl, rfl, by decide +kernel, rfl, by decide +kernel, by decide +kernel⟩
theorem nf_Span_least_most : ¬ (("least" : Str) = "most") := by decide +kernel
theorem nf_Span_most_least : ¬ (("most" : Str) = "least") := by decide +kernel
def fs_Span (v_least v_most : V) : List (Str × V) := putF "most" v_most (putF "least" v_least ([]))
theorem fs_Span_least (v_least v_most : V) : (fs_Span v_least v_most).lookup ("least" : Str) = some v_least := by
  unfold fs_Span
  rw [lookup_putF, if_neg nf_Span_least_most]
  rw [lookup_putF, if_pos rfl]
theorem fs_Span_most (v_least v_most : V) : (fs_Span v_least v_most).lookup ("most" : Str) = some v_most := by
  unfold fs_Span
  rw [lookup_putF, if_pos rfl]
theorem fs_Span_no (v_least v_most : V) {m : Str} (h_least : ¬ m = "least") (h_most : ¬ m = "most") : (fs_Span v_least v_most).lookup m = none := by
  unfold fs_Span
  rw [lookup_putF, if_neg h_most, lookup_putF, if_neg h_least]
  all_goals rfl
theorem nf_Sheet__got__waste : ¬ (("_got" : Str) = "_waste") := by decide +kernel
theorem nf_Sheet__got__yarn : ¬ (("_got" : Str) = "_yarn") := by decide +kernel
theorem nf_Sheet__got__makers : ¬ (("_got" : Str) = "_makers") := by decide +kernel
theorem nf_Sheet__got__made_by : ¬ (("_got" : Str) = "_made_by") := by decide +kernel
theorem nf_Sheet__waste__got : ¬ (("_waste" : Str) = "_got") := by decide +kernel
theorem nf_Sheet__waste__yarn : ¬ (("_waste" : Str) = "_yarn") := by decide +kernel
theorem nf_Sheet__waste__makers : ¬ (("_waste" : Str) = "_makers") := by decide +kernel
theorem nf_Sheet__waste__made_by : ¬ (("_waste" : Str) = "_made_by") := by decide +kernel
theorem nf_Sheet__yarn__got : ¬ (("_yarn" : Str) = "_got") := by decide +kernel
theorem nf_Sheet__yarn__waste : ¬ (("_yarn" : Str) = "_waste") := by decide +kernel
theorem nf_Sheet__yarn__makers : ¬ (("_yarn" : Str) = "_makers") := by decide +kernel
theorem nf_Sheet__yarn__made_by : ¬ (("_yarn" : Str) = "_made_by") := by decide +kernel
theorem nf_Sheet__makers__got : ¬ (("_makers" : Str) = "_got") := by decide +kernel
theorem nf_Sheet__makers__waste : ¬ (("_makers" : Str) = "_waste") := by decide +kernel
theorem nf_Sheet__makers__yarn : ¬ (("_makers" : Str) = "_yarn") := by decide +kernel
theorem nf_Sheet__makers__made_by : ¬ (("_makers" : Str) = "_made_by") := by decide +kernel
theorem nf_Sheet__made_by__got : ¬ (("_made_by" : Str) = "_got") := by decide +kernel
theorem nf_Sheet__made_by__waste : ¬ (("_made_by" : Str) = "_waste") := by decide +kernel
theorem nf_Sheet__made_by__yarn : ¬ (("_made_by" : Str) = "_yarn") := by decide +kernel
theorem nf_Sheet__made_by__makers : ¬ (("_made_by" : Str) = "_makers") := by decide +kernel
def fs_Sheet (v__got v__waste v__yarn v__makers v__made_by : V) : List (Str × V) := putF "_made_by" v__made_by (putF "_makers" v__makers (putF "_yarn" v__yarn (putF "_waste" v__waste (putF "_got" v__got ([])))))
theorem fs_Sheet__got (v__got v__waste v__yarn v__makers v__made_by : V) : (fs_Sheet v__got v__waste v__yarn v__makers v__made_by).lookup ("_got" : Str) = some v__got := by
  unfold fs_Sheet
  rw [lookup_putF, if_neg nf_Sheet__got__made_by]
  rw [lookup_putF, if_neg nf_Sheet__got__makers]
  rw [lookup_putF, if_neg nf_Sheet__got__yarn]
  rw [lookup_putF, if_neg nf_Sheet__got__waste]
  rw [lookup_putF, if_pos rfl]
theorem fs_Sheet__waste (v__got v__waste v__yarn v__makers v__made_by : V) : (fs_Sheet v__got v__waste v__yarn v__makers v__made_by).lookup ("_waste" : Str) = some v__waste := by
  unfold fs_Sheet
  rw [lookup_putF, if_neg nf_Sheet__waste__made_by]
  rw [lookup_putF, if_neg nf_Sheet__waste__makers]
  rw [lookup_putF, if_neg nf_Sheet__waste__yarn]
  rw [lookup_putF, if_pos rfl]
theorem fs_Sheet__yarn (v__got v__waste v__yarn v__makers v__made_by : V) : (fs_Sheet v__got v__waste v__yarn v__makers v__made_by).lookup ("_yarn" : Str) = some v__yarn := by
  unfold fs_Sheet
  rw [lookup_putF, if_neg nf_Sheet__yarn__made_by]
  rw [lookup_putF, if_neg nf_Sheet__yarn__makers]
  rw [lookup_putF, if_pos rfl]
theorem fs_Sheet__makers (v__got v__waste v__yarn v__makers v__made_by : V) : (fs_Sheet v__got v__waste v__yarn v__makers v__made_by).lookup ("_makers" : Str) = some v__makers := by
  unfold fs_Sheet
  rw [lookup_putF, if_neg nf_Sheet__makers__made_by]
  rw [lookup_putF, if_pos rfl]
theorem fs_Sheet__made_by (v__got v__waste v__yarn v__makers v__made_by : V) : (fs_Sheet v__got v__waste v__yarn v__makers v__made_by).lookup ("_made_by" : Str) = some v__made_by := by
  unfold fs_Sheet
  rw [lookup_putF, if_pos rfl]
theorem fs_Sheet_no (v__got v__waste v__yarn v__makers v__made_by : V) {m : Str} (h__got : ¬ m = "_got") (h__waste : ¬ m = "_waste") (h__yarn : ¬ m = "_yarn") (h__makers : ¬ m = "_makers") (h__made_by : ¬ m = "_made_by") : (fs_Sheet v__got v__waste v__yarn v__makers v__made_by).lookup m = none := by
  unfold fs_Sheet
  rw [lookup_putF, if_neg h__made_by, lookup_putF, if_neg h__makers, lookup_putF, if_neg h__yarn, lookup_putF, if_neg h__waste, lookup_putF, if_neg h__got]
  all_goals rfl
structure Txt (K : PySem.W.Frag) (mg : Str → Option Value) where
  C_Span : Addr
  C_Sheet : Addr
  f__law_pen : Addr
  fd__law_pen : FuncData
  f__law_draw : Addr
  fd__law_draw : FuncData
  f__law_names : Addr
  fd__law_names : FuncData
  f__law_titles : Addr
  fd__law_titles : FuncData
  f__law_makers : Addr
  fd__law_makers : FuncData
  f__law_span : Addr
  fd__law_span : FuncData
  f__law_around : Addr
  fd__law_around : FuncData
  f__law_fitted : Addr
  fd__law_fitted : FuncData
  f_Span_init : Addr
  fd_Span_init : FuncData
  f_Span_eq : Addr
  fd_Span_eq : FuncData
  f_Span_plus : Addr
  fd_Span_plus : FuncData
  f_copied : Addr
  fd_copied : FuncData
  f_Sheetadd_give : Addr
  fd_Sheetadd_give : FuncData
  f_Sheetadd_maker : Addr
  fd_Sheetadd_maker : FuncData
  f_Sheetadd_piece : Addr
  fd_Sheetadd_piece : FuncData
  f_Sheet_init : Addr
  fd_Sheet_init : FuncData
  f__law_homes : Addr
  fd__law_homes : FuncData
  f__law_got : Addr
  fd__law_got : FuncData
  f_Sheet_homes : Addr
  fd_Sheet_homes : FuncData
  f_Sheet_pieces : Addr
  fd_Sheet_pieces : FuncData
  f_Sheetask_home : Addr
  fd_Sheetask_home : FuncData
  f_Sheetask_piece : Addr
  fd_Sheetask_piece : FuncData
  f_Sheet_got : Addr
  fd_Sheet_got : FuncData
  f_Sheet_yarn : Addr
  fd_Sheet_yarn : FuncData
  f_Sheet_makers : Addr
  fd_Sheet_makers : FuncData
  f__law_made : Addr
  fd__law_made : FuncData
  f_Sheet_waste : Addr
  fd_Sheet_waste : FuncData
  f_Sheet_made_by : Addr
  fd_Sheet_made_by : FuncData
  f_rise_in : Addr
  fd_rise_in : FuncData
  f_want_more : Addr
  fd_want_more : FuncData
  f_must_put : Addr
  fd_must_put : FuncData
  f_put_more : Addr
  fd_put_more : FuncData
  f_bars : Addr
  fd_bars : FuncData
  f__law_free : Addr
  fd__law_free : FuncData
  f__law_waste : Addr
  fd__law_waste : FuncData
  f__law_bars : Addr
  fd__law_bars : FuncData
  f__law_fair : Addr
  fd__law_fair : FuncData
  f_law : Addr
  fd_law : FuncData
  mgc_Span : mg "Span" = some (.ref C_Span)
  cl_Span : Cls K C_Span
  na_Span_least : NoAttr K C_Span "least"
  na_Span_most : NoAttr K C_Span "most"
  mk_Span : Mk K C_Span f_Span_init
  ne_Span : PySem.W.findIn K (.ref C_Span) "__ne__" = some (some (.builtin "object.__ne__"))
  ha_Span : PySem.W.findIn K (.ref C_Span) "__class__" = some (some (.builtin "object.__class__"))
  mo_Span : PySem.W.mroIn K C_Span (.type "object") = some true
  nF_Span_own : PySem.W.notFirst K C_Span (.ref C_Span) = true
  ki_Span_own : PySem.W.kitOne K (.ref C_Span) (.ref C_Span) = some true
  mgc_Sheet : mg "Sheet" = some (.ref C_Sheet)
  cl_Sheet : Cls K C_Sheet
  na_Sheet__got : NoAttr K C_Sheet "_got"
  na_Sheet__waste : NoAttr K C_Sheet "_waste"
  na_Sheet__yarn : NoAttr K C_Sheet "_yarn"
  na_Sheet__makers : NoAttr K C_Sheet "_makers"
  na_Sheet__made_by : NoAttr K C_Sheet "_made_by"
  mk_Sheet : Mk K C_Sheet f_Sheet_init
  ha_Sheet : PySem.W.findIn K (.ref C_Sheet) "__class__" = some (some (.builtin "object.__class__"))
  mo_Sheet : PySem.W.mroIn K C_Sheet (.type "object") = some true
  nF_Sheet_own : PySem.W.notFirst K C_Sheet (.ref C_Sheet) = true
  ki_Sheet_own : PySem.W.kitOne K (.ref C_Sheet) (.ref C_Sheet) = some true
  hn : PySem.W.specialIn K (.builtin "object.__class__") "__get__" = some (some (.builtin "getset_descriptor.__get__"))
  ht : PySem.W.takesIn K (.builtin "object.__class__") = some true
  mg__law_pen : mg "_law_pen" = some (.ref f__law_pen)
  F__law_pen : FunD K "_law_pen" "_law_pen" (defArgs s__law_pen) (defBody s__law_pen) (defScope s__law_pen) [] [] f__law_pen fd__law_pen
  mg__law_draw : mg "_law_draw" = some (.ref f__law_draw)
  F__law_draw : FunD K "_law_draw" "_law_draw" (defArgs s__law_draw) (defBody s__law_draw) (defScope s__law_draw) [] [] f__law_draw fd__law_draw
  mg__law_names : mg "_law_names" = some (.ref f__law_names)
  F__law_names : FunD K "_law_names" "_law_names" (defArgs s__law_names) (defBody s__law_names) (defScope s__law_names) [] [] f__law_names fd__law_names
  mg__law_titles : mg "_law_titles" = some (.ref f__law_titles)
  F__law_titles : FunD K "_law_titles" "_law_titles" (defArgs s__law_titles) (defBody s__law_titles) (defScope s__law_titles) [] [] f__law_titles fd__law_titles
  mg__law_makers : mg "_law_makers" = some (.ref f__law_makers)
  F__law_makers : FunD K "_law_makers" "_law_makers" (defArgs s__law_makers) (defBody s__law_makers) (defScope s__law_makers) [] [] f__law_makers fd__law_makers
  mg__law_span : mg "_law_span" = some (.ref f__law_span)
  F__law_span : FunD K "_law_span" "_law_span" (defArgs s__law_span) (defBody s__law_span) (defScope s__law_span) [] [] f__law_span fd__law_span
  mg__law_around : mg "_law_around" = some (.ref f__law_around)
  F__law_around : FunD K "_law_around" "_law_around" (defArgs s__law_around) (defBody s__law_around) (defScope s__law_around) [] [] f__law_around fd__law_around
  mg__law_fitted : mg "_law_fitted" = some (.ref f__law_fitted)
  F__law_fitted : FunD K "_law_fitted" "_law_fitted" (defArgs s__law_fitted) (defBody s__law_fitted) (defScope s__law_fitted) [] [] f__law_fitted fd__law_fitted
  m_Span_init : Meth K C_Span "__init__" f_Span_init
  F_Span_init : FunD K "__init__" "Span.__init__" (defArgs s_Span_init) (defBody s_Span_init) (defScope s_Span_init) [.non] [] f_Span_init fd_Span_init
  m_Span_eq : Meth K C_Span "__eq__" f_Span_eq
  F_Span_eq : FunD K "__eq__" "Span.__eq__" (defArgs s_Span_eq) (defBody s_Span_eq) (defScope s_Span_eq) [] [] f_Span_eq fd_Span_eq
  m_Span_plus : Meth K C_Span "plus" f_Span_plus
  F_Span_plus : FunD K "plus" "Span.plus" (defArgs s_Span_plus) (defBody s_Span_plus) (defScope s_Span_plus) [] [] f_Span_plus fd_Span_plus
  mg_copied : mg "copied" = some (.ref f_copied)
  F_copied : FunD K "copied" "copied" (defArgs s_copied) (defBody s_copied) (defScope s_copied) [] [] f_copied fd_copied
  m_Sheetadd_give : Meth K C_Sheet "_add_give" f_Sheetadd_give
  F_Sheetadd_give : FunD K "_add_give" "Sheet._add_give" (defArgs s_Sheetadd_give) (defBody s_Sheetadd_give) (defScope s_Sheetadd_give) [] [] f_Sheetadd_give fd_Sheetadd_give
  m_Sheetadd_maker : Meth K C_Sheet "_add_maker" f_Sheetadd_maker
  F_Sheetadd_maker : FunD K "_add_maker" "Sheet._add_maker" (defArgs s_Sheetadd_maker) (defBody s_Sheetadd_maker) (defScope s_Sheetadd_maker) [] [] f_Sheetadd_maker fd_Sheetadd_maker
  m_Sheetadd_piece : Meth K C_Sheet "_add_piece" f_Sheetadd_piece
  F_Sheetadd_piece : FunD K "_add_piece" "Sheet._add_piece" (defArgs s_Sheetadd_piece) (defBody s_Sheetadd_piece) (defScope s_Sheetadd_piece) [] [] f_Sheetadd_piece fd_Sheetadd_piece
  m_Sheet_init : Meth K C_Sheet "__init__" f_Sheet_init
  F_Sheet_init : FunD K "__init__" "Sheet.__init__" (defArgs s_Sheet_init) (defBody s_Sheet_init) (defScope s_Sheet_init) [.non, .non] [] f_Sheet_init fd_Sheet_init
  mg__law_homes : mg "_law_homes" = some (.ref f__law_homes)
  F__law_homes : FunD K "_law_homes" "_law_homes" (defArgs s__law_homes) (defBody s__law_homes) (defScope s__law_homes) [] [] f__law_homes fd__law_homes
  mg__law_got : mg "_law_got" = some (.ref f__law_got)
  F__law_got : FunD K "_law_got" "_law_got" (defArgs s__law_got) (defBody s__law_got) (defScope s__law_got) [] [] f__law_got fd__law_got
  m_Sheet_homes : Meth K C_Sheet "homes" f_Sheet_homes
  F_Sheet_homes : FunD K "homes" "Sheet.homes" (defArgs s_Sheet_homes) (defBody s_Sheet_homes) (defScope s_Sheet_homes) [] [] f_Sheet_homes fd_Sheet_homes
  m_Sheet_pieces : Meth K C_Sheet "pieces" f_Sheet_pieces
  F_Sheet_pieces : FunD K "pieces" "Sheet.pieces" (defArgs s_Sheet_pieces) (defBody s_Sheet_pieces) (defScope s_Sheet_pieces) [] [] f_Sheet_pieces fd_Sheet_pieces
  m_Sheetask_home : Meth K C_Sheet "_ask_home" f_Sheetask_home
  F_Sheetask_home : FunD K "_ask_home" "Sheet._ask_home" (defArgs s_Sheetask_home) (defBody s_Sheetask_home) (defScope s_Sheetask_home) [] [] f_Sheetask_home fd_Sheetask_home
  m_Sheetask_piece : Meth K C_Sheet "_ask_piece" f_Sheetask_piece
  F_Sheetask_piece : FunD K "_ask_piece" "Sheet._ask_piece" (defArgs s_Sheetask_piece) (defBody s_Sheetask_piece) (defScope s_Sheetask_piece) [] [] f_Sheetask_piece fd_Sheetask_piece
  m_Sheet_got : Meth K C_Sheet "got" f_Sheet_got
  F_Sheet_got : FunD K "got" "Sheet.got" (defArgs s_Sheet_got) (defBody s_Sheet_got) (defScope s_Sheet_got) [] [] f_Sheet_got fd_Sheet_got
  m_Sheet_yarn : Meth K C_Sheet "yarn" f_Sheet_yarn
  F_Sheet_yarn : FunD K "yarn" "Sheet.yarn" (defArgs s_Sheet_yarn) (defBody s_Sheet_yarn) (defScope s_Sheet_yarn) [] [] f_Sheet_yarn fd_Sheet_yarn
  m_Sheet_makers : Meth K C_Sheet "makers" f_Sheet_makers
  F_Sheet_makers : FunD K "makers" "Sheet.makers" (defArgs s_Sheet_makers) (defBody s_Sheet_makers) (defScope s_Sheet_makers) [] [] f_Sheet_makers fd_Sheet_makers
  mg__law_made : mg "_law_made" = some (.ref f__law_made)
  F__law_made : FunD K "_law_made" "_law_made" (defArgs s__law_made) (defBody s__law_made) (defScope s__law_made) [] [] f__law_made fd__law_made
  m_Sheet_waste : Meth K C_Sheet "waste" f_Sheet_waste
  F_Sheet_waste : FunD K "waste" "Sheet.waste" (defArgs s_Sheet_waste) (defBody s_Sheet_waste) (defScope s_Sheet_waste) [] [] f_Sheet_waste fd_Sheet_waste
  m_Sheet_made_by : Meth K C_Sheet "made_by" f_Sheet_made_by
  F_Sheet_made_by : FunD K "made_by" "Sheet.made_by" (defArgs s_Sheet_made_by) (defBody s_Sheet_made_by) (defScope s_Sheet_made_by) [] [] f_Sheet_made_by fd_Sheet_made_by
  mg_rise_in : mg "rise_in" = some (.ref f_rise_in)
  F_rise_in : FunD K "rise_in" "rise_in" (defArgs s_rise_in) (defBody s_rise_in) (defScope s_rise_in) [] [] f_rise_in fd_rise_in
  mg_want_more : mg "want_more" = some (.ref f_want_more)
  F_want_more : FunD K "want_more" "want_more" (defArgs s_want_more) (defBody s_want_more) (defScope s_want_more) [] [] f_want_more fd_want_more
  mg_must_put : mg "must_put" = some (.ref f_must_put)
  F_must_put : FunD K "must_put" "must_put" (defArgs s_must_put) (defBody s_must_put) (defScope s_must_put) [] [] f_must_put fd_must_put
  mg_put_more : mg "put_more" = some (.ref f_put_more)
  F_put_more : FunD K "put_more" "put_more" (defArgs s_put_more) (defBody s_put_more) (defScope s_put_more) [] [] f_put_more fd_put_more
  mg_bars : mg "bars" = some (.ref f_bars)
  F_bars : FunD K "bars" "bars" (defArgs s_bars) (defBody s_bars) (defScope s_bars) [.non] [] f_bars fd_bars
  mg__law_free : mg "_law_free" = some (.ref f__law_free)
  F__law_free : FunD K "_law_free" "_law_free" (defArgs s__law_free) (defBody s__law_free) (defScope s__law_free) [] [] f__law_free fd__law_free
  mg__law_waste : mg "_law_waste" = some (.ref f__law_waste)
  F__law_waste : FunD K "_law_waste" "_law_waste" (defArgs s__law_waste) (defBody s__law_waste) (defScope s__law_waste) [] [] f__law_waste fd__law_waste
  mg__law_bars : mg "_law_bars" = some (.ref f__law_bars)
  F__law_bars : FunD K "_law_bars" "_law_bars" (defArgs s__law_bars) (defBody s__law_bars) (defScope s__law_bars) [] [] f__law_bars fd__law_bars
  mg__law_fair : mg "_law_fair" = some (.ref f__law_fair)
  F__law_fair : FunD K "_law_fair" "_law_fair" (defArgs s__law_fair) (defBody s__law_fair) (defScope s__law_fair) [] [] f__law_fair fd__law_fair
  mg_law : mg "law" = some (.ref f_law)
  F_law : FunD K "law" "law" (defArgs s_law) (defBody s_law) (defScope s_law) [] [] f_law fd_law
  b_abs : mg "abs" = none
  b_bool : mg "bool" = none
  b_isinstance : mg "isinstance" = none
  b_len : mg "len" = none
  b_list : mg "list" = none
  b_max : mg "max" = none
  b_min : mg "min" = none
  b_range : mg "range" = none
  b_set : mg "set" = none
  b_sorted : mg "sorted" = none
  b_sum : mg "sum" = none
  b_tuple : mg "tuple" = none
section
variable {P : Program} {w : World} {K : PySem.W.Frag} {mg : Str → Option Value} {base : Heap}
theorem Txt.b__law_pen (T : Txt K mg) : Binds K T.fd__law_pen ["script"] [] := T.F__law_pen.bindsN (ps := ["script"]) fun _ _ _ _ _ _ us hl => match us, hl with | [_], _ => rfl
theorem Txt.b__law_draw (T : Txt K mg) : Binds K T.fd__law_draw ["pen", "many"] [] := T.F__law_draw.bindsN (ps := ["pen", "many"]) fun _ _ _ _ _ _ us hl => match us, hl with | [_, _], _ => rfl
theorem Txt.b__law_names (T : Txt K mg) : Binds K T.fd__law_names ["pen", "many"] [] := T.F__law_names.bindsN (ps := ["pen", "many"]) fun _ _ _ _ _ _ us hl => match us, hl with | [_, _], _ => rfl
theorem Txt.b__law_titles (T : Txt K mg) : Binds K T.fd__law_titles ["pen", "names", "many"] [] := T.F__law_titles.bindsN (ps := ["pen", "names", "many"]) fun _ _ _ _ _ _ us hl => match us, hl with | [_, _, _], _ => rfl
theorem Txt.b__law_makers (T : Txt K mg) : Binds K T.fd__law_makers ["pen", "homes"] [] := T.F__law_makers.bindsN (ps := ["pen", "homes"]) fun _ _ _ _ _ _ us hl => match us, hl with | [_, _], _ => rfl
theorem Txt.b__law_span (T : Txt K mg) : Binds K T.fd__law_span ["pen", "wide"] [] := T.F__law_span.bindsN (ps := ["pen", "wide"]) fun _ _ _ _ _ _ us hl => match us, hl with | [_, _], _ => rfl
theorem Txt.b__law_around (T : Txt K mg) : Binds K T.fd__law_around ["pen", "many"] [] := T.F__law_around.bindsN (ps := ["pen", "many"]) fun _ _ _ _ _ _ us hl => match us, hl with | [_, _], _ => rfl
theorem Txt.b__law_fitted (T : Txt K mg) : Binds K T.fd__law_fitted ["pen", "homes", "a_pieces", "wide"] [] := T.F__law_fitted.bindsN (ps := ["pen", "homes", "a_pieces", "wide"]) fun _ _ _ _ _ _ us hl => match us, hl with | [_, _, _, _], _ => rfl
theorem Txt.b_Span_eq (T : Txt K mg) : Binds K T.fd_Span_eq ["self", "other"] [] := T.F_Span_eq.bindsN (ps := ["self", "other"]) fun _ _ _ _ _ _ us hl => match us, hl with | [_, _], _ => rfl
theorem Txt.b_Span_plus (T : Txt K mg) : Binds K T.fd_Span_plus ["self", "other"] [] := T.F_Span_plus.bindsN (ps := ["self", "other"]) fun _ _ _ _ _ _ us hl => match us, hl with | [_, _], _ => rfl
theorem Txt.b_copied (T : Txt K mg) : Binds K T.fd_copied ["span"] [] := T.F_copied.bindsN (ps := ["span"]) fun _ _ _ _ _ _ us hl => match us, hl with | [_], _ => rfl
theorem Txt.b_Sheetadd_give (T : Txt K mg) : Binds K T.fd_Sheetadd_give ["self", "home", "got", "waste"] [] := T.F_Sheetadd_give.bindsN (ps := ["self", "home", "got", "waste"]) fun _ _ _ _ _ _ us hl => match us, hl with | [_, _, _, _], _ => rfl
theorem Txt.b_Sheetadd_maker (T : Txt K mg) : Binds K T.fd_Sheetadd_maker ["self", "piece", "home"] [] := T.F_Sheetadd_maker.bindsN (ps := ["self", "piece", "home"]) fun _ _ _ _ _ _ us hl => match us, hl with | [_, _, _], _ => rfl
theorem Txt.b_Sheetadd_piece (T : Txt K mg) : Binds K T.fd_Sheetadd_piece ["self", "name", "yarn", "makers"] [] := T.F_Sheetadd_piece.bindsN (ps := ["self", "name", "yarn", "makers"]) fun _ _ _ _ _ _ us hl => match us, hl with | [_, _, _, _], _ => rfl
theorem Txt.b__law_homes (T : Txt K mg) : Binds K T.fd__law_homes ["raw"] [] := T.F__law_homes.bindsN (ps := ["raw"]) fun _ _ _ _ _ _ us hl => match us, hl with | [_], _ => rfl
theorem Txt.b__law_got (T : Txt K mg) : Binds K T.fd__law_got ["raw", "home"] [] := T.F__law_got.bindsN (ps := ["raw", "home"]) fun _ _ _ _ _ _ us hl => match us, hl with | [_, _], _ => rfl
theorem Txt.b_Sheet_homes (T : Txt K mg) : Binds K T.fd_Sheet_homes ["self"] [] := T.F_Sheet_homes.bindsN (ps := ["self"]) fun _ _ _ _ _ _ us hl => match us, hl with | [_], _ => rfl
theorem Txt.b_Sheet_pieces (T : Txt K mg) : Binds K T.fd_Sheet_pieces ["self"] [] := T.F_Sheet_pieces.bindsN (ps := ["self"]) fun _ _ _ _ _ _ us hl => match us, hl with | [_], _ => rfl
theorem Txt.b_Sheetask_home (T : Txt K mg) : Binds K T.fd_Sheetask_home ["self", "home"] [] := T.F_Sheetask_home.bindsN (ps := ["self", "home"]) fun _ _ _ _ _ _ us hl => match us, hl with | [_, _], _ => rfl
theorem Txt.b_Sheetask_piece (T : Txt K mg) : Binds K T.fd_Sheetask_piece ["self", "piece"] [] := T.F_Sheetask_piece.bindsN (ps := ["self", "piece"]) fun _ _ _ _ _ _ us hl => match us, hl with | [_, _], _ => rfl
theorem Txt.b_Sheet_got (T : Txt K mg) : Binds K T.fd_Sheet_got ["self", "home"] [] := T.F_Sheet_got.bindsN (ps := ["self", "home"]) fun _ _ _ _ _ _ us hl => match us, hl with | [_, _], _ => rfl
theorem Txt.b_Sheet_yarn (T : Txt K mg) : Binds K T.fd_Sheet_yarn ["self", "piece"] [] := T.F_Sheet_yarn.bindsN (ps := ["self", "piece"]) fun _ _ _ _ _ _ us hl => match us, hl with | [_, _], _ => rfl
theorem Txt.b_Sheet_makers (T : Txt K mg) : Binds K T.fd_Sheet_makers ["self", "piece"] [] := T.F_Sheet_makers.bindsN (ps := ["self", "piece"]) fun _ _ _ _ _ _ us hl => match us, hl with | [_, _], _ => rfl
theorem Txt.b__law_made (T : Txt K mg) : Binds K T.fd__law_made ["raw"] [] := T.F__law_made.bindsN (ps := ["raw"]) fun _ _ _ _ _ _ us hl => match us, hl with | [_], _ => rfl
theorem Txt.b_Sheet_waste (T : Txt K mg) : Binds K T.fd_Sheet_waste ["self", "home"] [] := T.F_Sheet_waste.bindsN (ps := ["self", "home"]) fun _ _ _ _ _ _ us hl => match us, hl with | [_, _], _ => rfl
theorem Txt.b_Sheet_made_by (T : Txt K mg) : Binds K T.fd_Sheet_made_by ["self", "home"] [] := T.F_Sheet_made_by.bindsN (ps := ["self", "home"]) fun _ _ _ _ _ _ us hl => match us, hl with | [_, _], _ => rfl
theorem Txt.b_rise_in (T : Txt K mg) : Binds K T.fd_rise_in ["names", "known"] [] := T.F_rise_in.bindsN (ps := ["names", "known"]) fun _ _ _ _ _ _ us hl => match us, hl with | [_, _], _ => rfl
theorem Txt.b_want_more (T : Txt K mg) : Binds K T.fd_want_more ["sheet", "pieces"] [] := T.F_want_more.bindsN (ps := ["sheet", "pieces"]) fun _ _ _ _ _ _ us hl => match us, hl with | [_, _], _ => rfl
theorem Txt.b_must_put (T : Txt K mg) : Binds K T.fd_must_put ["sheet", "home"] [] := T.F_must_put.bindsN (ps := ["sheet", "home"]) fun _ _ _ _ _ _ us hl => match us, hl with | [_, _], _ => rfl
theorem Txt.b_put_more (T : Txt K mg) : Binds K T.fd_put_more ["sheet", "homes"] [] := T.F_put_more.bindsN (ps := ["sheet", "homes"]) fun _ _ _ _ _ _ us hl => match us, hl with | [_, _], _ => rfl
theorem Txt.b__law_free (T : Txt K mg) : Binds K T.fd__law_free ["pen", "homes", "a_pieces", "wide"] [] := T.F__law_free.bindsN (ps := ["pen", "homes", "a_pieces", "wide"]) fun _ _ _ _ _ _ us hl => match us, hl with | [_, _, _, _], _ => rfl
theorem Txt.b__law_waste (T : Txt K mg) : Binds K T.fd__law_waste ["raw", "home"] [] := T.F__law_waste.bindsN (ps := ["raw", "home"]) fun _ _ _ _ _ _ us hl => match us, hl with | [_, _], _ => rfl
theorem Txt.b__law_bars (T : Txt K mg) : Binds K T.fd__law_bars ["raw", "paper", "fair"] [] := T.F__law_bars.bindsN (ps := ["raw", "paper", "fair"]) fun _ _ _ _ _ _ us hl => match us, hl with | [_, _, _], _ => rfl
theorem Txt.b__law_fair (T : Txt K mg) : Binds K T.fd__law_fair ["pen", "raw", "names"] [] := T.F__law_fair.bindsN (ps := ["pen", "raw", "names"]) fun _ _ _ _ _ _ us hl => match us, hl with | [_, _, _], _ => rfl
theorem Txt.b_law (T : Txt K mg) : Binds K T.fd_law ["script"] [] := T.F_law.bindsN (ps := ["script"]) fun _ _ _ _ _ _ us hl => match us, hl with | [_], _ => rfl
theorem bd_Span_init_2 (T : Txt K mg) : ∃ ds, Vals [] ds ∧ Binds K T.fd_Span_init ["self", "least", "most"] ds := T.F_Span_init.binds1 (ps := ["self", "least", "most"]) 3 1 (by simp) rfl fun _ _ _ _ _ _ _ us its hl hi => match us, hl, its, hi with | [_, _, _], _, [_], _ => ⟨_, rfl, rfl⟩
theorem bd_Span_init_1 (T : Txt K mg) : ∃ ds, Vals [.non] ds ∧ Binds K T.fd_Span_init ["self", "least", "most"] ds := T.F_Span_init.binds1 (ps := ["self", "least", "most"]) 2 0 (by simp) rfl fun _ _ _ _ _ _ _ us its hl hi => match us, hl, its, hi with | [_, _], _, [_], _ => ⟨_, rfl, rfl⟩
def g_bd_Sheet_init_0_gives_pieces {α : Type} (us its ws : List α) : List α := (us.drop 0).take 1 ++ ((ws.drop 0).take 1 ++ ((ws.drop 1).take 1))
theorem bd_Sheet_init_0_gives_pieces (T : Txt K mg) : ∃ its : List Value, KBn K T.fd_Sheet_init ["self", "gives", "pieces"] 1 ["gives", "pieces"] (fun us ws => g_bd_Sheet_init_0_gives_pieces us its ws) (fun vs zs => g_bd_Sheet_init_0_gives_pieces vs [.non, .non] zs) :=
  T.F_Sheet_init.kbindsD (ps := ["self", "gives", "pieces"]) 1 ["gives", "pieces"] (fun us its ws => g_bd_Sheet_init_0_gives_pieces us its ws) (by simp) (fun r1 r2 r3 => ((r1.drop 0).take 1).append (((r3.drop 0).take 1).append ((r3.drop 1).take 1)))
    fun _ _ _ _ _ _ _ us its ws h1 h2 h3 => match us, h1, its, h2, ws, h3 with | [_], _, [_, _], _, [_, _], _ => ⟨_, rfl, rfl⟩
theorem bd_bars_3 (T : Txt K mg) : ∃ ds, Vals [] ds ∧ Binds K T.fd_bars ["sheet", "paper", "fair"] ds := T.F_bars.binds1 (ps := ["sheet", "paper", "fair"]) 3 1 (by simp) rfl fun _ _ _ _ _ _ _ us its hl hi => match us, hl, its, hi with | [_, _, _], _, [_], _ => ⟨_, rfl, rfl⟩
theorem bd_bars_2 (T : Txt K mg) : ∃ ds, Vals [.non] ds ∧ Binds K T.fd_bars ["sheet", "paper", "fair"] ds := T.F_bars.binds1 (ps := ["sheet", "paper", "fair"]) 2 0 (by simp) rfl fun _ _ _ _ _ _ _ us its hl hi => match us, hl, its, hi with | [_, _], _, [_], _ => ⟨_, rfl, rfl⟩
def sp__law_pen (T : Txt K mg) : Sp := fun vs H Q _ => spPen K vs H Q (fun _ _ _ => False)
theorem ok__law_pen (T : Txt K mg) : FnOk P w K mg base CX0 2 T.f__law_pen T.fd__law_pen ["script"] (sp__law_pen T) := by
  refine okD T.F__law_pen sc__law_pen (fun vs H Q E h => ?_) (fun cdv A outer s H vs Q E hr h => ?_)
  · obtain ⟨_, _, rfl, _⟩ := h; rfl
  · have hu := hu_of hr
    have hu64 := hr.units
    refine ⟨_, pss_one (ps_ret (pe_disp (pps_cons pe_str (pe_lc (own := [("cell", 1)]) (by rfl) sc__law_pen.nd (pi_list (pe_slice sl_list (pv 0) po_none (po_some pe_int))) (blkOk_by (own := [("cell", 1)]) (N := ["script", "cell"]) (sc := defScope s__law_pen) (by decide +kernel)) (fun _ _ _ _ _ => pg_name (i := 1) sc__law_pen.nd rfl (Or.inl rfl)) (fun _ _ _ _ _ => pts_nil) (fun _ _ _ _ _ => pv 1)) (pps_cons pe_str pe_int (pps_cons pe_str pe_int pps_nil))) (by rfl) (by rfl) (fun z => by cases z) (by decide))), ?_⟩
    obtain ⟨a, ns, rfl, hS, hlen, k⟩ := h
    intro p np
    have s0 : Same H (upd H p (.dK [])) := same_upd np
    refine ⟨_, rfl, _, rfl, a, _, rfl, s0.seq hS, ?_⟩
    intro q0 nq0
    obtain ⟨ms, ems, hms⟩ := cut_ints ns none (some 63)
    generalize hH1 : upd (upd H p (.dK [])) q0 (.lst (cutV (ns.map V.int) none (some 63))) = H1
    have s1 : Same (upd H p (.dK [])) H1 := by rw [← hH1]; exact same_upd nq0
    have e1 : H1 q0 = some (.lst (ms.map V.int)) := by rw [← hH1, ← ems]; exact upd_same
    have p1 : H1 p = some (.dK []) := s1 _ _ upd_same
    clear hH1
    refine ⟨q0, rfl, ⟨_, SqL.of e1⟩, fun D nD => ?_⟩
    refine lc_list (K := K) (a := q0) (xs := ms.map V.int) (fun i H' => ∃ acc : List Int, H' D = some (.lst (acc.map V.int)) ∧ acc.length ≤ i ∧ But D H1 H') ⟨[], upd_same, Nat.le_refl _, but_upd⟩
      (fun i H' hi ⟨acc, h1, h2, h3⟩ => SqL.of (h3 _ _ (ne_of_none e1 nD) e1)) ?_ ?_
    · rintro i x H' hi ⟨acc, h1, h2, h3⟩
      obtain ⟨n, hn, rfl⟩ := get_int hi
      refine ⟨rfl, ?_⟩
      have hil := (List.getElem?_eq_some_iff.mp hn).1
      refine ⟨_, rfl, _, h1, by rw [List.length_map]; exact small1000 (by omega), acc ++ [n], ?_, by rw [List.length_append]; exact Nat.add_le_add_right h2 1, h3.trans but_upd⟩
      rw [List.map_append]
      exact upd_same
    · rintro H' ⟨acc, h1, h2, h3⟩
      have p2 : H' p = some (.dK []) := h3 _ _ (ne_of_none p1 nD) p1
      rw [List.length_map] at h2
      refine ⟨p2, penD D 0 0, rfl, by show 3 ≤ 15; decide, ?_⟩
      have nDp : D ≠ p := fun e => by rw [e, p1] at nD; cases nD
      have sH : Same H (upd H' p (.dK (mergeK [] (penD D 0 0)))) := fun b o e => by
        rw [upd_ne (ne_of_none e np)]
        exact h3 _ _ (ne_of_none (s1 _ _ (s0 _ _ e)) nD) (s1 _ _ (s0 _ _ e))
      have mg3 : mergeK [] (penD D 0 0) = penD D 0 0 := pen_merge D
      rw [mg3] at sH ⊢
      exact k p _ np sH ⟨D, acc, 0, 0, upd_same, by rw [upd_ne nDp]; exact h1, by omega, Int.le_refl _, Int.le_refl _, Int.le_refl _⟩
def sp__law_draw (T : Txt K mg) : Sp := spG 1 Rdraw
theorem ok__law_draw (T : Txt K mg) : FnOk P w K mg base CX0 2 T.f__law_draw T.fd__law_draw ["pen", "many"] (sp__law_draw T) := by
  refine okD T.F__law_draw sc__law_draw (fun vs H Q E h => ?_) (fun cdv A outer s H vs Q E hr h => ?_)
  · exact spG_len h (fun ss A ⟨_, _, _, e, _⟩ => by rw [e]; rfl)
  · have hu := hu_of hr
    have hu64 := hr.units
    refine ⟨_, pss_cons (ps_if (pt_cmpR op_gt (pe_dget hu (pv 0) pe_str (fun _ _ => rfl)) pe_int (nomark _)) (pss_cons (ps_set (i := 2) sc__law_draw.nd rfl (Or.inl rfl) (pe_op op_mod (pe_dget hu (pv 0) pe_str (fun _ _ => rfl)) (pv 1)))
      (pss_cons (ps_dput hu (pv 0) pe_str (pe_op op_fdivY (pe_dget hu (pv 0) pe_str (fun _ _ => rfl)) (pv 1)) rfl)
      (pss_one (ps_ret (pv 2))))) pss_nil)
      (pss_cons (ps_set (i := 3) sc__law_draw.nd rfl (Or.inl rfl) (pe_dget hu (pv 0) pe_str (fun _ _ => rfl)))
      (pss_cons (ps_dput hu (pv 0) pe_str (pe_op op_add (pv 3) pe_int) rfl)
      (pss_cons (ps_set (i := 4) sc__law_draw.nd rfl (Or.inl rfl) (pe_op op_add (pe_op op_mul (pv 3) (pv 3)) pe_int))
      (pss_cons (ps_if (pt_cmpR (op_neD hu64) (pe_dget hu (pv 0) pe_str (fun _ _ => rfl)) (pe_lstY pa_nil) (nomark _)) (pss_one (ps_set (i := 4) sc__law_draw.nd rfl (Or.inl rfl) (pe_ix ix_list (pe_dget hu (pv 0) pe_str (fun _ _ => rfl)) (pe_op op_mod (pv 3) (pe_callB call_len_seq (by rfl) T.b_len PySem.boot_len (pa_cons (pe_dget hu (pv 0) pe_str (fun _ _ => rfl)) pa_nil))) (fun _ _ => rfl)))) pss_nil)
      (pss_cons (ps_if (PW.pt (pw_and (pt_cmpR op_lt (pv 3) (pe_callB call_len_seq (by rfl) T.b_len PySem.boot_len (pa_cons (pe_dget hu (pv 0) pe_str (fun _ _ => rfl)) pa_nil)) (nomark _)) (pw_and1 (pt_cmpR op_ge (pe_callB call_abs (by rfl) T.b_abs (by decide +kernel) (pa_cons (pv 4) pa_nil)) (pe_op op_pow pe_int pe_int) (nomark _))))) (pss_cons (ps_dput hu (pv 0) pe_str (pe_op op_fdivY (pe_callB call_abs (by rfl) T.b_abs (by decide +kernel) (pa_cons (pv 4) pa_nil)) (pv 1)) rfl)
      (pss_one (ps_ret (pe_op op_mod (pe_callB call_abs (by rfl) T.b_abs (by decide +kernel) (pa_cons (pv 4) pa_nil)) (pv 1))))) pss_nil)
      (pss_cons (ps_set (i := 5) sc__law_draw.nd rfl (Or.inl rfl) (pe_op op_mod (pe_op op_mul (pe_op op_add (pe_op op_add (pe_op op_mod (pv 4) pe_int) (pe_op op_mul pe_int (pv 3))) pe_int) pe_int) pe_int))
      (pss_cons (ps_for PassesOwn.never rfl (pi_range1 (by rfl) T.b_range (pa_cons pe_int pa_nil)) (pg_name (i := 6) sc__law_draw.nd rfl (Or.inl rfl)) (pss_cons (ps_set (i := 5) sc__law_draw.nd rfl (Or.inl rfl) (pe_op op_add (pe_op op_add (pe_op op_add (pe_op op_mul (pv 5) (pv 5)) (pe_op op_mul pe_int (pv 5))) (pv 3)) (pv 6)))
      (pss_one (ps_set (i := 5) sc__law_draw.nd rfl (Or.inl rfl) (pe_op op_mod (pv 5) pe_int)))))
      (pss_one (ps_ret (pe_op op_mod (pe_op op_fdivY (pv 5) pe_int) (pv 1))))))))))), ?_⟩
    replace h : spDrawC vs H Q (fun _ _ _ => False) := draw_old h
    obtain ⟨p, m, n, rfl, hP, hn, hm, hm2, k⟩ := h
    obtain ⟨c, ns, a, l, hd, hc, hlen, ha, han, hl⟩ := hP.ex
    have gl : ∀ H' : Hp, H' p = some (.dK (penD c a l)) → DGet H' p (.str "left") (some (.int l)) := fun H' e => by have z := DGet.k (k := Sum.inr "left") e; rw [pen_left] at z; exact z
    have ga : ∀ H' : Hp, H' p = some (.dK (penD c a l)) → DGet H' p (.str "at") (some (.int a)) := fun H' e => by have z := DGet.k (k := Sum.inr "at") e; rw [pen_at] at z; exact z
    have gc : ∀ (H' : Hp) x y, H' p = some (.dK (penD c x y)) → DGet H' p (.str "cells") (some (.ref c)) := fun H' x y e => by have z := DGet.k (k := Sum.inr "cells") e; rw [pen_cells] at z; exact z
    have ncp : c ≠ p := fun e => by rw [e, hd] at hc; cases hc
    have dl : ∀ (H' : Hp) x y z, H' p = some (.dK (penD c x y)) → DPut H' p (.str "left") (.int z) (upd H' p (.dK (penD c x z))) := fun H' x y z e => by
      have w := DPut.k (k := Sum.inr "left") (v := .int z) e (by show 3 < sizeLine; decide)
      rw [put_left] at w; exact w
    have da : ∀ (H' : Hp) x y z, H' p = some (.dK (penD c x y)) → DPut H' p (.str "at") (.int z) (upd H' p (.dK (penD c z y))) := fun H' x y z e => by
      have w := DPut.k (k := Sum.inr "at") (v := .int z) e (by show 3 < sizeLine; decide)
      rw [put_at] at w; exact w
    have fin : ∀ (d x y : Int) (H' : Hp), But p H H' → H' p = some (.dK (penD c x y)) → 0 ≤ x → x ≤ n + 1 → 0 ≤ y → 0 ≤ d → d < m → Q (.int d) H' := fun d x y H' b e h1 h2 h3 h4 h5 =>
      k d H' h4 h5 ⟨c, ns, x, y, e, b _ _ ncp hc, hlen, h1, h2, h3⟩ b (hP.kp b) (by unfold penCell; rw [e, hd]; rfl)
    refine ⟨_, rfl, p, _, rfl, gl _ hd, _, _, rfl, rfl, _, rfl, ?_⟩
    refine iteD (fun hl0 => ?_) (fun hl0 => ?_)
    · refine ⟨_, rfl, p, _, rfl, gl _ hd, _, rfl, _, _, rfl, rfl, hm, ?_⟩
      refine ⟨_, rfl, p, _, rfl, gl _ hd, _, rfl, _, _, rfl, rfl, ⟨hm, by omega⟩, ?_⟩
      refine ⟨_, rfl, p, _, rfl, dl _ _ _ _ hd, _, rfl, ?_⟩
      exact fin _ _ _ _ but_upd upd_same ha (by omega) (Int.ediv_nonneg hl (by omega)) (Int.emod_nonneg _ (by omega)) (Int.emod_lt_of_pos _ hm)
    · refine ⟨_, rfl, p, _, rfl, ga _ hd, ?_⟩
      refine ⟨_, rfl, _, _, rfl, rfl, _, rfl, p, _, rfl, da _ _ _ _ hd, ?_⟩
      generalize hH1 : upd H p (.dK (penD c (a + 1) l)) = H1
      have b1 : But p H H1 := by rw [← hH1]; exact but_upd
      have e1 : H1 p = some (.dK (penD c (a + 1) l)) := by rw [← hH1]; exact upd_same
      clear hH1
      have hc1 := b1 _ _ ncp hc
      have hsz : ns.length < sizeLine := Nat.lt_of_le_of_lt hlen (by decide)
      refine ⟨_, rfl, _, rfl, _, _, rfl, rfl, .inl ⟨by omega, by omega⟩, _, _, rfl, rfl, ?_⟩
      refine ⟨_, rfl, p, _, rfl, gc _ _ _ e1, Nat.zero_le _, fun q H2 nq s2 e2 => ?_⟩
      have e1' := s2 _ _ e1
      have hc2 := s2 _ _ hc1
      have b2 : But p H H2 := b1.trans (same_but s2)
      refine ⟨_, _, .lst (SqL.of hc2) (dp_ints ns), .lst (SqL.of e2) .nil, shaped_ints ns, shaped_nil, _, rfl, ?_⟩
      refine iteNe (fun hne => ?g1) (fun hne => ?g2)
      case' g1 =>
        have hpos : 0 < ns.length := by cases ns with | nil => exact absurd rfl hne | cons x r => simp
        have h0 : (0 : Int) ≤ a % (ns.length : Int) := Int.emod_nonneg _ (by omega)
        have h1 : a % (ns.length : Int) < (ns.length : Int) := Int.emod_lt_of_pos _ (by omega)
        obtain ⟨z, hz⟩ := atI_int (xs := ns.map V.int) rfl h0 h1
        refine ⟨_, rfl, p, _, rfl, gc _ _ _ e1', _, rfl, _, rfl, p, _, rfl, gc _ _ _ e1', c, _, rfl, .inl (SqL.of hc2), _, _, rfl, rfl, (by rw [List.length_map]; show (0 : Int) < (ns.length : Int); omega), c, _, _, _, rfl, rfl, SqL.of hc2, (by rw [List.length_map]; exact hz), ?_⟩
      all_goals
        -- the place is within the list, and the number great: its digits
        refine ⟨_, rfl, _, rfl, p, _, rfl, gc _ _ _ e1', c, _, rfl, .inl (SqL.of hc2), _, _, rfl, rfl, _, rfl, ?_⟩
        refine iteD (fun h1 => ?_) (fun h1 => ?_)
        · refine ⟨_, rfl, _, rfl, _, _, rfl, rfl, ⟨by decide, by decide, by decide⟩, _, _, rfl, rfl, _, rfl, ?_⟩
          refine iteD (fun h2 => ?_) (fun h2 => ?_)
          · refine ⟨_, rfl, _, rfl, _, rfl, _, _, rfl, rfl, ⟨hm, by omega⟩, _, rfl, p, _, rfl, dl _ _ _ _ e1', ?_⟩
            refine ⟨_, rfl, _, rfl, _, rfl, _, _, rfl, rfl, hm, ?_⟩
            exact fin _ _ _ _ (b2.trans but_upd) upd_same (by omega) (by omega) (Int.ediv_nonneg (absI _) (by omega)) (Int.emod_nonneg _ (by omega)) (Int.emod_lt_of_pos _ hm)
          · skip
            refine ⟨_, rfl, _, _, rfl, rfl, by show (0 : Int) < 4294967311; decide, _, rfl, _, _, rfl, rfl, .inl ⟨by decide, by decide⟩, _, _, rfl, rfl, _, _, rfl, rfl, _, _, rfl, rfl, .inr ⟨by decide, by decide⟩, _, _, rfl, rfl, by show (0 : Int) < 4294967311; decide, ?_⟩
            refine ⟨3, rfl, by decide, by decide, for_range (n := 3) (fun i σ H' => ∃ (v : Option V) (x : Int) (y z : Option V), σ = [some (.ref p), some (.int m), v, some (.int a), z, some (.int x), y] ∧ H' = H2 ∧ 0 ≤ x ∧ x < 4294967311)
              ⟨_, _, _, _, rfl, rfl, Int.emod_nonneg _ (by decide), Int.emod_lt_of_pos _ (by decide)⟩ ?_ ?_⟩
            · rintro i σ H' hi ⟨v, x, y, z, rfl, rfl, hx0, hx1⟩
              refine ⟨_, rfl, _, rfl, _, _, rfl, rfl, .inl ⟨by omega, by omega⟩, _, rfl, _, _, rfl, rfl, .inl ⟨by decide, by decide⟩, _, _, rfl, rfl, _, rfl, _, _, rfl, rfl, _, rfl, _, _, rfl, rfl, ?_⟩
              refine ⟨_, rfl, _, _, rfl, rfl, by show (0 : Int) < 4294967311; decide, ?_⟩
              exact ⟨_, _, _, _, rfl, rfl, Int.emod_nonneg _ (by decide), Int.emod_lt_of_pos _ (by decide)⟩
            · rintro σ H' ⟨v, x, y, z, rfl, rfl, hx0, hx1⟩
              refine ⟨_, rfl, _, _, rfl, rfl, ⟨by decide, by decide⟩, _, rfl, _, _, rfl, rfl, hm, ?_⟩
              exact fin _ _ _ _ b2 e1' (by omega) (by omega) hl (Int.emod_nonneg _ (by omega)) (Int.emod_lt_of_pos _ hm)
        · skip
          refine ⟨_, rfl, _, _, rfl, rfl, by show (0 : Int) < 4294967311; decide, _, rfl, _, _, rfl, rfl, .inl ⟨by decide, by decide⟩, _, _, rfl, rfl, _, _, rfl, rfl, _, _, rfl, rfl, .inr ⟨by decide, by decide⟩, _, _, rfl, rfl, by show (0 : Int) < 4294967311; decide, ?_⟩
          refine ⟨3, rfl, by decide, by decide, for_range (n := 3) (fun i σ H' => ∃ (v : Option V) (x : Int) (y z : Option V), σ = [some (.ref p), some (.int m), v, some (.int a), z, some (.int x), y] ∧ H' = H2 ∧ 0 ≤ x ∧ x < 4294967311)
            ⟨_, _, _, _, rfl, rfl, Int.emod_nonneg _ (by decide), Int.emod_lt_of_pos _ (by decide)⟩ ?_ ?_⟩
          · rintro i σ H' hi ⟨v, x, y, z, rfl, rfl, hx0, hx1⟩
            refine ⟨_, rfl, _, rfl, _, _, rfl, rfl, .inl ⟨by omega, by omega⟩, _, rfl, _, _, rfl, rfl, .inl ⟨by decide, by decide⟩, _, _, rfl, rfl, _, rfl, _, _, rfl, rfl, _, rfl, _, _, rfl, rfl, ?_⟩
            refine ⟨_, rfl, _, _, rfl, rfl, by show (0 : Int) < 4294967311; decide, ?_⟩
            exact ⟨_, _, _, _, rfl, rfl, Int.emod_nonneg _ (by decide), Int.emod_lt_of_pos _ (by decide)⟩
          · rintro σ H' ⟨v, x, y, z, rfl, rfl, hx0, hx1⟩
            refine ⟨_, rfl, _, _, rfl, rfl, ⟨by decide, by decide⟩, _, rfl, _, _, rfl, rfl, hm, ?_⟩
            exact fin _ _ _ _ b2 e1' (by omega) (by omega) hl (Int.emod_nonneg _ (by omega)) (Int.emod_lt_of_pos _ hm)
/-- a name's sign -/
def LowS (x : Str) : Prop := ∀ c ∈ x.cps.toList, 97 ≤ c ∧ c ≤ 122
/-- unlike names of low signs, of at most 24 of them -/
structure Nms (xs : List Str) : Prop where
  nd : xs.Nodup
  low : ∀ x ∈ xs, LowS x ∧ x.length ≤ 30
theorem lcR_all {α β : Type} {E : α → β → Prop} {xs : List α} {ys : List β} (h : LcR (fun _ b => b = true) E xs ys) : ys.length = xs.length ∧ ∀ y ∈ ys, ∃ x ∈ xs, E x y := by
  induction h with
  | nil => exact ⟨rfl, fun y h => by cases h⟩
  | @yes xs ys x y _ _ e ih =>
    refine ⟨by rw [List.length_append, List.length_append, ih.1]; rfl, fun z hz => ?_⟩
    rcases List.mem_append.mp hz with h | h
    · obtain ⟨w, m, q⟩ := ih.2 z h
      exact ⟨w, List.mem_append_left _ m, q⟩
    · rw [List.mem_singleton.mp h]
      exact ⟨x, List.mem_append_right _ List.mem_cons_self, e⟩
  | no _ b _ => cases b
def abc : Str := "abcdefghijklmnopqrstuvwxyz"
theorem abc_len : abc.length = 26 := by decide +kernel
theorem abc_all : ∀ i : Fin 26, abc.cps.toList[i.val]? = some (97 + i.val) := by decide +kernel
theorem abc_at {i : Int} {d : Nat} (h0 : 0 ≤ i) (h1 : i < 26) (e : atI abc.cps.toList i = some d) : (d : Int) = 97 + i := by
  obtain ⟨j, rfl⟩ : ∃ j : Nat, i = j := ⟨i.toNat, by omega⟩
  have hj : j < 26 := by omega
  have z : abc.cps.toList[j]? = some (97 + j) := abc_all ⟨j, hj⟩
  rw [atI_nat z] at e
  have e' : 97 + j = d := Option.some.inj e
  omega
theorem low_sgn {d : Nat} (h : 97 ≤ d ∧ d ≤ 122) : LowS (sgn d) := fun c hc => by
  have : c = d := by simpa [sgn] using hc
  rw [this]; exact h
theorem low_app {x y : Str} (hx : LowS x) (hy : LowS y) : LowS (x ++ y) := fun c hc => by
  have e : (x ++ y).cps.toList = x.cps.toList ++ y.cps.toList := TL.tl_append x y
  rw [e] at hc
  exact (List.mem_append.mp hc).elim (hx c) (hy c)
theorem cut_sub {z : Str} {lo hi : Option Int} {c : Nat} (h : c ∈ (cutS z lo hi).cps.toList) : c ∈ z.cps.toList := by
  unfold cutS at h
  simp only [List.toList_toArray] at h
  exact List.mem_of_mem_drop (List.mem_of_mem_take h)
theorem low_cut {z : Str} (h : LowS z) {lo hi : Option Int} : LowS (cutS z lo hi) := fun c hc => h c (cut_sub hc)
theorem join_low : ∀ {ys : List Str}, (∀ y ∈ ys, ∃ d, y = sgn d ∧ 97 ≤ d ∧ d ≤ 122) → LowS (Txt.join "" ys) ∧ (Txt.join "" ys).length = ys.length := by
  intro ys h
  have e : Txt.join "" ys = Str.join "" ys := beq_iff_eq.mp (join_plain_closes _ _)
  have t : ∀ {ys : List Str}, (∀ y ∈ ys, ∃ d, y = sgn d ∧ 97 ≤ d ∧ d ≤ 122) → TL.joinL [] (ys.map TL.tl) = (ys.map TL.tl).flatten := by
    intro ys h
    induction ys with
    | nil => rfl
    | cons a r ih =>
      cases r with
      | nil => simp [TL.joinL]
      | cons b r =>
        have ih' := ih fun y hy => h y (List.mem_cons_of_mem _ hy)
        simp only [List.map_cons] at ih' ⊢
        rw [TL.joinL, ih']
        simp
  have tl : (Txt.join "" ys).cps.toList = (ys.map TL.tl).flatten := by
    rw [e, show (Str.join "" ys).cps.toList = TL.tl (Str.join "" ys) from rfl, TL.tl_join]
    exact t h
  refine ⟨fun c hc => ?_, ?_⟩
  · rw [tl] at hc
    obtain ⟨l, hl, hc⟩ := List.mem_flatten.mp hc
    obtain ⟨y, hy, rfl⟩ := List.mem_map.mp hl
    obtain ⟨d, rfl, hd⟩ := h y hy
    exact low_sgn hd c hc
  · rw [show (Txt.join "" ys).length = (Txt.join "" ys).cps.toList.length from by simp [Str.length], tl]
    clear tl e
    induction ys with
    | nil => rfl
    | cons a r ih =>
      obtain ⟨d, rfl, hd⟩ := h a List.mem_cons_self
      rw [List.map_cons, List.flatten_cons, List.length_append, ih fun y hy => h y (List.mem_cons_of_mem _ hy), List.length_cons]
      show 1 + r.length = r.length + 1
      omega
theorem nm_sum {xs : List Int} {ys : List Str} (h : LcR (fun _ b => b = true) (fun x y => ∃ z i d, Is abc z ∧ (0 ≤ i ∧ i < 26) ∧ atI z.cps.toList i = some d ∧ y = sgn d) xs ys) (hl : xs.length ≤ 64) : (ys.map (·.length)).sum + ys.length * (("" : Str).length) ≤ 16777216 := by
  obtain ⟨l1, l2⟩ := lcR_all h
  have e : (ys.map (·.length)).sum = ys.length := by
    clear l1 h
    induction ys with
    | nil => rfl
    | cons y r ih =>
      obtain ⟨_, _, _, i, d, _, _, _, rfl⟩ := l2 y List.mem_cons_self
      rw [List.map_cons, List.sum_cons, ih fun y hy => l2 y (List.mem_cons_of_mem _ hy), List.length_cons]
      show 1 + r.length = r.length + 1
      omega
  rw [e, l1, show (("" : Str).length) = 0 from rfl]
  omega
theorem by_unlike {f b i j : Int} (hb : b = 3 ∨ b = 5 ∨ b = 7 ∨ b = 9 ∨ b = 11 ∨ b = 15) (h0 : 0 ≤ i) (h1 : i < j) (h2 : j < 26) (e : (f + b * i) % 26 = (f + b * j) % 26) : False := by
  rcases hb with rfl | rfl | rfl | rfl | rfl | rfl <;> omega
theorem app_inj {a t u : Str} {c d : Nat} (e : a ++ sgn c ++ t = a ++ sgn d ++ u) : c = d := by
  have z : (a ++ sgn c ++ t).cps.toList = (a ++ sgn d ++ u).cps.toList := by rw [e]
  have l : ∀ x y : Str, (x ++ y).cps.toList = x.cps.toList ++ y.cps.toList := fun x y => TL.tl_append x y
  rw [l, l, l, l, List.append_assoc, List.append_assoc] at z
  have z2 := List.append_cancel_left z
  have z3 : c :: t.cps.toList = d :: u.cps.toList := z2
  exact (List.cons.inj z3).1
def sp__law_names (T : Txt K mg) : Sp := spF 200 (fun m : Int => 0 ≤ m ∧ m ≤ 26) (fun m (xs : List Str) => (xs.length : Int) = m ∧ Nms xs) (fun m => [.pen, .v (sh m)])
theorem ok__law_names (T : Txt K mg) : FnOk P w K mg base CX0 3 T.f__law_names T.fd__law_names ["pen", "many"] (sp__law_names T) := by
  refine okD T.F__law_names sc__law_names (fun vs H Q E h => ?_) (fun cdv A outer s H vs Q E hr h => ?_)
  · exact spF_len h fun _ => rfl
  · have hu := hu_of hr
    have hu64 := hr.units
    refine ⟨_, pss_cons (ps_set (i := 2) sc__law_names.nd rfl (Or.inr rfl) pe_str)
      (pss_cons (ps_set (i := 3) sc__law_names.nd rfl (Or.inl rfl) (pe_join pe_str (pe_lc (own := [("k", 4)]) (by rfl) sc__law_names.nd (pi_range1 (by rfl) T.b_range (pa_cons (pe_op op_add pe_int (pe_call (ok__law_draw (P := P) (w := w) (base := base) T) (hr.mono (by decide)) rfl T.mg__law_draw T.F__law_draw.kp (T.b__law_draw) .nil pass0 (pa_cons (pv 0) (pa_cons pe_int pa_nil)))) pa_nil)) (blkOk_by (own := [("k", 4)]) (N := ["pen", "many", "letters", "word", "k", "at", "first", "by", "cut", "found", "tail"]) (sc := defScope s__law_names) (by decide +kernel)) (fun _ _ _ _ _ => pg_name (i := 4) sc__law_names.nd rfl (Or.inl rfl)) (fun _ _ _ _ _ => pts_nil) (fun _ _ _ _ _ => pe_ix ix_str (pv 2) (pe_call (ok__law_draw (P := P) (w := w) (base := base) T) (hr.mono (by decide)) rfl T.mg__law_draw T.F__law_draw.kp (T.b__law_draw) .nil pass0 (pa_cons (pv 0) (pa_cons pe_int pa_nil))) (fun _ _ => rfl)))))
      (pss_cons (ps_set (i := 5) sc__law_names.nd rfl (Or.inl rfl) (pe_call (ok__law_draw (P := P) (w := w) (base := base) T) (hr.mono (by decide)) rfl T.mg__law_draw T.F__law_draw.kp (T.b__law_draw) .nil pass0 (pa_cons (pv 0) (pa_cons (pe_callB call_len_str (by rfl) T.b_len PySem.boot_len (pa_cons (pv 3) pa_nil)) pa_nil))))
      (pss_cons (ps_set (i := 6) sc__law_names.nd rfl (Or.inl rfl) (pe_call (ok__law_draw (P := P) (w := w) (base := base) T) (hr.mono (by decide)) rfl T.mg__law_draw T.F__law_draw.kp (T.b__law_draw) .nil pass0 (pa_cons (pv 0) (pa_cons pe_int pa_nil))))
      (pss_cons (ps_set (i := 7) sc__law_names.nd rfl (Or.inl rfl) (pe_ix ix_list (pe_lstY (pa_cons pe_int (pa_cons pe_int (pa_cons pe_int (pa_cons pe_int (pa_cons pe_int (pa_cons pe_int pa_nil))))))) (pe_call (ok__law_draw (P := P) (w := w) (base := base) T) (hr.mono (by decide)) rfl T.mg__law_draw T.F__law_draw.kp (T.b__law_draw) .nil pass0 (pa_cons (pv 0) (pa_cons pe_int pa_nil))) (fun _ _ => rfl)))
      (pss_cons (ps_set (i := 8) sc__law_names.nd rfl (Or.inl rfl) (pe_call (ok__law_draw (P := P) (w := w) (base := base) T) (hr.mono (by decide)) rfl T.mg__law_draw T.F__law_draw.kp (T.b__law_draw) .nil pass0 (pa_cons (pv 0) (pa_cons pe_int pa_nil))))
      (pss_cons (ps_set (i := 9) sc__law_names.nd rfl (Or.inl rfl) (pe_lstY pa_nil))
      (pss_cons (ps_for PassesOwn.never rfl (pi_range1 (by rfl) T.b_range (pa_cons (pv 1) pa_nil)) (pg_name (i := 4) sc__law_names.nd rfl (Or.inl rfl)) (pss_cons (ps_set (i := 10) sc__law_names.nd rfl (Or.inl rfl) (pe_slice sl_str (pe_slice sl_str (pv 3) (po_some (pe_op op_add (pv 5) pe_int)) po_none) po_none (po_some (pe_ix ix_list (pe_lstY (pa_cons pe_int (pa_cons (pe_op op_mod (pv 4) pe_int) pa_nil))) (pv 8) (fun _ _ => rfl)))))
      (pss_one (ps_expr (pe_bm PySem.F.plainAttrs_list PySem.F.slot_list_append PySem.F.type_list_append mt_appendY (pv 9) (pa_cons (pe_op op_add_str (pe_op op_add_str (pe_slice sl_str (pv 3) po_none (po_some (pv 5))) (pe_ix ix_str (pv 2) (pe_op op_mod (pe_op op_add (pv 6) (pe_op op_mul (pv 7) (pv 4))) pe_int) (fun _ _ => rfl))) (pv 10)) pa_nil))))))
      (pss_one (ps_ret (pv 9)))))))))), ?_⟩
    clear hu hu64
    obtain ⟨B, m, ⟨m0, m1⟩, hn, hS, k⟩ := spF_start h ["pen", "many", "letters", "word", "k", "at", "first", "by", "cut", "found", "tail"] fun _ => ⟨rfl, rfl⟩
    have lim : (LIM : Nat) = 2 ^ 58 := rfl
    refine s_seq (s_set hS ev_str (by omega) fun x hx σ H hS => ?_)
    cases hx
    refine s_seq (s_set hS (en_join ev_str (ev_lcR (m := 64) (en_op (fun (i j : Int) => i + j) ev_int (ed_draw rfl ev_int ?_) (fun i j hi hj => rv_add)) ?_ (by decide) (ho_of rfl) (fun j hj x hx0 hx1 => ⟨_, (tg_name (by decide)), et_yes, (en_ixS (ev_var (α := Str) rfl) (ed_draw rfl ev_int ?_) ?_)⟩)) ?_) (by omega) fun word hword σ H hS => ?_)
    · decide
    · rintro j ⟨x, y, rfl, ⟨y0, y1⟩, rfl⟩; omega
    · decide
    · intro z i hz hi; cases hz; exact ⟨by decide, atI_some hi.1 (by exact Int.lt_of_lt_of_le hi.2 (by decide +kernel))⟩
    · rintro a ys rfl ⟨j, ⟨x, y, rfl, ⟨y0, y1⟩, rfl⟩, hl⟩; exact nm_sum hl (by rw [rngL_len]; omega)
    have hw : LowS word ∧ 1 ≤ word.length ∧ word.length ≤ 12 := by
      obtain ⟨a, ys, rfl, ⟨j, ⟨x, y, rfl, ⟨y0, y1⟩, rfl⟩, hl⟩, rfl⟩ := hword
      obtain ⟨l1, l2⟩ := lcR_all hl
      rw [rngL_len] at l1
      have z := join_low (ys := ys) fun y hy => by
        obtain ⟨_, _, _, i, d, rfl, ⟨i0, i1⟩, e, rfl⟩ := l2 y hy
        have := abc_at i0 i1 e
        exact ⟨d, rfl, by omega, by omega⟩
      exact ⟨z.1, by rw [z.2]; omega, by rw [z.2]; omega⟩
    obtain ⟨low, len1, len2⟩ := hw
    clear hword
    have sl : word.length ≤ sizeLine := Nat.le_trans len2 (by decide)
    refine s_seq (s_set hS (ed_draw rfl (ed_cb (ev_var (α := Str) rfl) (rv1_lenS ?_)) ?_) (by omega) fun at1 hat σ H hS => ?_)
    · exact sl
    · exact ⟨by omega, by omega⟩
    refine s_seq (s_set hS (ed_draw rfl ev_int ?_) (by omega) fun first hfirst σ H hS => ?_)
    · first | decide | omega | (simp; done) | (intro j hj; simp at hj; omega) | (intros; omega)
    refine s_seq (s_set hS (en_ixL (ed_lst (eld_cons ev_int (eld_cons ev_int (eld_cons ev_int (eld_cons ev_int (eld_cons ev_int (eld_cons ev_int (el_nil (α := Int)))))))) (show 6 ≤ sizeLine by decide)) (ed_draw rfl ev_int ?_) ?_) (by omega) fun by1 hby σ H hS => ?_)
    · decide
    · intro xs i hxs hi; cases hxs; exact atI_some hi.1 hi.2
    have hb : by1 = 3 ∨ by1 = 5 ∨ by1 = 7 ∨ by1 = 9 ∨ by1 = 11 ∨ by1 = 15 := by
      obtain ⟨xs, i, rfl, _, e⟩ := hby
      have := atI_mem e
      simpa using this
    refine s_seq (s_set hS (ed_draw rfl ev_int ?_) (by omega) fun cut hcut σ H hS => ?_)
    · first | decide | omega | (simp; done) | (intro j hj; simp at hj; omega) | (intros; omega)
    refine s_seq (s_own hS (evn_lst (el_nil (α := Sh)) ?_) (by omega) fun found hfound σ H hS => ?_)
    · intro xs e; cases e; decide
    cases hfound
    refine s_seq (s_forR (own := [4]) (cc := 0) hS (fun i ρ => ∃ (fs : List Str) (s1 s2 : Option Sl), fs.length = i ∧ (∀ n, n < i → ∃ t, LowS t ∧ t.length ≤ 12 ∧ ∃ d : Nat, (d : Int) = 97 + (first + by1 * n) % 26 ∧ fs[n]? = some (cutS word none (some at1) ++ sgn d ++ t)) ∧
        (∀ z, s1 ≠ some (.own z)) ∧ ρ = [some .pen, some (.v (sh m)), some (.v (sh abc)), some (.v (sh word)), s1, some (.v (sh at1)), some (.v (sh first)), some (.v (sh by1)), some (.v (sh cut)), some (.own (fs.map sh)), s2])
      (ev_var (α := Int) rfl) (by omega) (by omega) ⟨[], none, none, rfl, fun n h => by omega, fun z => by simp, rfl⟩ ?_ ?_)
    · rintro i ρi hi ⟨fs, s1, s2, l1, hfs, ns, rfl⟩
      refine ⟨_, (tg_name (by decide)), rfl, fun σ H hS N hN => ?_⟩
      refine s_seq (s_set hS (en_slS (ed_slS (ev_var (α := Str) rfl) (eo_some (ed_op (ev_var (α := Int) rfl) ev_int (rv_add))) eo_none ?_) eo_none (eo_some' (en_ixL (ed_lst (eld_cons ev_int (eld_cons (ed_op (ev_var (α := Int) rfl) ev_int (rv_mod ?_)) (el_nil (α := Int)))) (show 2 ≤ sizeLine by decide)) (ev_var (α := Int) rfl) ?_)) ?_) (by omega) fun tail htail σ H hS => ?_)
      · exact sl
      · decide
      · intro xs j e1 e2; cases e1; cases e2; exact atI_some hcut.1 hcut.2
      · intro z e; cases e; exact Nat.le_trans (cutS_length _ _ _) sl
      have ht : LowS tail ∧ tail.length ≤ 12 := by
        obtain ⟨xs, lo, hi', rfl, _, _, rfl⟩ := htail
        exact ⟨low_cut (low_cut low), Nat.le_trans (cutS_length _ _ _) (Nat.le_trans (cutS_length _ _ _) len2)⟩
      clear htail
      have hm : 0 ≤ (first + by1 * (0 + (i : Int))) % 26 ∧ (first + by1 * (0 + (i : Int))) % 26 < 26 := ⟨Int.emod_nonneg _ (by decide), Int.emod_lt_of_pos _ (by decide)⟩
      have sl13 : ∀ d : Nat, (cutS word none (some at1) ++ sgn d).length ≤ 13 := fun d => by
        have z := cutS_length word none (some at1)
        rw [str_len]
        show _ + 1 ≤ 13
        omega
      refine s_app hS rfl (en_op (fun i j => i ++ j) (en_op (fun i j => i ++ j) (ed_slS (ev_var (α := Str) rfl) eo_none (eo_some (ev_var (α := Int) rfl)) ?_) (en_ixS (ev_var (α := Str) rfl) (ed_op (ed_op (ev_var (α := Int) rfl) (ed_op (ev_var (α := Int) rfl) (ev_var (α := Int) rfl) (rv_mul ?_)) (rv_add)) ev_int (rv_mod ?_)) ?_) (fun i j hi hj => rv_addS ?_)) (ev_var (α := Str) rfl) (fun i j hi hj => rv_addS ?_)) (by omega) ?_ fun x hx H hS => ?_
      · exact sl
      · exact .inl (by omega)
      · decide
      · intro z j e1 e2; cases e1; cases e2; exact ⟨by decide, atI_some hm.1 (Int.lt_of_lt_of_le hm.2 (by decide +kernel))⟩
      · (cases hi; obtain ⟨_, _, d, _, _, _, rfl⟩ := hj; rw [← str_len]; exact Nat.le_trans (sl13 d) (by decide))
      · (cases hj; obtain ⟨y, z, rfl, ⟨_, _, d, _, _, _, rfl⟩, rfl⟩ := hi; exact Nat.le_trans (Nat.add_le_add (sl13 d) ht.2) (by decide))
      · (rw [List.length_map, l1]; exact Nat.lt_of_lt_of_le (show i < 27 by omega) (by decide))
      obtain ⟨p, t, ⟨y, z, rfl, ⟨_, j, d, rfl, rfl, hd, rfl⟩, rfl⟩, rfl, rfl⟩ := hx
      have hd' := abc_at hm.1 hm.2 hd
      refine hN σ H _ ⟨fs ++ [cutS word none (some at1) ++ sgn d ++ t], some (.v (sh (0 + (i : Int)))), some (.v (sh t)), by rw [List.length_append, l1]; rfl, fun n hn' => ?_, fun z => by simp, ?_⟩ (hS.up (by omega))
      · by_cases hni : n < i
        · obtain ⟨t, q1, q2, d', q3, q4⟩ := hfs n hni
          exact ⟨t, q1, q2, d', q3, by rw [List.getElem?_append_left (by rw [l1]; exact hni)]; exact q4⟩
        · have hni' : n = i := by omega
          subst hni'
          refine ⟨t, ht.1, ht.2, d, by rw [hd', Int.zero_add], ?_⟩
          rw [List.getElem?_append_right (by rw [l1]; exact Nat.le_refl _), l1, Nat.sub_self]
          rfl
      · rw [List.map_append]
        rfl
    · rintro ρ2 ⟨fs, s1, s2, l1, hfs, ns, rfl⟩ σ H hS
      refine s_retOwn hS rfl fun v H' e r => k v H' fs (e.mono (by omega)) ⟨by omega, ?_, fun x hx => ?_⟩ r
      · rw [List.nodup_iff_pairwise_ne, List.pairwise_iff_getElem]
        intro i j hi hj hij
        obtain ⟨t, _, _, d, q3, q4⟩ := hfs i (by omega)
        obtain ⟨u, _, _, d', q3', q4'⟩ := hfs j (by omega)
        rw [List.getElem?_eq_getElem hi] at q4
        rw [List.getElem?_eq_getElem hj] at q4'
        rw [Option.some.inj q4, Option.some.inj q4']
        intro e
        have := app_inj e
        exact by_unlike (f := first) (b := by1) (i := i) (j := j) hb (by omega) (by omega) (by omega) (by omega)
      · obtain ⟨n, hn', rfl⟩ := List.getElem_of_mem hx
        obtain ⟨t, q1, q2, d, q3, q4⟩ := hfs n (by omega)
        rw [List.getElem?_eq_getElem hn'] at q4
        rw [Option.some.inj q4]
        have hd : 97 ≤ d ∧ d ≤ 122 := by omega
        refine ⟨low_app (low_app (low_cut low) (low_sgn hd)) q1, ?_⟩
        have z := cutS_length word none (some at1)
        rw [str_len, str_len]
        show _ + 1 + _ ≤ 30
        omega
theorem nms_take {xs : List Str} (h : Nms xs) (k : Nat) : Nms (xs.take k) := ⟨h.nd.sublist (List.take_sublist _ _), fun x hx => h.low x (List.mem_of_mem_take hx)⟩
theorem cut_take {α : Type} {xs : List α} {m : Int} (h : 0 ≤ m) : cutL xs none (some m) = xs.take m.toNat := by
  unfold cutL
  have e1 : HT.sIx xs.length 0 none = 0 := rfl
  have e2 : HT.sIx xs.length xs.length (some m) = min m.toNat xs.length := by
    show (if m < 0 then (m + (xs.length : Int)).toNat else min m.toNat xs.length) = _
    rw [if_neg (by omega)]
  rw [e1, e2, List.drop_zero, Nat.sub_zero]
  rw [← List.take_eq_take_iff.mpr (show min m.toNat xs.length = min (min m.toNat xs.length) xs.length by omega)]
def sp__law_titles (T : Txt K mg) : Sp := spF 300 (fun t : List Str × Int => Nms t.1 ∧ 0 ≤ t.2 ∧ t.2 ≤ 26) (fun t (ys : List Str) => Nms ys ∧ (ys.length : Int) ≤ t.2) (fun t => [.pen, .v (sh t.1), .v (sh t.2)])
theorem ok__law_titles (T : Txt K mg) : FnOk P w K mg base CX0 4 T.f__law_titles T.fd__law_titles ["pen", "names", "many"] (sp__law_titles T) := by
  refine okD T.F__law_titles sc__law_titles (fun vs H Q E h => ?_) (fun cdv A outer s H vs Q E hr h => ?_)
  · exact spF_len h fun _ => rfl
  · have hu := hu_of hr
    have hu64 := hr.units
    refine ⟨_, pss_cons (ps_set (i := 3) sc__law_titles.nd rfl (Or.inl rfl) (pe_call (ok__law_names (P := P) (w := w) (base := base) T) (hr.mono (by decide)) rfl T.mg__law_names T.F__law_names.kp (T.b__law_names) .nil pass0 (pa_cons (pv 0) (pa_cons (pv 2) pa_nil))))
      (pss_one (ps_ret (pe_ifExp (pt_cmpR op_eq (pe_call (ok__law_draw (P := P) (w := w) (base := base) T) (hr.mono (by decide)) rfl T.mg__law_draw T.F__law_draw.kp (T.b__law_draw) .nil pass0 (pa_cons (pv 0) (pa_cons pe_int pa_nil))) pe_int (nomark _)) (pe_slice sl_list (pv 1) po_none (po_some (pv 2))) (pv 3)))), ?_⟩
    clear hu hu64
    obtain ⟨B, ⟨xs, m⟩, ⟨hx, m0, m1⟩, hn, hS, k⟩ := spF_start h ["pen", "names", "many", "some"] fun _ => ⟨rfl, rfl⟩
    refine s_seq (s_set hS (en_fn (α := (List Str)) _ (ead_pen rfl (ead_v (ev_var (α := Int) rfl) ea_nil)) ?_) (by omega) fun ys hys σ H hS => ?_)
    · exact ⟨m0, m1⟩
    refine s_ret hS (en_if (et_test (en_op (fun (i j : Int) => decide (i = j)) (ed_draw rfl ev_int ?_) ev_int (fun i j hi hj => rv_eqI))) (fun _ => (ed_slL (ev_var (α := (List Str)) rfl) eo_none (eo_some (ev_var (α := Int) rfl)))) (fun _ => (ev_var (α := (List Str)) rfl))) (by omega) fun v H' zs e hzs r => ?_
    · first | decide | omega | (simp; done) | (intro j hj; simp at hj; omega) | (intros; omega)
    refine k v H' zs (e.mono (by omega)) ?_ r
    rcases hzs with ⟨_, hz⟩ | ⟨_, hz⟩
    · cases hz
      rw [cut_take m0]
      exact ⟨nms_take hx _, by rw [List.length_take]; omega⟩
    · cases hz
      exact ⟨hys.2, by rw [hys.1]; omega⟩
theorem erase_map {α β : Type} {f : α → β} : ∀ (l : List α) (j : Nat), (l.map f).eraseIdx j = (l.eraseIdx j).map f
  | [], _ => rfl
  | _ :: _, 0 => rfl
  | a :: l, j + 1 => congrArg (f a :: ·) (erase_map l j)
structure MkOk (homes : List Str) (t : Tp Str) : Prop where
  nd : t.l.Nodup
  sub : ∀ x ∈ t.l, x ∈ homes
  pos : t.l ≠ []
  few : t.l.length ≤ 4
def sp__law_makers (T : Txt K mg) : Sp := spF 300 (fun xs : List Str => xs.Nodup ∧ xs ≠ [] ∧ xs.length ≤ 64) (fun xs => MkOk xs) (fun xs => [.pen, .v (sh xs)])
theorem ok__law_makers (T : Txt K mg) : FnOk P w K mg base CX0 3 T.f__law_makers T.fd__law_makers ["pen", "homes"] (sp__law_makers T) := by
  refine okD T.F__law_makers sc__law_makers (fun vs H Q E h => ?_) (fun cdv A outer s H vs Q E hr h => ?_)
  · exact spF_len h fun _ => rfl
  · have hu := hu_of hr
    have hu64 := hr.units
    refine ⟨_, pss_cons (ps_set (i := 2) sc__law_makers.nd rfl (Or.inl rfl) (pe_callTy call_list_of (by rfl) T.b_list (by decide +kernel) (pa_cons (pv 1) pa_nil)))
      (pss_cons (ps_set (i := 3) sc__law_makers.nd rfl (Or.inl rfl) (pe_lstY pa_nil))
      (pss_cons (ps_for PassesOwn.never rfl (pi_range1 (by rfl) T.b_range (pa_cons (pe_op op_add pe_int (pe_call (ok__law_draw (P := P) (w := w) (base := base) T) (hr.mono (by decide)) rfl T.mg__law_draw T.F__law_draw.kp (T.b__law_draw) .nil pass0 (pa_cons (pv 0) (pa_cons (pe_callB (call_min2 rfl) (by rfl) T.b_min (by decide +kernel) (pa_cons pe_int (pa_cons (pe_callB call_len_seq (by rfl) T.b_len PySem.boot_len (pa_cons (pv 1) pa_nil)) pa_nil))) pa_nil)))) pa_nil)) (pg_name (i := 4) sc__law_makers.nd rfl (Or.inl rfl)) (pss_one (ps_expr (pe_bm PySem.F.plainAttrs_list PySem.F.slot_list_append PySem.F.type_list_append mt_appendY (pv 3) (pa_cons (pe_bm PySem.F.plainAttrs_list PySem.F.slot_list_pop PySem.F.type_list_pop mt_popAt (pv 2) (pa_cons (pe_call (ok__law_draw (P := P) (w := w) (base := base) T) (hr.mono (by decide)) rfl T.mg__law_draw T.F__law_draw.kp (T.b__law_draw) .nil pass0 (pa_cons (pv 0) (pa_cons (pe_callB call_len_seq (by rfl) T.b_len PySem.boot_len (pa_cons (pv 2) pa_nil)) pa_nil))) pa_nil)) pa_nil)))))
      (pss_one (ps_ret (pe_callTy call_tuple_of (by rfl) T.b_tuple (by decide +kernel) (pa_cons (pv 3) pa_nil)))))), ?_⟩
    clear hu hu64
    have lim : (LIM : Nat) = 2 ^ 58 := rfl
    obtain ⟨B, xs, ⟨nd, ne, lx⟩, hn, hS, k⟩ := spF_start h ["pen", "homes", "left", "found", "k"] fun _ => ⟨rfl, rfl⟩
    have px : 1 ≤ xs.length := by cases xs with | nil => exact absurd rfl ne | cons a r => simp
    refine s_seq (s_own hS (evn_listL (ev_var (α := (List Str)) rfl)) (by omega) fun left hleft σ H hS => ?_)
    cases hleft
    refine s_seq (s_own hS (evn_lst (el_nil (α := Sh)) ?_) (by omega) fun found hfound σ H hS => ?_)
    · (intro ys e; cases e; decide)
    cases hfound
    have hmin : 1 ≤ (if (xs.length : Int) < 4 then (xs.length : Int) else 4) ∧ (if (xs.length : Int) < 4 then (xs.length : Int) else 4) ≤ 4 ∧ (if (xs.length : Int) < 4 then (xs.length : Int) else 4) ≤ xs.length := by split <;> omega
    refine s_seq (s_forRn (own := [4]) (cc := 1) (B := B) (A := fun z => 1 ≤ z ∧ z ≤ 4 ∧ z ≤ xs.length) hS (fun i ρ => ∃ (fs ls : List Str) (s1 : Option Sl), fs.length = i ∧ (fs ++ ls).Perm xs ∧ (∀ z, s1 ≠ some (.own z)) ∧
        ρ = [some .pen, some (.v (sh xs)), some (.own (ls.map sh)), some (.own (fs.map sh)), s1])
      (Ev.imp (en_op (fun (i j : Int) => i + j) ev_int (ed_draw rfl (ed_cb2 ev_int (ed_cb (ev_var (α := (List Str)) rfl) rv1_lenL)) ?_) (fun i j hi hj => rv_add)) (Nat.le_refl _) ?_) (by omega) (fun z hz => by omega) ⟨[], xs, none, rfl, List.Perm.refl _, fun z => by simp, rfl⟩ ?_ ?_)
    · (show 0 < _ ∧ _; omega)
    · rintro z ⟨x, y, rfl, ⟨y0, y1⟩, rfl⟩
      omega
    · rintro z i ρi hz hi ⟨fs, ls, s1, l1, pm, ns, rfl⟩
      have hl := pm.length_eq
      rw [List.length_append] at hl
      refine ⟨_, (tg_name (by decide)), rfl, fun σ H hS N hN => ?_⟩
      refine s_appPop (i := 3) (j := 2) hS rfl rfl (by decide) (ed_draw rfl (ev_lenOwn rfl) ?_) (by omega) ?_ ?_ ?_ fun d x hd hx H hS => ?_
      · rw [List.length_map]; omega
      · rw [List.length_map, l1]; exact Nat.lt_of_le_of_lt (show i ≤ 4 by omega) (by decide)
      · rw [List.length_map]; exact Nat.lt_of_le_of_lt (show ls.length ≤ 64 by omega) (by decide)
      · intro d hd
        rw [List.length_map] at hd ⊢
        exact hd
      · rw [List.getElem?_map] at hx
        cases hx' : ls[d.toNat]? with
        | none => rw [hx'] at hx; cases hx
        | some y =>
          rw [hx'] at hx
          have hx2 : sh y = x := Option.some.inj hx
          subst hx2
          have hlt : d.toNat < ls.length := (List.getElem?_eq_some_iff.mp hx').1
          refine hN σ H _ ⟨fs ++ [y], ls.eraseIdx d.toNat, some (.v (sh (0 + (i : Int)))), by rw [List.length_append, l1]; rfl, ?_, fun z => by simp, ?_⟩ (hS.up (by omega))
          · rw [List.append_assoc]
            exact (List.Perm.append_left fs (erase_perm ls d.toNat y hx')).trans pm
          · rw [List.map_append, show (ls.map sh).eraseIdx d.toNat = (ls.eraseIdx d.toNat).map sh from erase_map ls _]
            rfl
    · rintro z ρ2 hz ⟨fs, ls, s1, l1, pm, ns, rfl⟩ σ H hS
      refine s_ret hS (ev_tupOwn rfl) (by omega) fun v H' zs e hzs r => ?_
      cases hzs
      refine k v H' ⟨fs⟩ (e.mono (by omega)) ⟨?_, fun x hx => ?_, ?_, ?_⟩ r
      · exact ((pm.nodup_iff.mpr nd).sublist (List.sublist_append_left _ _))
      · exact pm.mem_iff.mp (List.mem_append_left _ hx)
      · intro z0
        have : fs = [] := z0
        rw [this] at l1
        simp at l1
        omega
      · show fs.length ≤ 4
        omega

def sp__law_span (T : Txt K mg) : Sp := spF 10 (fun w : Int => 0 < w ∧ w ≤ 2 ^ 56) (fun w (p : Int × Int) => 0 ≤ p.1 ∧ p.1 < w ∧ p.1 ≤ p.2 ∧ p.2 ≤ 2 * w + 3) (fun w => [.pen, .v (sh w)])
theorem ok__law_span (T : Txt K mg) : FnOk P w K mg base CX0 3 T.f__law_span T.fd__law_span ["pen", "wide"] (sp__law_span T) := by
  refine okD T.F__law_span sc__law_span (fun vs H Q E h => ?_) (fun cdv A outer s H vs Q E hr h => ?_)
  · exact spF_len h fun _ => rfl
  · have hu := hu_of hr
    have hu64 := hr.units
    refine ⟨_, pss_cons (ps_set (i := 2) sc__law_span.nd rfl (Or.inl rfl) (pe_call (ok__law_draw (P := P) (w := w) (base := base) T) (hr.mono (by decide)) rfl T.mg__law_draw T.F__law_draw.kp (T.b__law_draw) .nil pass0 (pa_cons (pv 0) (pa_cons (pv 1) pa_nil))))
      (pss_one (ps_ret (pe_tupY (pa_cons (pv 2) (pa_cons (pe_op op_add (pv 2) (pe_ix ix_list (pe_lstY (pa_cons pe_int (pa_cons (pe_call (ok__law_draw (P := P) (w := w) (base := base) T) (hr.mono (by decide)) rfl T.mg__law_draw T.F__law_draw.kp (T.b__law_draw) .nil pass0 (pa_cons (pv 0) (pa_cons pe_int pa_nil))) (pa_cons (pe_call (ok__law_draw (P := P) (w := w) (base := base) T) (hr.mono (by decide)) rfl T.mg__law_draw T.F__law_draw.kp (T.b__law_draw) .nil pass0 (pa_cons (pv 0) (pa_cons (pv 1) pa_nil))) pa_nil)))) (pe_call (ok__law_draw (P := P) (w := w) (base := base) T) (hr.mono (by decide)) rfl T.mg__law_draw T.F__law_draw.kp (T.b__law_draw) .nil pass0 (pa_cons (pv 0) (pa_cons pe_int pa_nil))) (fun _ _ => rfl))) pa_nil))))), ?_⟩
    clear hu hu64
    have lim : (LIM : Nat) = 2 ^ 58 := rfl
    obtain ⟨B, w, ⟨w0, w1⟩, hn, hS, k⟩ := spF_start h ["pen", "wide", "least"] fun _ => ⟨rfl, rfl⟩
    refine s_seq (s_set hS (ed_draw rfl (ev_var (α := Int) rfl) ?_) (by omega) fun least hleast σ H hS => ?_)
    · first | decide | omega | (simp; done) | (intro j hj; simp at hj; omega) | (intros; omega)
    refine s_ret hS (ev_pair (ev_var (α := Int) rfl) (en_op (fun (i j : Int) => i + j) (ev_var (α := Int) rfl) (en_ixL (ev_lst (el_cons ev_int (el_cons (ed_draw rfl ev_int ?_) (el_cons (ed_draw rfl (ev_var (α := Int) rfl) ?_) (el_nil (α := Int))))) ?_) (ed_draw rfl ev_int ?_) ?_) (fun i j hi hj => rv_add))) (by omega) fun v H' p e hp r => ?_
    · decide
    · omega
    · (rintro xs ⟨x, r, rfl, ⟨y, r2, _, ⟨z, r3, _, rfl, rfl⟩, rfl⟩, rfl⟩; show 3 ≤ sizeLine; decide)
    · decide
    · (rintro xs i ⟨x, r, rfl, ⟨y, r2, _, ⟨z, r3, _, rfl, rfl⟩, rfl⟩, rfl⟩ hi; exact atI_some hi.1 hi.2)
    refine k v H' p (e.mono (by omega)) ?_ r
    obtain ⟨e1, x, y, rfl, ⟨xs, i, ⟨_, _, rfl, ⟨y1, r2, hy1, ⟨z, r3, hz, rfl, rfl⟩, rfl⟩, rfl⟩, hi, he⟩, e2⟩ := hp
    have := atI_mem he
    simp at this
    rw [e1, e2]
    rcases this with rfl | rfl | rfl <;> omega
def sp__law_around (T : Txt K mg) : Sp := spF 10 (fun m : Int => 0 ≤ m ∧ m ≤ 2 ^ 56) (fun m (p : Int × Int) => 0 ≤ p.1 ∧ p.1 ≤ m ∧ m ≤ p.2 ∧ p.2 ≤ 2 * m + 9) (fun m => [.pen, .v (sh m)])
theorem ok__law_around (T : Txt K mg) : FnOk P w K mg base CX0 3 T.f__law_around T.fd__law_around ["pen", "many"] (sp__law_around T) := by
  refine okD T.F__law_around sc__law_around (fun vs H Q E h => ?_) (fun cdv A outer s H vs Q E hr h => ?_)
  · exact spF_len h fun _ => rfl
  · have hu := hu_of hr
    have hu64 := hr.units
    refine ⟨_, pss_cons (ps_set (i := 2) sc__law_around.nd rfl (Or.inl rfl) (pe_ix ix_list (pe_lstY (pa_cons pe_int (pa_cons pe_int (pa_cons pe_int (pa_cons pe_int (pa_cons (pv 1) pa_nil)))))) (pe_call (ok__law_draw (P := P) (w := w) (base := base) T) (hr.mono (by decide)) rfl T.mg__law_draw T.F__law_draw.kp (T.b__law_draw) .nil pass0 (pa_cons (pv 0) (pa_cons pe_int pa_nil))) (fun _ _ => rfl)))
      (pss_one (ps_ret (pe_tupY (pa_cons (pe_callB (call_max2 rfl) (by rfl) T.b_max (by decide +kernel) (pa_cons pe_int (pa_cons (pe_op op_sub (pv 1) (pe_call (ok__law_draw (P := P) (w := w) (base := base) T) (hr.mono (by decide)) rfl T.mg__law_draw T.F__law_draw.kp (T.b__law_draw) .nil pass0 (pa_cons (pv 0) (pa_cons (pe_op op_add (pv 2) pe_int) pa_nil)))) pa_nil))) (pa_cons (pe_op op_add (pv 1) (pe_call (ok__law_draw (P := P) (w := w) (base := base) T) (hr.mono (by decide)) rfl T.mg__law_draw T.F__law_draw.kp (T.b__law_draw) .nil pass0 (pa_cons (pv 0) (pa_cons (pe_op op_add (pv 2) pe_int) pa_nil)))) pa_nil))))), ?_⟩
    clear hu hu64
    have lim : (LIM : Nat) = 2 ^ 58 := rfl
    obtain ⟨B, m, ⟨m0, m1⟩, hn, hS, k⟩ := spF_start h ["pen", "many", "wide"] fun _ => ⟨rfl, rfl⟩
    refine s_seq (s_set hS (en_ixL (ed_lst (eld_cons ev_int (eld_cons ev_int (eld_cons ev_int (eld_cons ev_int (eld_cons (ev_var (α := Int) rfl) (el_nil (α := Int))))))) (show 5 ≤ sizeLine by decide)) (ed_draw rfl ev_int ?_) ?_) (by omega) fun wide hw σ H hS => ?_)
    · decide
    · (intro xs i e hi; cases e; exact atI_some hi.1 hi.2)
    have hw2 : wide = 0 ∨ wide = 2 ∨ wide = 9 ∨ wide = m := by
      obtain ⟨xs, i, rfl, _, e⟩ := hw
      have := atI_mem e
      simp at this
      rcases this with e | e | e | e <;> simp [e]
    refine s_ret hS (ev_pair (ev_cb2 ev_int (en_op (fun (i j : Int) => i - j) (ev_var (α := Int) rfl) (ed_draw rfl (ed_op (ev_var (α := Int) rfl) ev_int (rv_add)) ?_) (fun i j hi hj => rv_sub))) (en_op (fun (i j : Int) => i + j) (ev_var (α := Int) rfl) (ed_draw rfl (ed_op (ev_var (α := Int) rfl) ev_int (rv_add)) ?_) (fun i j hi hj => rv_add))) (by omega) fun v H' p e hp r => ?_
    · omega
    · omega
    refine k v H' p (e.mono (by omega)) ?_ r
    obtain ⟨⟨x, y, rfl, ⟨z, u, rfl, hu, rfl⟩, e1⟩, ⟨z', u', rfl, hu', e2⟩⟩ := hp
    rw [e1, e2]
    refine ⟨?_, ?_, ?_, ?_⟩
    · split <;> omega
    · split <;> omega
    · omega
    · omega
abbrev Give := T3 Str (Int × Int) Int
abbrev Piece := T3 Str (Int × Int) (Tp Str)
abbrev Raw := List Give × List Piece
abbrev Tale := Tp (Str × Int) × Tp (T3 Str Str Int)
def sumL (gs : List Give) (h : Str) : Int := ((gs.filter fun g => decide (g.a = h)).map fun g => g.b.1).sum
def sumM (gs : List Give) (h : Str) : Int := ((gs.filter fun g => decide (g.a = h)).map fun g => g.b.2).sum
def sumW (gs : List Give) (h : Str) : Int := ((gs.filter fun g => decide (g.a = h)).map fun g => g.c).sum
def putOf (ss : List (T3 Str Str Int)) (h : Str) : Int := ((ss.filter fun s => decide (s.b = h)).map fun s => s.c).sum
def yarnOf (ss : List (T3 Str Str Int)) (t : Str) : Int := ((ss.filter fun s => decide (s.a = t)).map fun s => s.c).sum
def partsOf (ps : List Piece) : List (Str × Str) := ps.flatMap fun p => p.c.l.map fun h => (p.a, h)
def homesOf (raw : Raw) : List Str := raw.1.map fun g => g.a
def NameOk (x : Str) : Prop := LowS x ∧ x.length ≤ 30
structure RawOk (ng np : Nat) (raw : Raw) : Prop where
  gl : raw.1.length ≤ ng
  pl : raw.2.length ≤ np
  gs : ∀ g ∈ raw.1, NameOk g.a ∧ 0 ≤ g.b.1 ∧ g.b.1 ≤ g.b.2 ∧ g.b.2 ≤ 2 ^ 58 ∧ 0 ≤ g.c ∧ g.c ≤ 2 ^ 58
  ps : ∀ p ∈ raw.2, NameOk p.a ∧ (0 ≤ p.b.1 ∧ p.b.1 ≤ p.b.2 ∧ p.b.2 ≤ 2 ^ 58) ∧ p.c.l.Nodup ∧ p.c.l ≠ [] ∧ p.c.l.length ≤ 4 ∧ ∀ h ∈ p.c.l, h ∈ homesOf raw
  nd : (raw.2.map fun p => p.a).Nodup
  ne : raw.1 ≠ []
structure Fits (raw : Raw) (t : Tale) : Prop where
  hs : t.1.l.map (·.1) = sset (homesOf raw)
  ps : t.2.l.map (fun s => (s.a, s.b)) = partsOf raw.2
  got : ∀ p ∈ t.1.l, sumL raw.1 p.1 ≤ p.2 ∧ p.2 ≤ sumM raw.1 p.1 ∧ putOf t.2.l p.1 ≤ p.2
  sh : ∀ s ∈ t.2.l, 0 ≤ s.c
  yn : ∀ p ∈ raw.2, p.b.1 ≤ yarnOf t.2.l p.a ∧ yarnOf t.2.l p.a ≤ p.b.2
structure FitOk (nh np : Nat) (x : Raw × Tale) : Prop where
  raw : RawOk (2 * nh) np x.1
  few : (sset (homesOf x.1)).length ≤ nh
  fit : Fits x.1 x.2
  small : (∀ p ∈ x.2.1.l, 0 ≤ p.2 ∧ p.2 ≤ 2 ^ 57) ∧ ∀ s ∈ x.2.2.l, s.c ≤ 2 ^ 50
theorem lcR_fst {α β : Type} {Q : β → Prop} {xs : List α} {ys : List (α × β)} (h : LcR (fun _ b => b = true) (fun x (p : α × β) => p.1 = x ∧ Q p.2) xs ys) : ys.map (·.1) = xs ∧ ∀ p ∈ ys, Q p.2 := by
  induction h with
  | nil => exact ⟨rfl, fun p m => by cases m⟩
  | yes _ _ e ih =>
    refine ⟨by rw [List.map_append, ih.1]; exact congrArg (_ ++ [·]) e.1, fun p m => ?_⟩
    rcases List.mem_append.mp m with m | m
    · exact ih.2 p m
    · rw [List.mem_singleton.mp m]; exact e.2
  | no _ b _ => cases b
def partsR (rows : List (Str × Tp Str)) : List (Str × Str) := rows.flatMap fun p => p.2.l.map fun h => (p.1, h)
theorem lcR_part {t : Str} {C : Int → Prop} {ms : List Str} {ys : List (T3 Str Str Int)} (h : LcR (fun _ b => b = true) (fun x (s : T3 Str Str Int) => s.a = t ∧ s.b = x ∧ C s.c) ms ys) :
    ys.map (fun s => (s.a, s.b)) = ms.map (fun h => (t, h)) ∧ ∀ s ∈ ys, C s.c := by
  induction h with
  | nil => exact ⟨rfl, fun p m => by cases m⟩
  | yes _ _ e ih =>
    refine ⟨by rw [List.map_append, ih.1, List.map_append, List.map_singleton, List.map_singleton, e.1, e.2.1], fun p m => ?_⟩
    rcases List.mem_append.mp m with m | m
    · exact ih.2 p m
    · rw [List.mem_singleton.mp m]; exact e.2.2
  | no _ b _ => cases b
theorem sum_bnd {α : Type} {f : α → Int} {w : Int} : ∀ {l : List α}, (∀ x ∈ l, 0 ≤ f x ∧ f x ≤ w) → 0 ≤ (l.map f).sum ∧ (l.map f).sum ≤ l.length * w
  | [], _ => by simp
  | x :: l, h => by
    have a := h x List.mem_cons_self
    have b := sum_bnd (l := l) fun y m => h y (List.mem_cons_of_mem _ m)
    have e : ((x :: l).length : Int) * w = l.length * w + w := by
      rw [List.length_cons]
      show ((l.length + 1 : Nat) : Int) * w = _
      rw [show ((l.length + 1 : Nat) : Int) = (l.length : Int) + 1 from by omega, Int.add_mul, Int.one_mul]
    rw [List.map_cons, List.sum_cons, e]
    omega
theorem fil_bnd {α : Type} {p : α → Bool} {f : α → Int} {w : Int} {l : List α} {n : Nat} (h : ∀ x ∈ l, 0 ≤ f x ∧ f x ≤ w) (hw : 0 ≤ w) (hn : l.length ≤ n) : 0 ≤ ((l.filter p).map f).sum ∧ ((l.filter p).map f).sum ≤ n * w := by
  have z := sum_bnd (l := l.filter p) (f := f) (w := w) fun x m => h x (List.mem_filter.mp m).1
  have l1 : (l.filter p).length ≤ n := Nat.le_trans (List.length_filter_le _ _) hn
  have l2 : ((l.filter p).length : Int) * w ≤ n * w := Int.mul_le_mul_of_nonneg_right (by omega) hw
  omega
theorem part_bnd {a b m : Int} (h0 : 0 ≤ a) (h1 : a < m) (b0 : 0 ≤ b) (b1 : b < 2) : 0 ≤ a * b ∧ a * b < m := by
  have : b = 0 ∨ b = 1 := by omega
  rcases this with rfl | rfl
  · rw [Int.mul_zero]; omega
  · rw [Int.mul_one]; omega
theorem sumL_app {gs : List Give} {g : Give} {h : Str} : sumL (gs ++ [g]) h = sumL gs h + if g.a = h then g.b.1 else 0 := by
  unfold sumL
  rw [List.filter_append, List.map_append, List.sum_append]
  by_cases e : g.a = h <;> simp [e]
theorem sumM_app {gs : List Give} {g : Give} {h : Str} : sumM (gs ++ [g]) h = sumM gs h + if g.a = h then g.b.2 else 0 := by
  unfold sumM
  rw [List.filter_append, List.map_append, List.sum_append]
  by_cases e : g.a = h <;> simp [e]
theorem sumL_none {gs : List Give} {h : Str} (q : ∀ g ∈ gs, g.a ≠ h) : sumL gs h = 0 := by
  unfold sumL
  rw [List.filter_eq_nil_iff.mpr fun g m => by simpa using q g m]
  rfl
theorem sumM_none {gs : List Give} {h : Str} (q : ∀ g ∈ gs, g.a ≠ h) : sumM gs h = 0 := by
  unfold sumM
  rw [List.filter_eq_nil_iff.mpr fun g m => by simpa using q g m]
  rfl
/-- what the gives come to so far -/
structure GvI (ss : List (T3 Str Str Int)) (nms : List Str) (i : Nat) (gt : List (Str × Int)) (gs : List Give) : Prop where
  nm : gt.map (·.1) = nms.take i
  ok : ∀ p ∈ gt, 0 ≤ p.2 ∧ p.2 ≤ 2 ^ 57 ∧ sumL gs p.1 ≤ p.2 ∧ p.2 ≤ sumM gs p.1 ∧ putOf ss p.1 ≤ p.2
  len : gs.length ≤ 2 * i
  gv : ∀ g ∈ gs, g.a ∈ nms.take i ∧ 0 ≤ g.b.1 ∧ g.b.1 ≤ g.b.2 ∧ g.b.2 ≤ 2 ^ 58 ∧ 0 ≤ g.c ∧ g.c ≤ 2 ^ 58
  all : ∀ h ∈ nms.take i, ∃ g ∈ gs, g.a = h
theorem GvI.next {ss : List (T3 Str Str Int)} {nms : List Str} {i : Nat} {gt : List (Str × Int)} {gs gs' : List Give} {x : Str} {m : Int} (I : GvI ss nms i gt gs) (hx : nms[i]? = some x) (nd : nms.Nodup) (m0 : 0 ≤ m ∧ m ≤ 2 ^ 57) (pm : putOf ss x ≤ m)
    (l1 : 1 ≤ gs'.length) (l2 : gs'.length ≤ 2) (gv : ∀ g ∈ gs', g.a = x ∧ 0 ≤ g.b.1 ∧ g.b.1 ≤ g.b.2 ∧ g.b.2 ≤ 2 ^ 58 ∧ 0 ≤ g.c ∧ g.c ≤ 2 ^ 58)
    (s1 : sumL gs' x ≤ m) (s2 : m ≤ sumM gs' x) : GvI ss nms (i + 1) (gt ++ [(x, m)]) (gs ++ gs') := by
  have tk := take_more hx
  have nx : x ∉ nms.take i := fun q => by
    have z : (nms.take i ++ [x]).Nodup := by rw [← tk]; exact nd.sublist (List.take_sublist _ _)
    have z2 := (List.nodup_append.mp z).2.2 x q x List.mem_cons_self
    exact z2 rfl
  have app : ∀ {a b : List Give} {h : Str}, sumL (a ++ b) h = sumL a h + sumL b h ∧ sumM (a ++ b) h = sumM a h + sumM b h := fun {a b h} => by
    unfold sumL sumM
    rw [List.filter_append, List.map_append, List.sum_append, List.map_append, List.sum_append]
    exact ⟨rfl, rfl⟩
  refine ⟨by rw [List.map_append, I.nm, tk]; rfl, fun p mp => ?_, by rw [List.length_append]; have := I.len; omega, fun g mg => ?_, fun h mh => ?_⟩
  · rcases List.mem_append.mp mp with q | q
    · obtain ⟨a, b, c, d, e⟩ := I.ok p q
      have hp : p.1 ∈ nms.take i := by rw [← I.nm]; exact List.mem_map.mpr ⟨p, q, rfl⟩
      have ne : ∀ g ∈ gs', g.a ≠ p.1 := fun g mg z => nx (by rw [← (gv g mg).1, z]; exact hp)
      rw [app.1, app.2, sumL_none ne, sumM_none ne]
      exact ⟨a, b, by omega, by omega, e⟩
    · rw [List.mem_singleton.mp q]
      have ne : ∀ g ∈ gs, g.a ≠ x := fun g mg z => nx (by rw [← z]; exact (I.gv g mg).1)
      show 0 ≤ m ∧ m ≤ 2 ^ 57 ∧ sumL (gs ++ gs') x ≤ m ∧ m ≤ sumM (gs ++ gs') x ∧ putOf ss x ≤ m
      rw [app.1, app.2, sumL_none ne, sumM_none ne]
      exact ⟨m0.1, m0.2, by omega, by omega, pm⟩
  · rw [tk]
    rcases List.mem_append.mp mg with q | q
    · exact ⟨List.mem_append_left _ (I.gv g q).1, (I.gv g q).2⟩
    · exact ⟨List.mem_append_right _ (by rw [(gv g q).1]; exact List.mem_cons_self), (gv g q).2⟩
  · rw [tk] at mh
    rcases List.mem_append.mp mh with q | q
    · obtain ⟨g, mg, e⟩ := I.all h q
      exact ⟨g, List.mem_append_left _ mg, e⟩
    · obtain ⟨g, mg⟩ : ∃ g, g ∈ gs' := by cases gs' with | nil => simp at l1 | cons g r => exact ⟨g, List.mem_cons_self⟩
      exact ⟨g, List.mem_append_right _ mg, by rw [(gv g mg).1, List.mem_singleton.mp q]⟩
structure TlI (ss : List (T3 Str Str Int)) (rows : List (Str × Tp Str)) (i : Nat) (tl : List Piece) : Prop where
  nm : tl.map (fun p => (p.a, p.c)) = rows.take i
  ok : ∀ p ∈ tl, 0 ≤ p.b.1 ∧ p.b.1 ≤ yarnOf ss p.a ∧ yarnOf ss p.a ≤ p.b.2 ∧ p.b.2 ≤ 2 ^ 58
theorem TlI.next {ss : List (T3 Str Str Int)} {rows : List (Str × Tp Str)} {i : Nat} {tl : List Piece} {x : Str × Tp Str} {p : Piece} (I : TlI ss rows i tl) (hx : rows[i]? = some x) (h1 : p.a = x.1) (h3 : p.c = x.2)
    (h2 : 0 ≤ p.b.1 ∧ p.b.1 ≤ yarnOf ss x.1) (h4 : yarnOf ss x.1 ≤ p.b.2 ∧ p.b.2 ≤ 2 ^ 58) : TlI ss rows (i + 1) (tl ++ [p]) := by
  refine ⟨by rw [List.map_append, I.nm, take_more hx, List.map_singleton, h1, h3], fun q m => ?_⟩
  rcases List.mem_append.mp m with m | m
  · exact I.ok q m
  · rw [List.mem_singleton.mp m, h1]
    exact ⟨h2.1, h2.2, h4⟩
theorem si_fst {ys gt : List (Str × Int)} {xs : List Str} (pm : ys.Perm gt) (pw : ys.Pairwise (fun a b => ltSI b a = false)) (nd : (gt.map (·.1)).Nodup) (hm : ∀ x, x ∈ gt.map (·.1) ↔ x ∈ xs) : ys.map (·.1) = sset xs := by
  refine srt_unique ((pm.map _).trans (perm_of_mem nd (uniq_nodup xs) fun x => by rw [hm x, uniq_mem])) (List.pairwise_map.mpr (pw.imp fun {a b} h => ?_))
  unfold leS
  rw [Bool.not_eq_true', decide_eq_false_iff_not]
  intro z
  rcases ltSI_no.mp h with w | w
  · exact List.lt_irrefl _ (List.lt_trans z w)
  · rw [w.1] at z
    exact List.lt_irrefl _ z
theorem fit_ok {nh np wd : Int} {names : List Str} {rows : List (Str × Tp Str)} {ss : List (T3 Str Str Int)} {gt ys : List (Str × Int)} {gs : List Give} {tl : List Piece} (nN : Nms names) (nl1 : 1 ≤ names.length) (nl2 : (names.length : Int) ≤ nh)
    (nR : Nms (rows.map (·.1))) (lR : (rows.length : Int) ≤ np) (mR : ∀ p ∈ rows, MkOk names p.2) (e1 : ss.map (fun s => (s.a, s.b)) = partsR rows) (e2 : ∀ s ∈ ss, 0 ≤ s.c ∧ s.c ≤ wd) (w1 : wd ≤ 2 ^ 49)
    (I : GvI ss names names.length gt gs) (J : TlI ss rows rows.length tl) (pm : ys.Perm gt) (pw : ys.Pairwise (fun a b => ltSI b a = false)) : FitOk nh.toNat np.toNat ((gs, tl), (⟨ys⟩, ⟨ss⟩)) := by
  have In := I.nm
  have Jn := J.nm
  rw [List.take_length] at In Jn
  have Ig := I.gv
  have Ia := I.all
  rw [List.take_length] at Ig Ia
  have gl := I.len
  have hh : ∀ x, x ∈ names ↔ x ∈ homesOf (gs, tl) := fun x => by
    constructor
    · intro m
      obtain ⟨g, mg, e⟩ := Ia x m
      exact List.mem_map.mpr ⟨g, mg, e⟩
    · intro m
      obtain ⟨g, mg, e⟩ := List.mem_map.mp m
      rw [← e]
      exact (Ig g mg).1
  have hs : ys.map (·.1) = sset (homesOf (gs, tl)) := si_fst pm pw (by rw [In]; exact nN.nd) fun x => by rw [In]; exact hh x
  have tl1 : tl.length = rows.length := by
    have z := congrArg List.length Jn
    rwa [List.length_map] at z
  have tn : tl.map (fun p => p.a) = rows.map (·.1) := by
    rw [← Jn, List.map_map]; rfl
  have pr : ∀ p ∈ tl, (p.a, p.c) ∈ rows := fun p m => by
    rw [← Jn]; exact List.mem_map.mpr ⟨p, m, rfl⟩
  refine ⟨⟨by show gs.length ≤ _; omega, by show tl.length ≤ _; omega, fun g m => ⟨nN.low _ (Ig g m).1, (Ig g m).2⟩, fun p m => ⟨nR.low _ (List.mem_map.mpr ⟨_, pr p m, rfl⟩), ?_, (mR _ (pr p m)).nd, (mR _ (pr p m)).pos, Nat.le_trans (mR _ (pr p m)).few (by decide), fun h mh => (hh h).mp ((mR _ (pr p m)).sub h mh)⟩, ?_, ?_⟩, ?_, ⟨hs, ?_, ?_, fun s m => (e2 s m).1, fun p m => ⟨(J.ok p m).2.1, (J.ok p m).2.2.1⟩⟩, ⟨fun p m => ?_, fun s m => ?_⟩⟩
  · obtain ⟨a, b, c, d⟩ := J.ok p m
    omega
  · show (tl.map fun p => p.a).Nodup
    rw [tn]; exact nR.nd
  · intro z
    obtain ⟨x, hx⟩ : ∃ x, x ∈ names := by cases names with | nil => simp at nl1 | cons g r => exact ⟨g, List.mem_cons_self⟩
    obtain ⟨g, mg, e⟩ := Ia x hx
    rw [show gs = [] from z] at mg
    cases mg
  · have z := congrArg List.length hs
    have z2 := congrArg List.length In
    rw [List.length_map] at z z2
    have z3 := pm.length_eq
    show (sset (homesOf (gs, tl))).length ≤ nh.toNat
    omega
  · show ss.map _ = partsOf tl
    rw [e1]
    unfold partsR partsOf
    rw [← Jn, List.flatMap_map]
  · intro p m
    obtain ⟨a, b, c, d, e⟩ := I.ok p (pm.mem_iff.mp m)
    exact ⟨c, d, e⟩
  · obtain ⟨a, b, c, d, e⟩ := I.ok p (pm.mem_iff.mp m)
    exact ⟨a, b⟩
  · have := e2 s m
    show s.c ≤ 2 ^ 50
    omega
def sp__law_fitted (T : Txt K mg) : Sp := spF 100000 (fun t : Int × Int × Int => 1 ≤ t.1 ∧ t.1 ≤ 20 ∧ 0 ≤ t.2.1 ∧ t.2.1 ≤ 20 ∧ 1 ≤ t.2.2 ∧ t.2.2 ≤ 2 ^ 49) (fun t (x : Raw × Tale) => FitOk t.1.toNat t.2.1.toNat x) (fun t => [.pen, .v (sh t.1), .v (sh t.2.1), .v (sh t.2.2)])
theorem ok__law_fitted (T : Txt K mg) : FnOk P w K mg base CX0 5 T.f__law_fitted T.fd__law_fitted ["pen", "homes", "a_pieces", "wide"] (sp__law_fitted T) := by
  refine okD T.F__law_fitted sc__law_fitted (fun vs H Q E h => ?_) (fun cdv A outer s H vs Q E hr h => ?_)
  · exact spF_len h fun _ => rfl
  · have hu := hu_of hr
    have hu64 := hr.units
    refine ⟨_, pss_cons (ps_set (i := 4) sc__law_fitted.nd rfl (Or.inr rfl) (pe_call (ok__law_names (P := P) (w := w) (base := base) T) (hr.mono (by decide)) rfl T.mg__law_names T.F__law_names.kp (T.b__law_names) .nil pass0 (pa_cons (pv 0) (pa_cons (pe_op op_add pe_int (pe_call (ok__law_draw (P := P) (w := w) (base := base) T) (hr.mono (by decide)) rfl T.mg__law_draw T.F__law_draw.kp (T.b__law_draw) .nil pass0 (pa_cons (pv 0) (pa_cons (pv 1) pa_nil)))) pa_nil))))
      (pss_cons (ps_setLc (i := 5) (own := [("title", 6)]) (by rfl) sc__law_fitted.nd rfl rfl (sw_true rfl rfl rfl (by decide +kernel)) (pi_list (pe_call (ok__law_titles (P := P) (w := w) (base := base) T) (hr.mono (by decide)) rfl T.mg__law_titles T.F__law_titles.kp (T.b__law_titles) .nil pass0 (pa_cons (pv 0) (pa_cons (pv 4) (pa_cons (pe_call (ok__law_draw (P := P) (w := w) (base := base) T) (hr.mono (by decide)) rfl T.mg__law_draw T.F__law_draw.kp (T.b__law_draw) .nil pass0 (pa_cons (pv 0) (pa_cons (pe_op op_add (pv 2) pe_int) pa_nil))) pa_nil))))) (blkOk_by (own := [("title", 6)]) (N := ["pen", "homes", "a_pieces", "wide", "names", "rows", "title", "shares", "makers", "home", "got", "a_gives", "lack", "many", "maker", "drams", "part", "told", "piece"]) (sc := defScope s__law_fitted) (by decide +kernel)) (fun _ _ _ _ _ => pg_name (i := 6) sc__law_fitted.nd rfl (Or.inl rfl)) (fun _ _ _ _ _ => pts_nil) (fun _ _ _ _ _ => pe_tupY (pa_cons (pv 6) (pa_cons (pe_call (ok__law_makers (P := P) (w := w) (base := base) T) (hr.mono (by decide)) rfl T.mg__law_makers T.F__law_makers.kp (T.b__law_makers) .nil pass0 (pa_cons (pv 0) (pa_cons (pv 4) pa_nil))) pa_nil))))
      (pss_cons (ps_set (i := 7) sc__law_fitted.nd rfl (Or.inl rfl) (pe_lstY pa_nil))
      (pss_cons (ps_for PassesOwn.never rfl (pi_list (pv 5)) (pg_tup (by rfl) (pgs_cons (pg_name (i := 6) sc__law_fitted.nd rfl (Or.inr rfl)) (pgs_cons (pg_name (i := 8) sc__law_fitted.nd rfl (Or.inl rfl)) pgs_nil))) (pss_one (ps_set (i := 7) sc__law_fitted.nd rfl (Or.inl rfl) (pe_op op_cat (pv 7) (pe_lc (own := [("home", 9)]) (by rfl) sc__law_fitted.nd (pi_tup (pv 8)) (blkOk_by (own := [("home", 9)]) (N := ["pen", "homes", "a_pieces", "wide", "names", "rows", "title", "shares", "makers", "home", "got", "a_gives", "lack", "many", "maker", "drams", "part", "told", "piece"]) (sc := defScope s__law_fitted) (by decide +kernel)) (fun _ _ _ _ _ => pg_name (i := 9) sc__law_fitted.nd rfl (Or.inl rfl)) (fun _ _ _ _ _ => pts_nil) (fun _ _ _ _ _ => pe_tupY (pa_cons (pv 6) (pa_cons (pv 9) (pa_cons (pe_op op_mul (pe_call (ok__law_draw (P := P) (w := w) (base := base) T) (hr.mono (by decide)) rfl T.mg__law_draw T.F__law_draw.kp (T.b__law_draw) .nil pass0 (pa_cons (pv 0) (pa_cons (pv 3) pa_nil))) (pe_call (ok__law_draw (P := P) (w := w) (base := base) T) (hr.mono (by decide)) rfl T.mg__law_draw T.F__law_draw.kp (T.b__law_draw) .nil pass0 (pa_cons (pv 0) (pa_cons pe_int pa_nil)))) pa_nil)))))))))
      (pss_cons (ps_set (i := 10) sc__law_fitted.nd rfl (Or.inl rfl) (pe_lstY pa_nil))
      (pss_cons (ps_set (i := 11) sc__law_fitted.nd rfl (Or.inl rfl) (pe_lstY pa_nil))
      (pss_cons (ps_for PassesOwn.never rfl (pi_list (pv 4)) (pg_name (i := 9) sc__law_fitted.nd rfl (Or.inr rfl)) (pss_cons (ps_set (i := 12) sc__law_fitted.nd rfl (Or.inl rfl) (pe_op op_mul (pe_call (ok__law_draw (P := P) (w := w) (base := base) T) (hr.mono (by decide)) rfl T.mg__law_draw T.F__law_draw.kp (T.b__law_draw) .nil pass0 (pa_cons (pv 0) (pa_cons (pv 3) pa_nil))) (pe_call (ok__law_draw (P := P) (w := w) (base := base) T) (hr.mono (by decide)) rfl T.mg__law_draw T.F__law_draw.kp (T.b__law_draw) .nil pass0 (pa_cons (pv 0) (pa_cons pe_int pa_nil)))))
      (pss_cons (ps_set (i := 13) sc__law_fitted.nd rfl (Or.inl rfl) (pe_op op_add (pv 12) (pe_callB (cr_sum rfl) (by rfl) T.b_sum (by decide +kernel) (pa_cons (pe_lc (g := gTup K 3 (gCons (gName 6) (gCons (gName 14) (gCons (gName 15) gNil)))) (own := [("title", 6), ("maker", 14), ("drams", 15)]) (by rfl) sc__law_fitted.nd (pi_list (pv 7)) (blkOk_by (own := [("title", 6), ("maker", 14), ("drams", 15)]) (N := ["pen", "homes", "a_pieces", "wide", "names", "rows", "title", "shares", "makers", "home", "got", "a_gives", "lack", "many", "maker", "drams", "part", "told", "piece"]) (sc := defScope s__law_fitted) (by decide +kernel)) (fun _ _ _ _ _ => by exact (pg_tup (n := 3) (by rfl) (pgs_cons (pg_name (i := 6) sc__law_fitted.nd rfl (Or.inl rfl)) (pgs_cons (pg_name (i := 14) sc__law_fitted.nd rfl (Or.inl rfl)) (pgs_cons (pg_name (i := 15) sc__law_fitted.nd rfl (Or.inl rfl)) pgs_nil))))) (fun _ _ _ _ _ => pts_one (pt_cmpR op_eq (pv 14) (pv 9) (nomark _))) (fun _ _ _ _ _ => pv 15)) pa_nil))))
      (pss_cons (ps_expr (pe_bm PySem.F.plainAttrs_list PySem.F.slot_list_append PySem.F.type_list_append mt_appendY (pv 10) (pa_cons (pe_tupY (pa_cons (pv 9) (pa_cons (pv 13) pa_nil))) pa_nil)))
      (pss_cons (ps_set (i := 16) sc__law_fitted.nd rfl (Or.inl rfl) (pe_op op_mul (pe_call (ok__law_draw (P := P) (w := w) (base := base) T) (hr.mono (by decide)) rfl T.mg__law_draw T.F__law_draw.kp (T.b__law_draw) .nil pass0 (pa_cons (pv 0) (pa_cons (pe_op op_add (pv 13) pe_int) pa_nil))) (pe_op op_fdivY (pe_call (ok__law_draw (P := P) (w := w) (base := base) T) (hr.mono (by decide)) rfl T.mg__law_draw T.F__law_draw.kp (T.b__law_draw) .nil pass0 (pa_cons (pv 0) (pa_cons pe_int pa_nil))) pe_int)))
      (pss_cons (ps_expr (pe_bm PySem.F.plainAttrs_list PySem.F.slot_list_append PySem.F.type_list_append mt_appendY (pv 11) (pa_cons (pe_tupY (pa_cons (pv 9) (pa_cons (pe_call (ok__law_around (P := P) (w := w) (base := base) T) (hr.mono (by decide)) rfl T.mg__law_around T.F__law_around.kp (T.b__law_around) .nil pass0 (pa_cons (pv 0) (pa_cons (pe_op op_sub (pv 13) (pv 16)) pa_nil))) (pa_cons (pe_call (ok__law_draw (P := P) (w := w) (base := base) T) (hr.mono (by decide)) rfl T.mg__law_draw T.F__law_draw.kp (T.b__law_draw) .nil pass0 (pa_cons (pv 0) (pa_cons (pv 3) pa_nil))) pa_nil)))) pa_nil)))
      (pss_one (ps_if (pt_cmpR op_gt (pv 16) pe_int (nomark _)) (pss_one (ps_expr (pe_bm PySem.F.plainAttrs_list PySem.F.slot_list_append PySem.F.type_list_append mt_appendY (pv 11) (pa_cons (pe_tupY (pa_cons (pv 9) (pa_cons (pe_call (ok__law_around (P := P) (w := w) (base := base) T) (hr.mono (by decide)) rfl T.mg__law_around T.F__law_around.kp (T.b__law_around) .nil pass0 (pa_cons (pv 0) (pa_cons (pv 16) pa_nil))) (pa_cons (pe_call (ok__law_draw (P := P) (w := w) (base := base) T) (hr.mono (by decide)) rfl T.mg__law_draw T.F__law_draw.kp (T.b__law_draw) .nil pass0 (pa_cons (pv 0) (pa_cons pe_int pa_nil))) pa_nil)))) pa_nil)))) pss_nil))))))))
      (pss_cons (ps_set (i := 17) sc__law_fitted.nd rfl (Or.inl rfl) (pe_lstY pa_nil))
      (pss_cons (ps_for PassesOwn.never rfl (pi_list (pv 5)) (pg_tup (by rfl) (pgs_cons (pg_name (i := 6) sc__law_fitted.nd rfl (Or.inr rfl)) (pgs_cons (pg_name (i := 8) sc__law_fitted.nd rfl (Or.inl rfl)) pgs_nil))) (pss_cons (ps_set (i := 13) sc__law_fitted.nd rfl (Or.inl rfl) (pe_callB (cr_sum rfl) (by rfl) T.b_sum (by decide +kernel) (pa_cons (pe_lc (g := gTup K 3 (gCons (gName 18) (gCons (gName 14) (gCons (gName 15) gNil)))) (own := [("piece", 18), ("maker", 14), ("drams", 15)]) (by rfl) sc__law_fitted.nd (pi_list (pv 7)) (blkOk_by (own := [("piece", 18), ("maker", 14), ("drams", 15)]) (N := ["pen", "homes", "a_pieces", "wide", "names", "rows", "title", "shares", "makers", "home", "got", "a_gives", "lack", "many", "maker", "drams", "part", "told", "piece"]) (sc := defScope s__law_fitted) (by decide +kernel)) (fun _ _ _ _ _ => by exact (pg_tup (n := 3) (by rfl) (pgs_cons (pg_name (i := 18) sc__law_fitted.nd rfl (Or.inl rfl)) (pgs_cons (pg_name (i := 14) sc__law_fitted.nd rfl (Or.inl rfl)) (pgs_cons (pg_name (i := 15) sc__law_fitted.nd rfl (Or.inl rfl)) pgs_nil))))) (fun _ _ _ _ _ => pts_one (pt_cmpR op_eq (pv 18) (pv 6) (nomark _))) (fun _ _ _ _ _ => pv 15)) pa_nil)))
      (pss_one (ps_expr (pe_bm PySem.F.plainAttrs_list PySem.F.slot_list_append PySem.F.type_list_append mt_appendY (pv 17) (pa_cons (pe_tupY (pa_cons (pv 6) (pa_cons (pe_call (ok__law_around (P := P) (w := w) (base := base) T) (hr.mono (by decide)) rfl T.mg__law_around T.F__law_around.kp (T.b__law_around) .nil pass0 (pa_cons (pv 0) (pa_cons (pv 13) pa_nil))) (pa_cons (pv 8) pa_nil)))) pa_nil))))))
      (pss_one (ps_ret (pe_tupY (pa_cons (pe_tupY (pa_cons (pv 11) (pa_cons (pv 17) pa_nil))) (pa_cons (pe_tupY (pa_cons (pe_callTy call_tuple_of (by rfl) T.b_tuple (by decide +kernel) (pa_cons (pe_callB cr_sortedSI (by rfl) T.b_sorted (by decide +kernel) (pa_cons (pv 10) pa_nil)) pa_nil)) (pa_cons (pe_callTy call_tuple_of (by rfl) T.b_tuple (by decide +kernel) (pa_cons (pv 7) pa_nil)) pa_nil))) pa_nil))))))))))))), ?_⟩
    clear hu hu64
    have lim : (LIM : Nat) = 2 ^ 58 := rfl
    obtain ⟨B, ⟨nh, np, wd⟩, ⟨h0, h1, p0, p1, w0, w1⟩, hn, hS, k⟩ := spF_start h ["pen", "homes", "a_pieces", "wide", "names", "rows", "title", "shares", "makers", "home", "got", "a_gives", "lack", "many", "maker", "drams", "part", "told", "piece"] fun _ => ⟨rfl, rfl⟩
    dsimp only at h0 h1 p0 p1 w0 w1 hS k
    refine s_seq (s_set hS (en_fnA (α := (List Str)) (ea_pen rfl (ea_v (en_op (fun (i j : Int) => i + j) ev_int (ed_draw rfl (ev_var (α := Int) rfl) ?_) (fun i j hi hj => rv_add)) ea_nil)) ?_) (by omega) fun names hnames σ H hS => ?_)
    · omega
    · (rintro ss ⟨_, ⟨x, _, ⟨a, b, rfl, hb, rfl⟩, rfl, rfl⟩, rfl⟩; exact ⟨_, rfl, by omega, by omega⟩)
    have hN : 1 ≤ names.length ∧ (names.length : Int) ≤ nh ∧ Nms names := by
      obtain ⟨t, ⟨_, ⟨x, _, ⟨a, b, rfl, hb, rfl⟩, rfl, rfl⟩, he⟩, ⟨t0, t1⟩, hl, hN⟩ := hnames
      have e : t = 1 + b := by simpa [Ty.sh] using he
      exact ⟨by omega, by omega, hN⟩
    clear hnames
    obtain ⟨nl1, nl2, nN⟩ := hN
    have lN : names.length ≤ 64 := by omega
    have neN : names ≠ [] := fun e => by rw [e] at nl1; simp at nl1
    refine s_seq (s_set hS (ev_lcL (m := 64) (P := fun _ b => b = true) (E := fun (x : Str) (p : Str × Tp Str) => p.1 = x ∧ MkOk names p.2) (c1 := 0) (c2 := 300) (en_fnA (α := (List Str)) (ea_pen rfl (ea_v (ev_var (α := (List Str)) rfl) (ea_v (ed_draw rfl (ed_op (ev_var (α := Int) rfl) ev_int (rv_add)) ?_) ea_nil))) ?_) ?_ (by decide) (ho_of rfl) (fun xs hxs x hx => ⟨_, (tg_name (by decide)), et_yes, ?_⟩)) (by omega) fun rows hrows σ H hS => ?_)
    · omega
    · (rintro ss ⟨_, ⟨x, _, rfl, ⟨y, _, hy, rfl, rfl⟩, rfl⟩, rfl⟩; exact ⟨(x, y), rfl, nN, by omega, by omega⟩)
    · (rintro xs ⟨t, _, ⟨_, t0, t1⟩, _, hl⟩; omega)
    · (refine Ev.imp (ev_pair (ev_var (α := Str) rfl) (en_fn (α := (Tp Str)) _ (ead_pen rfl (ead_v (ev_var (α := (List Str)) rfl) ea_nil)) ?_)) (by omega) (fun p h => h); exact ⟨nN.nd, neN, lN⟩)
    have hR : Nms (rows.map (·.1)) ∧ (rows.length : Int) ≤ np ∧ ∀ p ∈ rows, MkOk names p.2 := by
      obtain ⟨xs, ⟨t, ⟨_, ⟨x, _, rfl, ⟨y, _, hy, rfl, rfl⟩, rfl⟩, he⟩, ⟨_, t0, t1⟩, hx, hl⟩, hlc⟩ := hrows
      obtain ⟨r1, r2⟩ := lcR_fst hlc
      have e : t.2 = y := by
        have z := congrArg (fun l : List Sl => l[2]?) he
        have z2 : some (Sl.v (.int t.2)) = some (Sl.v (.int y)) := z
        cases z2
        rfl
      refine ⟨by rw [r1]; exact hx, ?_, r2⟩
      rw [← List.length_map (f := fun p : Str × Tp Str => p.1), r1]
      omega
    clear hrows
    obtain ⟨nR, lR, mR⟩ := hR
    have lR2 : rows.length ≤ 20 := by omega
    refine s_seq (s_set hS (ed_lst (el_nil (α := (T3 Str Str Int))) (show 0 ≤ sizeLine by decide)) (by omega) fun s0 hs0 σ H hS => ?_)
    cases hs0
    refine s_seq (s_forL (own := [6, 8]) (cc := 200) (xs := rows) hS (fun i ρ => ∃ (ss : List (T3 Str Str Int)) (s6 s8 : Option Sl), ss.map (fun s => (s.a, s.b)) = partsR (rows.take i) ∧ (∀ s ∈ ss, 0 ≤ s.c ∧ s.c ≤ wd) ∧ ss.length ≤ 4 * i ∧ (∀ z, s6 ≠ some (.own z)) ∧ (∀ z, s8 ≠ some (.own z)) ∧
        ρ = [some .pen, some (.v (sh nh)), some (.v (sh np)), some (.v (sh wd)), some (.v (sh names)), some (.v (sh rows)), s6, some (.v (sh ss)), s8, none, none, none, none, none, none, none, none, none, none])
      (ev_var (α := (List (Str × (Tp Str)))) rfl) (by omega) ⟨[], none, none, rfl, (fun s m => by cases m), by simp, (fun z => by simp), (fun z => by simp), rfl⟩ ?_ ?_)
    · rintro G i x ρi hx ⟨ss, s6, s8, e1, e2, e3, n6, n8, rfl⟩
      have hBn : (B.at G).n = B.n := rfl
      have hi : i < rows.length := (List.getElem?_eq_some_iff.mp hx).1
      have hmk := mR x (List.mem_of_getElem? hx)
      refine ⟨_, (tg_tup (tgs_cons (tg_name (by decide)) (tgs_cons (tg_name (by decide)) tgs_nil)) rfl), rfl, fun σ H hS N hN => ?_⟩
      refine s_set hS (en_op (fun i j => i ++ j) (ev_var (α := (List (T3 Str Str Int))) rfl) (ev_lcT (m := 64) (P := fun _ b => b = true) (E := fun (h : Str) (s : T3 Str Str Int) => s.a = x.1 ∧ s.b = h ∧ ∃ i j : Int, (0 ≤ i ∧ i < wd) ∧ (0 ≤ j ∧ j < 2) ∧ s.c = i * j) (c1 := 0) (c2 := 2) (ev_var (α := (Tp Str)) rfl) ?_ (by decide) (ho_of rfl) (fun xs hxs x hx => ⟨_, (tg_name (by decide)), et_yes, ?_⟩)) (fun i j hi hj => rv_cat ?_)) (by omega) fun ss2 hss σ H hS => ?_
      · (intro xs e; cases e; exact Nat.le_trans hmk.few (by decide))
      · (refine Ev.imp (ev_trip (ev_var (α := Str) rfl) (ev_var (α := Str) rfl) (en_op (fun (i j : Int) => i * j) (ed_draw rfl (ev_var (α := Int) rfl) ?_) (ed_draw rfl ev_int ?_) (fun i j hi hj => rv_mul ?_))) (by omega) (fun p h => h); exact ⟨by omega, by omega⟩; decide; exact .inr ⟨by omega, by omega⟩)
      · (obtain ⟨xs, e, hl⟩ := hj; cases hi; cases e; have z := hl.le; have z2 := hmk.few; exact Nat.le_trans (show ss.length + _ ≤ 200 by omega) (by decide))
      obtain ⟨x1, y, e4, ⟨xs, e5, hl⟩, rfl⟩ := hss
      cases e4
      cases e5
      obtain ⟨q1, q2⟩ := lcR_part (C := fun z => ∃ i j : Int, (0 ≤ i ∧ i < wd) ∧ (0 ≤ j ∧ j < 2) ∧ z = i * j) hl
      refine hN σ H _ ⟨ss ++ y, some (.v (sh x.1)), some (.v (sh x.2)), ?_, ?_, ?_, fun z => by simp, fun z => by simp, rfl⟩ (hS.up (by omega))
      · rw [List.map_append, e1, q1, take_more hx]
        unfold partsR
        rw [List.flatMap_append, List.flatMap_singleton]
      · intro s m
        rcases List.mem_append.mp m with m | m
        · exact e2 s m
        · obtain ⟨a, b, ha, hb, e⟩ := q2 s m
          have := part_bnd ha.1 ha.2 hb.1 hb.2
          omega
      · have z := hl.le
        have z2 := hmk.few
        rw [List.length_append]
        omega
    rintro ρ2 ⟨ss, s6, s8, e1, e2, e3, n6, n8, rfl⟩ σ H hS
    rw [List.take_length] at e1
    replace hS := hS.forget 6
    have e3' : ss.length ≤ 104 := by omega
    refine s_seq (s_own hS (evn_lst (el_nil (α := Sh)) ?_) (by omega) fun gt0 hgt0 σ H hS => ?_)
    · (intro ys e; cases e; decide)
    cases hgt0
    refine s_seq (s_own hS (evn_lst (el_nil (α := Sh)) ?_) (by omega) fun gs0 hgs0 σ H hS => ?_)
    · (intro ys e; cases e; decide)
    cases hgs0
    have putB : ∀ h, 0 ≤ putOf ss h ∧ putOf ss h ≤ 104 * wd := fun h => fil_bnd (fun s m => e2 s m) (by omega) e3'
    have yarnB : ∀ h, 0 ≤ yarnOf ss h ∧ yarnOf ss h ≤ 104 * wd := fun h => fil_bnd (fun s m => e2 s m) (by omega) e3'
    refine s_seq (s_forL (own := [9]) (cc := 100) (xs := names) hS (fun i ρ => ∃ (gt : List (Str × Int)) (gs : List Give) (s9 s12 s13 s16 : Option Sl), GvI ss names i gt gs ∧ (∀ z, s9 ≠ some (.own z)) ∧ (∀ z, s12 ≠ some (.own z)) ∧ (∀ z, s13 ≠ some (.own z)) ∧ (∀ z, s16 ≠ some (.own z)) ∧
        ρ = [some .pen, some (.v (sh nh)), some (.v (sh np)), some (.v (sh wd)), some (.v (sh names)), some (.v (sh rows)), none, some (.v (sh ss)), s8, s9, some (.own (gt.map sh)), some (.own (gs.map sh)), s12, s13, none, none, s16, none, none])
      (ev_var (α := (List Str)) rfl) (by omega) ⟨[], [], none, none, none, none, ⟨rfl, (fun p m => by cases m), by simp, (fun g m => by cases m), (fun h m => by simp at m)⟩, (fun z => by simp), (fun z => by simp), (fun z => by simp), (fun z => by simp), rfl⟩ ?_ ?_)
    · rintro G i x ρi hx ⟨gt, gs, s9, s12, s13, s16, I, n9, n12, n13, n16, rfl⟩
      have hBn : (B.at G).n = B.n := rfl
      have hi : i < names.length := (List.getElem?_eq_some_iff.mp hx).1
      have gtl : gt.length ≤ 20 := by
        have z := congrArg List.length I.nm
        rw [List.length_map, List.length_take] at z
        omega
      have gsl := I.len
      refine ⟨_, (tg_name (by decide)), rfl, fun σ H hS N hN => ?_⟩
      refine s_seq (s_set hS (en_op (fun (i j : Int) => i * j) (ed_draw rfl (ev_var (α := Int) rfl) ?_) (ed_draw rfl ev_int ?_) (fun i j hi hj => rv_mul ?_)) (by omega) fun lack hlack σ H hS => ?_)
      · exact ⟨by omega, by omega⟩
      · decide
      · exact .inr ⟨by omega, by omega⟩
      have lk : 0 ≤ lack ∧ lack < wd := by
        obtain ⟨a, b, ha, hb, rfl⟩ := hlack
        exact part_bnd ha.1 ha.2 hb.1 hb.2
      clear hlack
      refine s_seq (s_set hS (ed_op (ev_var (α := Int) rfl) (ed_cb (ed_lcL (ev_var (α := (List (T3 Str Str Int))) rfl) ?_ (ho_of rfl) (fun x hx => ⟨_, (tg_tup (tgs_cons (tg_name (by decide)) (tgs_cons (tg_name (by decide)) (tgs_cons (tg_name (by decide)) tgs_nil))) rfl), (et_test (ed_op (ev_var (α := Str) rfl) (ev_var (α := Str) rfl) (rv_eqS))), (ev_var (α := Int) rfl)⟩)) rv1_sum) (rv_add)) (by omega) fun many hmany σ H hS => ?_)
      · exact Nat.lt_of_le_of_lt e3' (by decide)
      have em : many = lack + putOf ss x := hmany
      have pb := putB x
      clear hmany
      refine s_seq (s_app hS rfl (ed_pair (ev_var (α := Str) rfl) (ev_var (α := Int) rfl)) (by omega) ?_ fun p hp H hS => ?_)
      · (rw [List.length_map]; exact Nat.lt_of_le_of_lt gtl (by decide))
      cases hp
      refine s_seq (s_set hS (en_op (fun (i j : Int) => i * j) (ed_draw rfl (ed_op (ev_var (α := Int) rfl) ev_int (rv_add)) ?_) (en_op (fun (i j : Int) => i / j) (ed_draw rfl ev_int ?_) ev_int (fun i j hi hj => rv_fdiv ?_)) (fun i j hi hj => rv_mul ?_)) (by omega) fun part hpart σ H hS => ?_)
      · exact ⟨by omega, by omega⟩
      · decide
      · exact ⟨by omega, by omega⟩
      · (obtain ⟨y, z, hy, e, rfl⟩ := hj; cases e; exact .inr ⟨by omega, by omega⟩)
      have pt : 0 ≤ part ∧ part ≤ many := by
        obtain ⟨a, b, ha, ⟨c, d, hc, e, rfl⟩, rfl⟩ := hpart
        cases e
        have z := part_bnd ha.1 ha.2 (b := c / 3) (by omega) (by omega)
        omega
      clear hpart
      refine s_seq (s_app hS rfl (ev_trip (ev_var (α := Str) rfl) (en_fn (α := (Int × Int)) _ (ead_pen rfl (ead_v (ed_op (ev_var (α := Int) rfl) (ev_var (α := Int) rfl) (rv_sub)) ea_nil)) ?_) (ed_draw rfl (ev_var (α := Int) rfl) ?_)) (by omega) ?_ fun g1 hg1 H hS => ?_)
      · exact ⟨by omega, by omega⟩
      · exact ⟨by omega, by omega⟩
      · (rw [List.length_map]; exact Nat.lt_of_le_of_lt (show gs.length ≤ 40 by omega) (by decide))
      obtain ⟨q1, q2, q3⟩ := hg1
      have mb : 0 ≤ many ∧ many ≤ 2 ^ 57 := by omega
      refine s_if hS (et_test (ed_op (ev_var (α := Int) rfl) ev_int (rv_gt))) (by omega) (fun ht H hS => ?_) (fun ht H hS => ?_)
      · have pos : 0 < part := of_decide_eq_true ht.symm
        refine s_app hS rfl (ev_trip (ev_var (α := Str) rfl) (en_fn (α := (Int × Int)) _ (ead_pen rfl (ead_v (ev_var (α := Int) rfl) ea_nil)) ?_) (ed_draw rfl ev_int ?_)) (by omega) ?_ fun g2 hg2 H hS => ?_
        · exact ⟨by omega, by omega⟩
        · decide
        · (rw [List.length_append, List.length_map]; exact Nat.lt_of_le_of_lt (show gs.length + 1 ≤ 41 by omega) (by decide))
        obtain ⟨r1, r2, r3⟩ := hg2
        refine hN σ H _ ⟨gt ++ [(x, many)], gs ++ [g1, g2], some (.v (sh x)), some (.v (sh lack)), some (.v (sh many)), some (.v (sh part)), I.next hx nN.nd mb (by omega) (by simp) (by simp) ?_ ?_ ?_, fun z => by simp, fun z => by simp, fun z => by simp, fun z => by simp, ?_⟩ (hS.up (by omega))
        · intro g m
          rcases List.mem_cons.mp m with e | m
          · rw [e]; exact ⟨q1, by omega⟩
          · rw [List.mem_singleton.mp m]; exact ⟨r1, by omega⟩
        · rw [show [g1, g2] = [g1] ++ [g2] from rfl, sumL_app, show ([g1] : List Give) = [] ++ [g1] from rfl, sumL_app, q1, r1, if_pos rfl, if_pos rfl]
          show 0 + _ + _ ≤ _
          omega
        · rw [show [g1, g2] = [g1] ++ [g2] from rfl, sumM_app, show ([g1] : List Give) = [] ++ [g1] from rfl, sumM_app, q1, r1, if_pos rfl, if_pos rfl]
          show _ ≤ 0 + _ + _
          omega
        · rw [List.map_append, List.map_append]
          simp only [List.map_cons, List.map_nil, List.append_assoc]
          rfl
      · have npos : ¬ 0 < part := of_decide_eq_false ht.symm
        refine hN σ H _ ⟨gt ++ [(x, many)], gs ++ [g1], some (.v (sh x)), some (.v (sh lack)), some (.v (sh many)), some (.v (sh part)), I.next hx nN.nd mb (by omega) (by simp) (by simp) ?_ ?_ ?_, fun z => by simp, fun z => by simp, fun z => by simp, fun z => by simp, ?_⟩ (hS.up (by omega))
        · intro g m
          rw [List.mem_singleton.mp m]; exact ⟨q1, by omega⟩
        · rw [show ([g1] : List Give) = [] ++ [g1] from rfl, sumL_app, q1, if_pos rfl]
          show 0 + _ ≤ _
          omega
        · rw [show ([g1] : List Give) = [] ++ [g1] from rfl, sumM_app, q1, if_pos rfl]
          show _ ≤ 0 + _
          omega
        · rw [List.map_append, List.map_append]
          rfl
    rintro ρ2 ⟨gt, gs, s9, s12, s13, s16, I, n9, n12, n13, n16, rfl⟩ σ H hS
    refine s_seq (s_own hS (evn_lst (el_nil (α := Sh)) ?_) (by omega) fun tl0 htl0 σ H hS => ?_)
    · (intro ys e; cases e; decide)
    cases htl0
    refine s_seq (s_forL (own := [6, 8]) (cc := 100) (xs := rows) hS (fun i ρ => ∃ (tl : List Piece) (s6 s8 s13 : Option Sl), TlI ss rows i tl ∧ (∀ z, s6 ≠ some (.own z)) ∧ (∀ z, s8 ≠ some (.own z)) ∧ (∀ z, s13 ≠ some (.own z)) ∧
        ρ = [some .pen, some (.v (sh nh)), some (.v (sh np)), some (.v (sh wd)), some (.v (sh names)), some (.v (sh rows)), s6, some (.v (sh ss)), s8, s9, some (.own (gt.map sh)), some (.own (gs.map sh)), s12, s13, none, none, s16, some (.own (tl.map sh)), none])
      (ev_var (α := (List (Str × (Tp Str)))) rfl) (by omega) ⟨[], none, s8, s13, ⟨rfl, fun p m => by cases m⟩, (fun z => by simp), n8, n13, rfl⟩ ?_ ?_)
    · rintro G i x ρi hx ⟨tl, s6, s8, s13, J, m6, m8, m13, rfl⟩
      have hBn : (B.at G).n = B.n := rfl
      have hi : i < rows.length := (List.getElem?_eq_some_iff.mp hx).1
      have tll : tl.length ≤ 20 := by
        have z := congrArg List.length J.nm
        rw [List.length_map, List.length_take] at z
        omega
      refine ⟨_, (tg_tup (tgs_cons (tg_name (by decide)) (tgs_cons (tg_name (by decide)) tgs_nil)) rfl), rfl, fun σ H hS N hN => ?_⟩
      refine s_seq (s_set hS (ed_cb (ed_lcL (ev_var (α := (List (T3 Str Str Int))) rfl) ?_ (ho_of rfl) (fun x hx => ⟨_, (tg_tup (tgs_cons (tg_name (by decide)) (tgs_cons (tg_name (by decide)) (tgs_cons (tg_name (by decide)) tgs_nil))) rfl), (et_test (ed_op (ev_var (α := Str) rfl) (ev_var (α := Str) rfl) (rv_eqS))), (ev_var (α := Int) rfl)⟩)) rv1_sum) (by omega) fun many hmany σ H hS => ?_)
      · exact Nat.lt_of_le_of_lt e3' (by decide)
      have em : many = yarnOf ss x.1 := hmany
      have yb := yarnB x.1
      clear hmany
      refine s_app hS rfl (ev_trip (ev_var (α := Str) rfl) (en_fn (α := (Int × Int)) _ (ead_pen rfl (ead_v (ev_var (α := Int) rfl) ea_nil)) ?_) (ev_var (α := (Tp Str)) rfl)) (by omega) ?_ fun p hp H hS => ?_
      · exact ⟨by omega, by omega⟩
      · (rw [List.length_map]; exact Nat.lt_of_le_of_lt tll (by decide))
      obtain ⟨q1, q2, q3⟩ := hp
      refine hN σ H _ ⟨tl ++ [p], some (.v (sh x.1)), some (.v (sh x.2)), some (.v (sh many)), J.next hx q1 q3 (by omega) (by omega), fun z => by simp, fun z => by simp, fun z => by simp, ?_⟩ (hS.up (by omega))
      rw [List.map_append]
      rfl
    rintro ρ2 ⟨tl, s6, s8, s13, J, n6, n8, n13, rfl⟩ σ H hS
    replace hS := ((hS.freeze (i := 10) rfl).freeze (i := 11) rfl).freeze (i := 17) rfl
    refine s_ret hS (ev_pair (ed_pair (ev_var (α := (List (T3 Str (Int × Int) Int))) rfl) (ev_var (α := (List (T3 Str (Int × Int) (Tp Str)))) rfl)) (ev_pair (en_cb _ (en_sortedSI (ev_var (α := (List (Str × Int))) rfl)) (fun x hx => rv1_tupL)) (ed_cb (ev_var (α := (List (T3 Str Str Int))) rfl) rv1_tupL))) (by omega) fun v H' x e hx r => ?_
    refine k v H' x (e.mono (by omega)) ?_ r
    obtain ⟨⟨x1, x2⟩, ⟨⟨y1⟩, ⟨y2⟩⟩⟩ := x
    obtain ⟨z1, ⟨ys, ⟨xs, z2, pm, pw⟩, z3⟩, z4⟩ := hx
    cases z1
    cases z2
    cases z3
    cases z4
    exact fit_ok nN nl1 nl2 nR lR mR e1 e2 w1 I J pm pw
/-- a span at a value -/
def SpanV (T : Txt K mg) (H : Hp) (v : V) (l m : Int) : Prop := ∃ a dx, v = .ref a ∧ H a = some (.ins T.C_Span dx (fs_Span (.int l) (.int m)))
theorem SpanV.kp {T : Txt K mg} {H H' : Hp} {v : V} {l m : Int} (k : Kp H H') (h : SpanV T H v l m) : SpanV T H' v l m := let ⟨a, dx, e, z⟩ := h; ⟨a, dx, e, k.ins z⟩
theorem SpanV.same {T : Txt K mg} {H H' : Hp} {v : V} {l m : Int} (k : Same H H') (h : SpanV T H v l m) : SpanV T H' v l m := h.kp (same_kp k)
/-- a span is made -/
def MkSpan (T : Txt K mg) (H : Hp) (Q : VK) (l m : Int) : Prop := ∀ (v : V) (H' : Hp), Same H H' → SpanV T H' v l m → Q v H'
theorem TyX.span {T : Txt K mg} {H : Hp} {a dx : Addr} {fs : List (Str × V)} (h : H a = some (.ins T.C_Span dx fs)) : TyX K H (.ref a) (.ref T.C_Span) := .base (.ins h T.cl_Span T.ha_Span T.hn T.ht T.mo_Span)
def sp_Span_init (T : Txt K mg) : Sp := fun vs H Q _ => ∃ (x dx : Addr) (l : Int) (y : V) (m : Int), vs = [.ref x, .int l, y] ∧ (y = .non ∧ m = l ∨ y = .int m) ∧ H x = some (.ins T.C_Span dx []) ∧
  ∀ H', But x H H' → H' x = some (.ins T.C_Span dx (fs_Span (.int l) (.int m))) → Q .non H'
theorem ok_Span_init (T : Txt K mg) : FnOk P w K mg base CX0 2 T.f_Span_init T.fd_Span_init ["self", "least", "most"] (sp_Span_init T) := by
  refine okD T.F_Span_init sc_Span_init (fun vs H Q E h => ?_) (fun cdv A outer s H vs Q E hr h => ?_)
  · obtain ⟨_, _, _, _, _, rfl, _⟩ := h; rfl
  · have hu := hu_of hr
    have hu64 := hr.units
    refine ⟨_, pss_cons (ps_fldY (pv 0) (pv 1) rfl)
      (pss_one (ps_fldY (pv 0) (pe_ifExp (pt_cmpR op_isN (pv 2) pe_non (nomark _)) (pv 1) (pv 2)) rfl)), ?_⟩
    obtain ⟨x, dx, l, y, m, rfl, hy, hx, k⟩ := h
    refine ⟨_, rfl, _, rfl, x, _, dx, _, rfl, hx, T.cl_Span, T.na_Span_least, by show 0 < 1000; decide, fun H1 b1 e1 => ?_⟩
    refine ⟨_, rfl, rfl, _, rfl, ?_⟩
    rcases hy with ⟨rfl, rfl⟩ | rfl
    · refine iteT ?_
      refine ⟨_, rfl, _, rfl, x, _, dx, _, rfl, e1, T.cl_Span, T.na_Span_most, by show 1 < 1000; decide, fun H2 b2 e2 => ?_⟩
      exact k H2 (b1.trans b2) e2
    · refine iteF ?_
      refine ⟨_, rfl, _, rfl, x, _, dx, _, rfl, e1, T.cl_Span, T.na_Span_most, by show 1 < 1000; decide, fun H2 b2 e2 => ?_⟩
      exact k H2 (b1.trans b2) e2
def sp_Span_eq (T : Txt K mg) : Sp := fun vs H Q _ => ∃ (x y : V) (l m : Int), vs = [x, y] ∧ SpanV T H x l m ∧ ((∃ l' m', SpanV T H y l' m' ∧ Q (.bl (decide (l = l') && decide (m = m'))) H) ∨
  (∃ t, TyX K H y t ∧ PySem.W.kitOne K t (.ref T.C_Span) = some false ∧ Q (.bl false) H))
theorem ok_Span_eq (T : Txt K mg) : FnOk P w K mg base CX0 2 T.f_Span_eq T.fd_Span_eq ["self", "other"] (sp_Span_eq T) := by
  refine okD T.F_Span_eq sc_Span_eq (fun vs H Q E h => ?_) (fun cdv A outer s H vs Q E hr h => ?_)
  · obtain ⟨_, _, _, _, rfl, _⟩ := h; rfl
  · have hu := hu_of hr
    have hu64 := hr.units
    refine ⟨_, pss_one (ps_ret (pe_and (pe_callB call_isi (by rfl) T.b_isinstance (by decide +kernel) (pa_cons (pv 1) (pa_cons (pe_glob (v := .ref T.C_Span) rfl T.mgc_Span rfl) pa_nil))) (pe_and (pe_cmpR op_eq (pe_fld (pv 0) (by rfl)) (pe_fld (pv 1) (by rfl)) (nomark _)) (pe_one (pe_cmpR op_eq (pe_fld (pv 0) (by rfl)) (pe_fld (pv 1) (by rfl)) (nomark _)))))), ?_⟩
    obtain ⟨x, y, l, m, rfl, ⟨a, dx, rfl, hx⟩, h⟩ := h
    rcases h with ⟨l', m', ⟨b, dy, rfl, hy⟩, k⟩ | ⟨t, ht, hk, k⟩
    · refine ⟨_, rfl, _, _, _, _, true, rfl, .own _, TyX.span hy, T.ki_Span_own, _, rfl, ?_⟩
      refine iteT ?_
      refine ⟨_, rfl, a, _, dx, _, _, rfl, hx, T.cl_Span, T.na_Span_least, fs_Span_least _ _, _, rfl, b, _, dy, _, _, rfl, hy, T.cl_Span, T.na_Span_least, fs_Span_least _ _, rfl, _, rfl, ?_⟩
      refine iteEI (fun e => ?_) (fun e => ?_)
      · refine ⟨_, rfl, a, _, dx, _, _, rfl, hx, T.cl_Span, T.na_Span_most, fs_Span_most _ _, _, rfl, b, _, dy, _, _, rfl, hy, T.cl_Span, T.na_Span_most, fs_Span_most _ _, rfl, ?_⟩
        rw [decide_eq_true e, Bool.true_and] at k
        rw [dec_int]
        exact k
      · rw [decide_eq_false e, Bool.false_and] at k
        exact k
    · refine ⟨_, rfl, _, _, _, _, false, rfl, .own _, ht, hk, _, rfl, ?_⟩
      exact iteF k
def spanSh (T : Txt K mg) (p : Int × Int) : Sh := .obj T.C_Span [(("least" : Str), .int p.1), (("most" : Str), .int p.2)]
theorem span_rp {T : Txt K mg} {H : Hp} {a dx : Addr} {l m : Int} (h : H a = some (.ins T.C_Span dx (fs_Span (.int l) (.int m)))) : Rp H (.ref a) (spanSh T (l, m)) :=
  .obj h (.cons (fs_Span_least _ _) (.int l) (.cons (fs_Span_most _ _) (.int m) .nil)) fun f z => fs_Span_no _ _ (fun e => z _ List.mem_cons_self e.symm) (fun e => z _ (List.mem_cons_of_mem _ List.mem_cons_self) e.symm)
theorem ed_at_Span_least {T : Txt K mg} {ta : TE} {ρ : Ro} {p : Int × Int} (h : Ev ta ρ 0 (Is (spanSh T p))) : Ev (α := Int) (tFld K ta ("least" : Str)) ρ 0 (Is p.1) := fun n M σ H al le env Q k =>
  ed_fld (s := .int p.1) h T.cl_Span T.na_Span_least (by simp [List.lookup]) n M σ H al le env Q fun v H' x e a r => by cases a; exact k v H' _ e rfl r
theorem ed_at_Span_most {T : Txt K mg} {ta : TE} {ρ : Ro} {p : Int × Int} (h : Ev ta ρ 0 (Is (spanSh T p))) : Ev (α := Int) (tFld K ta ("most" : Str)) ρ 0 (Is p.2) := fun n M σ H al le env Q k =>
  ed_fld (s := .int p.2) h T.cl_Span T.na_Span_most (by rw [List.lookup, show (("most" : Str) == ("least" : Str)) = false from by decide +kernel]; simp [List.lookup]) n M σ H al le env Q fun v H' x e a r => by cases a; exact k v H' _ e rfl r
theorem same_make {H H1 H2 : Hp} {x : Addr} (n : H x = none) (s : Same H H1) (b : But x H1 H2) : Same H H2 := fun a o h => by
  have ne : a ≠ x := fun e => by rw [e, n] at h; cases h
  exact b a o ne (s a o h)
theorem ev_makeSpan {T : Txt K mg} {ta tb : TE} {ρ : Ro} {l m : Int} {E : XK} (ha : Ev ta ρ 0 (Is l)) (hb : Ev tb ρ 0 (Is m)) : Ev (α := Sh) (tMakeY T.C_Span (sp_Span_init T) [] E (tCons ta (tCons tb tNil))) ρ 0 (Is (spanSh T (l, m))) := fun n M σ H al le env Q k => by
  refine ha n M σ H al le env _ fun v H1 x e1 a1 r1 => ?_
  cases a1
  cases r1
  refine hb n M σ H1 (al.ext e1) le (env.ext e1) _ fun v H2 x e2 a2 r2 => ?_
  cases a2
  cases r2
  intro x dx H3 hx hd s3 e3
  refine ⟨x, dx, l, _, m, rfl, .inr rfl, e3, fun H4 b4 e4 => ⟨rfl, k _ H4 _ ((e1.trans e2).trans (.same (same_make hx s3 b4))) rfl (span_rp (hide_of (((al.ext e1).ext e2).new hx) e4))⟩⟩
theorem ev_makeSpan1 {T : Txt K mg} {ta : TE} {ρ : Ro} {l : Int} {E : XK} (ha : Ev ta ρ 0 (Is l)) : Ev (α := Sh) (tMakeY T.C_Span (sp_Span_init T) [.non] E (tCons ta tNil)) ρ 0 (Is (spanSh T (l, l))) := fun n M σ H al le env Q k => by
  refine ha n M σ H al le env _ fun v H1 x e1 a1 r1 => ?_
  cases a1
  cases r1
  intro x dx H3 hx hd s3 e3
  refine ⟨x, dx, l, _, l, rfl, .inl ⟨rfl, rfl⟩, e3, fun H4 b4 e4 => ⟨rfl, k _ H4 _ (e1.trans (.same (same_make hx s3 b4))) rfl (span_rp (hide_of ((al.ext e1).new hx) e4))⟩⟩
def sp_Span_plus (T : Txt K mg) : Sp := spF 0 (fun _ : (Int × Int) × (Int × Int) => True) (fun t => Is (spanSh T (t.1.1 + t.2.1, t.1.2 + t.2.2))) (fun t => [.v (spanSh T t.1), .v (spanSh T t.2)])
theorem ok_Span_plus (T : Txt K mg) : FnOk P w K mg base CX0 4 T.f_Span_plus T.fd_Span_plus ["self", "other"] (sp_Span_plus T) := by
  refine okD T.F_Span_plus sc_Span_plus (fun vs H Q E h => ?_) (fun cdv A outer s H vs Q E hr h => ?_)
  · exact spF_len h fun _ => rfl
  · have hu := hu_of hr
    have hu64 := hr.units
    obtain ⟨ds_bd_Span_init_2, bd_Span_init_2⟩ := bd_Span_init_2 T
    refine ⟨_, pss_one (ps_ret (pe_makeY T.mk_Span (ok_Span_init (P := P) (w := w) (base := base) T) (hr.mono (by decide)) rfl T.mgc_Span bd_Span_init_2.2 bd_Span_init_2.1 pass0 (pa_cons (pe_op op_add (pe_fld (pv 0) (by rfl)) (pe_fld (pv 1) (by rfl))) (pa_cons (pe_op op_add (pe_fld (pv 0) (by rfl)) (pe_fld (pv 1) (by rfl))) pa_nil)))), ?_⟩
    clear hu hu64
    obtain ⟨B, ⟨p, q⟩, h0, hn, hS, k⟩ := spF_start h ["self", "other"] fun _ => ⟨rfl, rfl⟩
    refine s_ret hS (ev_makeSpan (ed_op (ed_at_Span_least (T := T) (ev_var (α := Sh) rfl)) (ed_at_Span_least (T := T) (ev_var (α := Sh) rfl)) (rv_add)) (ed_op (ed_at_Span_most (T := T) (ev_var (α := Sh) rfl)) (ed_at_Span_most (T := T) (ev_var (α := Sh) rfl)) (rv_add))) (by omega) fun v H' x e hx r => ?_
    exact k v H' x (e.mono (by omega)) hx r
def sp_copied (T : Txt K mg) : Sp := spF 0 (fun _ : Int × Int => True) (fun t => Is (spanSh T t)) (fun t => [.v (spanSh T t)])
theorem ok_copied (T : Txt K mg) : FnOk P w K mg base CX0 4 T.f_copied T.fd_copied ["span"] (sp_copied T) := by
  refine okD T.F_copied sc_copied (fun vs H Q E h => ?_) (fun cdv A outer s H vs Q E hr h => ?_)
  · exact spF_len h fun _ => rfl
  · have hu := hu_of hr
    have hu64 := hr.units
    obtain ⟨ds_bd_Span_init_2, bd_Span_init_2⟩ := bd_Span_init_2 T
    refine ⟨_, pss_one (ps_ret (pe_makeY T.mk_Span (ok_Span_init (P := P) (w := w) (base := base) T) (hr.mono (by decide)) rfl T.mgc_Span bd_Span_init_2.2 bd_Span_init_2.1 pass0 (pa_cons (pe_fld (pv 0) (by rfl)) (pa_cons (pe_fld (pv 0) (by rfl)) pa_nil)))), ?_⟩
    clear hu hu64
    obtain ⟨B, p, h0, hn, hS, k⟩ := spF_start h ["span"] fun _ => ⟨rfl, rfl⟩
    refine s_ret hS (ev_makeSpan (ed_at_Span_least (T := T) (ev_var (α := Sh) rfl)) (ed_at_Span_most (T := T) (ev_var (α := Sh) rfl))) (by omega) fun v H' x e hx r => ?_
    exact k v H' x (e.mono (by omega)) hx r
structure ShD where
  got : List (Str × (Int × Int))
  waste : List (Str × Int)
  yarn : List (Str × (Int × Int))
  makers : List (Str × List Str)
  mby : List (Str × List Str)
structure Sk where
  M0 : List Addr
  H0 : Hp
  x : Addr
  g : Addr
  w : Addr
  y : Addr
  m : Addr
  b : Addr
def Sk.six (k : Sk) : List Addr := [k.x, k.g, k.w, k.y, k.m, k.b]
def SpR (T : Txt K mg) (M : List Addr) (H : Hp) (v : V) (p : Int × Int) : Prop := Rp (hide M H) v (spanSh T p) ∧ ∃ a, v = .ref a
def Sk.own (k : Sk) (mv bv : List (Key × V)) : List Addr := k.six ++ (adr mv ++ adr bv)
structure ShC (T : Txt K mg) (k : Sk) (H : Hp) (d : ShD) (gv wv yv mv bv : List (Key × V)) : Prop where
  n1 : k.six.Nodup
  n2 : ∀ a ∈ adr mv, a ∉ k.six
  n3 : ∀ a ∈ adr bv, a ∉ k.six ∧ a ∉ adr mv
  n4 : (adr mv).Nodup
  n5 : (adr bv).Nodup
  k1 : (d.makers.map (·.1)).Nodup
  k2 : (d.mby.map (·.1)).Nodup
  e0 : Yarn.Ext 0 k.H0 H
  fr : ∀ a ∈ k.own mv bv, k.H0 a = none
  al : Al k.M0 k.H0
  hx : ∃ dx, H k.x = some (.ins T.C_Sheet dx (fs_Sheet (.ref k.g) (.ref k.w) (.ref k.y) (.ref k.m) (.ref k.b)))
  hg : H k.g = some (.dK gv)
  hw : H k.w = some (.dK wv)
  hy : H k.y = some (.dK yv)
  hm : H k.m = some (.dK mv)
  hb : H k.b = some (.dK bv)
  rg : DR (SpR T (k.own mv bv ++ k.M0) H) gv d.got
  rw : DR (fun v i => v = .int i) wv d.waste
  ry : DR (SpR T (k.own mv bv ++ k.M0) H) yv d.yarn
  rm : DR (LsR H) mv d.makers
  rb : DR (LsR H) bv d.mby
section
variable {T : Txt K mg} {k : Sk} {H H' : Hp} {d : ShD} {gv wv yv mv bv : List (Key × V)}
theorem refs_DR {β : Type} {R : V → β → Prop} {kv : List (Key × V)} {l : List (Str × β)} (h : DR R kv l) (i : ∀ v b, R v b → ∃ a, v = .ref a) : ∀ p ∈ kv, ∃ a, p.2 = .ref a := fun p m => let ⟨b, r⟩ := h.vals p m; i _ _ r
theorem ShC.own_al (h : ShC T k H d gv wv yv mv bv) : Al (k.own mv bv ++ k.M0) H := fun a m => by
  rcases List.mem_append.mp m with m | m
  · rcases List.mem_append.mp m with m | m
    · unfold Sk.six at m
      simp only [List.mem_cons, List.not_mem_nil, or_false] at m
      rcases m with rfl | rfl | rfl | rfl | rfl | rfl
      · obtain ⟨dx, e⟩ := h.hx; exact ⟨_, (show NotPen (.ins _ _ _) from trivial), e⟩
      · exact ⟨_, notPen_refs (refs_DR h.rg fun v b r => r.2), h.hg⟩
      · exact ⟨_, notPen_ints (fun p m => h.rw.vals p m), h.hw⟩
      · exact ⟨_, notPen_refs (refs_DR h.ry fun v b r => r.2), h.hy⟩
      · exact ⟨_, notPen_refs (refs_DR h.rm fun v b r => let ⟨a, e, _⟩ := r; ⟨a, e⟩), h.hm⟩
      · exact ⟨_, notPen_refs (refs_DR h.rb fun v b r => let ⟨a, e, _⟩ := r; ⟨a, e⟩), h.hb⟩
    · rcases List.mem_append.mp m with m | m
      · obtain ⟨p, mp, rfl⟩ := List.mem_map.mp m
        obtain ⟨xs, a, e1, e2⟩ := h.rm.vals p mp
        exact ⟨_, (show NotPen (.lst _) from trivial), by rw [e1]; exact e2⟩
      · obtain ⟨p, mp, rfl⟩ := List.mem_map.mp m
        obtain ⟨xs, a, e1, e2⟩ := h.rb.vals p mp
        exact ⟨_, (show NotPen (.lst _) from trivial), by rw [e1]; exact e2⟩
  · obtain ⟨o, no, e⟩ := h.al a m
    exact ⟨o, no, h.e0.keep a o no e⟩
theorem ShC.ext (h : ShC T k H d gv wv yv mv bv) (e : Yarn.Ext 0 H H') : ShC T k H' d gv wv yv mv bv := by
  have o : ∀ a ∈ k.own mv bv, ∀ u, NotPen u → H a = some u → H' a = some u := fun a m u no z => e.keep a u no z
  refine { h with e0 := (h.e0.trans e).mono (by omega), hx := ?_, hg := ?_, hw := ?_, hy := ?_, hm := ?_, hb := ?_, rg := ?_, ry := ?_, rm := ?_, rb := ?_ }
  · obtain ⟨dx, z⟩ := h.hx; exact ⟨dx, e.keep _ _ trivial z⟩
  · exact e.keep _ _ (notPen_refs (refs_DR h.rg fun v b r => r.2)) h.hg
  · exact e.keep _ _ (notPen_ints (fun p m => h.rw.vals p m)) h.hw
  · exact e.keep _ _ (notPen_refs (refs_DR h.ry fun v b r => r.2)) h.hy
  · exact e.keep _ _ (notPen_refs (refs_DR h.rm fun v b r => let ⟨a, e, _⟩ := r; ⟨a, e⟩)) h.hm
  · exact e.keep _ _ (notPen_refs (refs_DR h.rb fun v b r => let ⟨a, e, _⟩ := r; ⟨a, e⟩)) h.hb
  · exact h.rg.imp fun v b r => ⟨r.1.ext e.hide, r.2⟩
  · exact h.ry.imp fun v b r => ⟨r.1.ext e.hide, r.2⟩
  · exact h.rm.imp fun v b ⟨a, e1, e2⟩ => ⟨a, e1, e.keep _ _ trivial e2⟩
  · exact h.rb.imp fun v b ⟨a, e1, e2⟩ => ⟨a, e1, e.keep _ _ trivial e2⟩
/-- what was there ahead -/
theorem ShC.old (h : ShC T k H d gv wv yv mv bv) {v : V} {s : Sh} (r : Rp (hide k.M0 k.H0) v s) : Rp (hide (k.own mv bv ++ k.M0) H) v s := r.ext (ext_hid h.e0 h.fr)
theorem six_mem {a : Addr} (h : a ∈ k.six) : a ∈ k.own mv bv := List.mem_append_left _ h
theorem ls_upd {kv : List (Key × V)} {l : List (Str × List Str)} {a : Addr} {o : HO} (h : DR (LsR H) kv l) (n : ∀ c ∈ adr kv, c ≠ a) : DR (LsR (upd H a o)) kv l :=
  h.impM fun p m b ⟨c, e1, e2⟩ => ⟨c, e1, by rw [upd_ne (n c (List.mem_map.mpr ⟨p, m, by rw [e1]; rfl⟩))]; exact e2⟩
theorem ShC.putG (h : ShC T k H d gv wv yv mv bv) {n : Str} {v : V} {p : Int × Int} (r : SpR T (k.own mv bv ++ k.M0) H v p) :
    ShC T k (upd H k.g (.dK (putK gv (.inr n) v))) { d with got := putA d.got n p } (putK gv (.inr n) v) wv yv mv bv := by
  have n1 := h.n1
  unfold Sk.six at n1
  simp only [List.nodup_cons, List.mem_cons, List.not_mem_nil, or_false, not_or] at n1
  have mg' : k.g ∈ k.six := by unfold Sk.six; simp
  have hh : hide (k.own mv bv ++ k.M0) (upd H k.g (.dK (putK gv (.inr n) v))) = hide (k.own mv bv ++ k.M0) H := upd_hide (List.mem_append_left _ (six_mem mg'))
  refine { h with e0 := ext_upd h.e0 (h.fr _ (six_mem mg')), hx := ?_, hg := upd_same, hw := ?_, hy := ?_, hm := ?_, hb := ?_, rg := ?_, ry := ?_, rm := ?_, rb := ?_ }
  · obtain ⟨dx, z⟩ := h.hx; exact ⟨dx, by rw [upd_ne n1.1.1]; exact z⟩
  · rw [upd_ne (Ne.symm n1.2.1.1)]; exact h.hw
  · rw [upd_ne (Ne.symm n1.2.1.2.1)]; exact h.hy
  · rw [upd_ne (Ne.symm n1.2.1.2.2.1)]; exact h.hm
  · rw [upd_ne (Ne.symm n1.2.1.2.2.2)]; exact h.hb
  · unfold SpR; rw [hh]; exact h.rg.put n r
  · unfold SpR; rw [hh]; exact h.ry
  · exact ls_upd h.rm fun c m z => h.n2 c m (z ▸ mg')
  · exact ls_upd h.rb fun c m z => (h.n3 c m).1 (z ▸ mg')
theorem ShC.putY (h : ShC T k H d gv wv yv mv bv) {n : Str} {v : V} {p : Int × Int} (r : SpR T (k.own mv bv ++ k.M0) H v p) :
    ShC T k (upd H k.y (.dK (putK yv (.inr n) v))) { d with yarn := putA d.yarn n p } gv wv (putK yv (.inr n) v) mv bv := by
  have n1 := h.n1
  unfold Sk.six at n1
  simp only [List.nodup_cons, List.mem_cons, List.not_mem_nil, or_false, not_or] at n1
  have mg' : k.y ∈ k.six := by unfold Sk.six; simp
  have hh : hide (k.own mv bv ++ k.M0) (upd H k.y (.dK (putK yv (.inr n) v))) = hide (k.own mv bv ++ k.M0) H := upd_hide (List.mem_append_left _ (six_mem mg'))
  refine { h with e0 := ext_upd h.e0 (h.fr _ (six_mem mg')), hx := ?_, hg := ?_, hw := ?_, hy := upd_same, hm := ?_, hb := ?_, rg := ?_, ry := ?_, rm := ?_, rb := ?_ }
  · obtain ⟨dx, z⟩ := h.hx; exact ⟨dx, by rw [upd_ne n1.1.2.2.1]; exact z⟩
  · rw [upd_ne n1.2.1.2.1]; exact h.hg
  · rw [upd_ne n1.2.2.1.1]; exact h.hw
  · rw [upd_ne (Ne.symm n1.2.2.2.1.1)]; exact h.hm
  · rw [upd_ne (Ne.symm n1.2.2.2.1.2)]; exact h.hb
  · unfold SpR; rw [hh]; exact h.rg
  · unfold SpR; rw [hh]; exact h.ry.put n r
  · exact ls_upd h.rm fun c m z => h.n2 c m (z ▸ mg')
  · exact ls_upd h.rb fun c m z => (h.n3 c m).1 (z ▸ mg')
theorem ShC.putW (h : ShC T k H d gv wv yv mv bv) {n : Str} {i : Int} :
    ShC T k (upd H k.w (.dK (putK wv (.inr n) (.int i)))) { d with waste := putA d.waste n i } gv (putK wv (.inr n) (.int i)) yv mv bv := by
  have n1 := h.n1
  unfold Sk.six at n1
  simp only [List.nodup_cons, List.mem_cons, List.not_mem_nil, or_false, not_or] at n1
  have mg' : k.w ∈ k.six := by unfold Sk.six; simp
  have hh : hide (k.own mv bv ++ k.M0) (upd H k.w (.dK (putK wv (.inr n) (.int i)))) = hide (k.own mv bv ++ k.M0) H := upd_hide (List.mem_append_left _ (six_mem mg'))
  refine { h with e0 := ext_upd h.e0 (h.fr _ (six_mem mg')), hx := ?_, hg := ?_, hw := upd_same, hy := ?_, hm := ?_, hb := ?_, rg := ?_, rw := ?_, ry := ?_, rm := ?_, rb := ?_ }
  · obtain ⟨dx, z⟩ := h.hx; exact ⟨dx, by rw [upd_ne n1.1.2.1]; exact z⟩
  · rw [upd_ne n1.2.1.1]; exact h.hg
  · rw [upd_ne (Ne.symm n1.2.2.1.1)]; exact h.hy
  · rw [upd_ne (Ne.symm n1.2.2.1.2.1)]; exact h.hm
  · rw [upd_ne (Ne.symm n1.2.2.1.2.2)]; exact h.hb
  · unfold SpR; rw [hh]; exact h.rg
  · exact h.rw.put n rfl
  · unfold SpR; rw [hh]; exact h.ry
  · exact ls_upd h.rm fun c m z => h.n2 c m (z ▸ mg')
  · exact ls_upd h.rb fun c m z => (h.n3 c m).1 (z ▸ mg')
theorem putK_none {kv : List (Key × V)} {n : Key} {v : V} (h : valV kv n = none) : putK kv n v = kv ++ [(n, v)] := by
  unfold putK
  rw [if_neg]
  intro z
  obtain ⟨p, m, e⟩ := List.any_eq_true.mp z
  unfold valV at h
  rw [Option.map_eq_none_iff, List.find?_eq_none] at h
  exact h p m e
theorem putA_none {β : Type} {l : List (Str × β)} {n : Str} {b : β} (h : l.lookup n = none) : putA l n b = l ++ [(n, b)] ∧ n ∉ l.map (·.1) := by
  have z : n ∉ l.map (·.1) := fun m => by
    obtain ⟨p, mp, e⟩ := List.mem_map.mp m
    rw [List.lookup_eq_none_iff] at h
    have := h p mp
    simp [e] at this
  refine ⟨?_, z⟩
  unfold putA
  rw [if_neg]
  intro q
  obtain ⟨p, m, e⟩ := List.any_eq_true.mp q
  exact z (List.mem_map.mpr ⟨p, m, of_decide_eq_true e⟩)
theorem same_new {M M' : List Addr} {H H' : Hp} (h : ∀ a o, a ∉ M → H a = some o → a ∉ M' ∧ H' a = some o) : Same (hide M H) (hide M' H') := fun a o z => hide_of (h a o (hide_some z).1 (hide_some z).2).1 (h a o (hide_some z).1 (hide_some z).2).2
/-- a home of no pieces yet -/
theorem ShC.newB (h : ShC T k H d gv wv yv mv bv) {n : Str} {p : Addr} {H2 : Hp} (hp : H p = none) (s2 : Same H H2) (e2 : H2 p = some (.lst [])) (hn : valV bv (.inr n) = none) :
    ShC T k (upd H2 k.b (.dK (putK bv (.inr n) (.ref p)))) { d with mby := putA d.mby n [] } gv wv yv mv (putK bv (.inr n) (.ref p)) := by
  have n1 := h.n1
  unfold Sk.six at n1
  simp only [List.nodup_cons, List.mem_cons, List.not_mem_nil, or_false, not_or] at n1
  have mg' : k.b ∈ k.six := by unfold Sk.six; simp
  have al := h.own_al
  have pn : p ∉ k.own mv bv ++ k.M0 := al.new hp
  have pno : p ∉ k.own mv bv := fun m => pn (List.mem_append_left _ m)
  have pn6 : p ∉ k.six := fun m => pno (six_mem m)
  have pnm : p ∉ adr mv := fun m => pno (List.mem_append_right _ (List.mem_append_left _ m))
  have pnb : p ∉ adr bv := fun m => pno (List.mem_append_right _ (List.mem_append_right _ m))
  have np : ∀ {a o}, H a = some o → a ≠ p := fun {a o} e z => by rw [z, hp] at e; cases e
  have h0p : k.H0 p = none := h.e0.dom hp
  have lk : d.mby.lookup n = none := by
    rcases h.rb.val n with ⟨_, z⟩ | ⟨v, b, z, _⟩
    · exact z
    · rw [hn] at z; cases z
  obtain ⟨pa, pk⟩ := putA_none (b := ([] : List Str)) lk
  rw [putK_none hn, pa]
  have ad : adr (bv ++ [((.inr n : Key), V.ref p)]) = adr bv ++ [p] := by unfold adr; rw [List.map_append]; rfl
  have ow : k.own mv (bv ++ [((.inr n : Key), V.ref p)]) = k.own mv bv ++ [p] := by unfold Sk.own; rw [ad, List.append_assoc, List.append_assoc]
  have ss : Same (hide (k.own mv bv ++ k.M0) H) (hide (k.own mv (bv ++ [((.inr n : Key), V.ref p)]) ++ k.M0) (upd H2 k.b (.dK (bv ++ [((.inr n : Key), V.ref p)])))) := same_new fun a o m e => by
    refine ⟨fun q => ?_, ?_⟩
    · rw [ow] at q
      rcases List.mem_append.mp q with q | q
      · rcases List.mem_append.mp q with q | q
        · exact m (List.mem_append_left _ q)
        · exact np e (List.mem_singleton.mp q)
      · exact m (List.mem_append_right _ q)
    · rw [upd_ne (fun (z : a = k.b) => m (List.mem_append_left _ (six_mem (by rw [z]; exact mg'))))]
      exact s2 _ _ e
  have kb : ∀ {a o}, H a = some o → a ≠ k.b → (upd H2 k.b (.dK (bv ++ [((.inr n : Key), V.ref p)]))) a = some o := fun {a o} e z => by
    rw [upd_ne z]; exact s2 _ _ e
  refine { h with n3 := ?_, n5 := ?_, k2 := ?_, e0 := ext_upd ((h.e0.trans (.same s2)).mono (by omega)) (h.fr _ (six_mem mg')), fr := ?_, hx := ?_, hg := kb h.hg n1.2.1.2.2.2, hw := kb h.hw n1.2.2.1.2.2, hy := kb h.hy n1.2.2.2.1.2, hm := kb h.hm n1.2.2.2.2.1, hb := upd_same, rg := ?_, ry := ?_, rm := ?_, rb := ?_ }
  · intro a m
    rw [ad] at m
    rcases List.mem_append.mp m with m | m
    · exact h.n3 a m
    · rw [List.mem_singleton.mp m]; exact ⟨pn6, pnm⟩
  · rw [ad]
    exact List.nodup_append.mpr ⟨h.n5, by simp, fun a m c mc e => pnb (by rw [List.mem_singleton.mp mc] at e; rw [← e]; exact m)⟩
  · show ((d.mby ++ [(n, ([] : List Str))]).map (·.1)).Nodup
    rw [List.map_append]
    exact List.nodup_append.mpr ⟨h.k2, by simp, fun a m c mc e => pk (by rw [List.map_singleton, List.mem_singleton] at mc; rw [← show a = n from e.trans mc]; exact m)⟩
  · intro a m
    rw [ow] at m
    rcases List.mem_append.mp m with m | m
    · exact h.fr a m
    · rw [List.mem_singleton.mp m]; exact h0p
  · obtain ⟨dx, z⟩ := h.hx; exact ⟨dx, kb z n1.1.2.2.2.2⟩
  · exact h.rg.imp fun v b r => ⟨r.1.same ss, r.2⟩
  · exact h.ry.imp fun v b r => ⟨r.1.same ss, r.2⟩
  · exact h.rm.impM fun q m b ⟨c, e1, e2⟩ => ⟨c, e1, kb e2 fun z => h.n2 c (List.mem_map.mpr ⟨q, m, by rw [e1]; rfl⟩) (z ▸ mg')⟩
  · refine DR.app (h.rb.impM fun q m b ⟨c, e1, e2⟩ => ⟨c, e1, kb e2 fun z => (h.n3 c (List.mem_map.mpr ⟨q, m, by rw [e1]; rfl⟩)).1 (z ▸ mg')⟩) (.cons ⟨p, rfl, ?_⟩ .nil)
    rw [upd_ne (fun (z : p = k.b) => pn6 (by rw [z]; exact mg'))]
    exact e2
/-- a piece of no makers yet -/
theorem ShC.newM (h : ShC T k H d gv wv yv mv bv) {n : Str} {p : Addr} {H2 : Hp} (hp : H p = none) (s2 : Same H H2) (e2 : H2 p = some (.lst [])) (hn : valV mv (.inr n) = none) :
    ShC T k (upd H2 k.m (.dK (putK mv (.inr n) (.ref p)))) { d with makers := putA d.makers n [] } gv wv yv (putK mv (.inr n) (.ref p)) bv := by
  have n1 := h.n1
  unfold Sk.six at n1
  simp only [List.nodup_cons, List.mem_cons, List.not_mem_nil, or_false, not_or] at n1
  have mg' : k.m ∈ k.six := by unfold Sk.six; simp
  have al := h.own_al
  have pn : p ∉ k.own mv bv ++ k.M0 := al.new hp
  have pno : p ∉ k.own mv bv := fun m => pn (List.mem_append_left _ m)
  have pn6 : p ∉ k.six := fun m => pno (six_mem m)
  have pnm : p ∉ adr mv := fun m => pno (List.mem_append_right _ (List.mem_append_left _ m))
  have pnb : p ∉ adr bv := fun m => pno (List.mem_append_right _ (List.mem_append_right _ m))
  have np : ∀ {a o}, H a = some o → a ≠ p := fun {a o} e z => by rw [z, hp] at e; cases e
  have h0p : k.H0 p = none := h.e0.dom hp
  have lk : d.makers.lookup n = none := by
    rcases h.rm.val n with ⟨_, z⟩ | ⟨v, b, z, _⟩
    · exact z
    · rw [hn] at z; cases z
  obtain ⟨pa, pk⟩ := putA_none (b := ([] : List Str)) lk
  rw [putK_none hn, pa]
  have ad : adr (mv ++ [((.inr n : Key), V.ref p)]) = adr mv ++ [p] := by unfold adr; rw [List.map_append]; rfl
  have ow : ∀ a, a ∈ k.own (mv ++ [((.inr n : Key), V.ref p)]) bv → a ∈ k.own mv bv ∨ a = p := fun a q => by
    unfold Sk.own at q ⊢
    rw [ad] at q
    simp only [List.mem_append, List.mem_singleton] at q ⊢
    rcases q with q | (q | q) | q
    · exact .inl (.inl q)
    · exact .inl (.inr (.inl q))
    · exact .inr q
    · exact .inl (.inr (.inr q))
  have ss : Same (hide (k.own mv bv ++ k.M0) H) (hide (k.own (mv ++ [((.inr n : Key), V.ref p)]) bv ++ k.M0) (upd H2 k.m (.dK (mv ++ [((.inr n : Key), V.ref p)])))) := same_new fun a o m e => by
    refine ⟨fun q => ?_, ?_⟩
    · rcases List.mem_append.mp q with q | q
      · rcases ow a q with q | q
        · exact m (List.mem_append_left _ q)
        · exact np e q
      · exact m (List.mem_append_right _ q)
    · rw [upd_ne (fun (z : a = k.m) => m (List.mem_append_left _ (six_mem (by rw [z]; exact mg'))))]
      exact s2 _ _ e
  have kb : ∀ {a o}, H a = some o → a ≠ k.m → (upd H2 k.m (.dK (mv ++ [((.inr n : Key), V.ref p)]))) a = some o := fun {a o} e z => by
    rw [upd_ne z]; exact s2 _ _ e
  refine { h with n2 := ?_, n3 := ?_, n4 := ?_, k1 := ?_, e0 := ext_upd ((h.e0.trans (.same s2)).mono (by omega)) (h.fr _ (six_mem mg')), fr := ?_, hx := ?_, hg := kb h.hg n1.2.1.2.2.1, hw := kb h.hw n1.2.2.1.2.1, hy := kb h.hy n1.2.2.2.1.1, hm := upd_same, hb := kb h.hb (Ne.symm n1.2.2.2.2.1), rg := ?_, ry := ?_, rm := ?_, rb := ?_ }
  · intro a m
    rw [ad] at m
    rcases List.mem_append.mp m with m | m
    · exact h.n2 a m
    · rw [List.mem_singleton.mp m]; exact pn6
  · intro a m
    refine ⟨(h.n3 a m).1, fun q => ?_⟩
    rw [ad] at q
    rcases List.mem_append.mp q with q | q
    · exact (h.n3 a m).2 q
    · exact pnb (by rw [← List.mem_singleton.mp q]; exact m)
  · rw [ad]
    exact List.nodup_append.mpr ⟨h.n4, by simp, fun a m c mc e => pnm (by rw [List.mem_singleton.mp mc] at e; rw [← e]; exact m)⟩
  · show ((d.makers ++ [(n, ([] : List Str))]).map (·.1)).Nodup
    rw [List.map_append]
    exact List.nodup_append.mpr ⟨h.k1, by simp, fun a m c mc e => pk (by rw [List.map_singleton, List.mem_singleton] at mc; rw [← show a = n from e.trans mc]; exact m)⟩
  · intro a m
    rcases ow a m with m | m
    · exact h.fr a m
    · rw [m]; exact h0p
  · obtain ⟨dx, z⟩ := h.hx; exact ⟨dx, kb z n1.1.2.2.2.1⟩
  · exact h.rg.imp fun v b r => ⟨r.1.same ss, r.2⟩
  · exact h.ry.imp fun v b r => ⟨r.1.same ss, r.2⟩
  · refine DR.app (h.rm.impM fun q m b ⟨c, e1, e2⟩ => ⟨c, e1, kb e2 fun z => h.n2 c (List.mem_map.mpr ⟨q, m, by rw [e1]; rfl⟩) (z ▸ mg')⟩) (.cons ⟨p, rfl, ?_⟩ .nil)
    rw [upd_ne (fun (z : p = k.m) => pn6 (by rw [z]; exact mg'))]
    exact e2
  · exact h.rb.impM fun q m b ⟨c, e1, e2⟩ => ⟨c, e1, kb e2 fun z => (h.n3 c (List.mem_map.mpr ⟨q, m, by rw [e1]; rfl⟩)).1 (z ▸ mg')⟩
theorem putA_some {β : Type} {l : List (Str × β)} {n : Str} {b c : β} (h : l.lookup n = some c) : putA l n b = l.map (fun p => if p.1 = n then (p.1, b) else p) := by
  unfold putA
  rw [if_pos]
  obtain ⟨l1, l2, e, _⟩ := List.lookup_eq_some_iff.mp h
  rw [e, List.any_append, List.any_cons, decide_eq_true rfl, Bool.true_or, Bool.or_true]
theorem map_fst {β : Type} {l : List (Str × β)} {n : Str} {b : β} : (l.map (fun p => if p.1 = n then (p.1, b) else p)).map (·.1) = l.map (·.1) := by
  rw [List.map_map]
  exact List.map_congr_left fun p _ => by show (if p.1 = n then (p.1, b) else p).1 = p.1; split <;> rfl
theorem val_adr {kv : List (Key × V)} {n : Key} {a : Addr} (h : valV kv n = some (.ref a)) : a ∈ adr kv := by
  unfold valV at h
  obtain ⟨p, hp, q⟩ := Option.map_eq_some_iff.mp h
  exact List.mem_map.mpr ⟨p, List.mem_of_find?_eq_some hp, by rw [q]; rfl⟩
/-- a maker more -/
theorem ShC.appM (h : ShC T k H d gv wv yv mv bv) {n : Str} {a : Addr} {xs ys : List Str} (hv : valV mv (.inr n) = some (.ref a)) (hl : d.makers.lookup n = some xs) :
    ShC T k (upd H a (.lst (ys.map V.str))) { d with makers := putA d.makers n ys } gv wv yv mv bv := by
  have am := val_adr hv
  have ao : a ∈ k.own mv bv := List.mem_append_right _ (List.mem_append_left _ am)
  have a6 := h.n2 a am
  unfold Sk.six at a6
  simp only [List.mem_cons, List.not_mem_nil, or_false, not_or] at a6
  have hh : hide (k.own mv bv ++ k.M0) (upd H a (.lst (ys.map V.str))) = hide (k.own mv bv ++ k.M0) H := upd_hide (List.mem_append_left _ ao)
  refine { h with k1 := ?_, e0 := ext_upd h.e0 (h.fr _ ao), hx := ?_, hg := ?_, hw := ?_, hy := ?_, hm := ?_, hb := ?_, rg := ?_, ry := ?_, rm := ?_, rb := ?_ }
  · show ((putA d.makers n ys).map (·.1)).Nodup
    rw [putA_some hl, map_fst]; exact h.k1
  · obtain ⟨dx, z⟩ := h.hx; exact ⟨dx, by rw [upd_ne (Ne.symm a6.1)]; exact z⟩
  · rw [upd_ne (Ne.symm a6.2.1)]; exact h.hg
  · rw [upd_ne (Ne.symm a6.2.2.1)]; exact h.hw
  · rw [upd_ne (Ne.symm a6.2.2.2.1)]; exact h.hy
  · rw [upd_ne (Ne.symm a6.2.2.2.2.1)]; exact h.hm
  · rw [upd_ne (Ne.symm a6.2.2.2.2.2)]; exact h.hb
  · unfold SpR; rw [hh]; exact h.rg
  · unfold SpR; rw [hh]; exact h.ry
  · show DR _ mv (putA d.makers n ys)
    rw [putA_some hl]
    exact h.rm.list h.n4 h.k1 hv
  · exact ls_upd h.rb fun c m z => (h.n3 c m).2 (by rw [z]; exact am)
/-- a piece more -/
theorem ShC.appB (h : ShC T k H d gv wv yv mv bv) {n : Str} {a : Addr} {xs ys : List Str} (hv : valV bv (.inr n) = some (.ref a)) (hl : d.mby.lookup n = some xs) :
    ShC T k (upd H a (.lst (ys.map V.str))) { d with mby := putA d.mby n ys } gv wv yv mv bv := by
  have am := val_adr hv
  have ao : a ∈ k.own mv bv := List.mem_append_right _ (List.mem_append_right _ am)
  have a6 := (h.n3 a am).1
  unfold Sk.six at a6
  simp only [List.mem_cons, List.not_mem_nil, or_false, not_or] at a6
  have hh : hide (k.own mv bv ++ k.M0) (upd H a (.lst (ys.map V.str))) = hide (k.own mv bv ++ k.M0) H := upd_hide (List.mem_append_left _ ao)
  refine { h with k2 := ?_, e0 := ext_upd h.e0 (h.fr _ ao), hx := ?_, hg := ?_, hw := ?_, hy := ?_, hm := ?_, hb := ?_, rg := ?_, ry := ?_, rm := ?_, rb := ?_ }
  · show ((putA d.mby n ys).map (·.1)).Nodup
    rw [putA_some hl, map_fst]; exact h.k2
  · obtain ⟨dx, z⟩ := h.hx; exact ⟨dx, by rw [upd_ne (Ne.symm a6.1)]; exact z⟩
  · rw [upd_ne (Ne.symm a6.2.1)]; exact h.hg
  · rw [upd_ne (Ne.symm a6.2.2.1)]; exact h.hw
  · rw [upd_ne (Ne.symm a6.2.2.2.1)]; exact h.hy
  · rw [upd_ne (Ne.symm a6.2.2.2.2.1)]; exact h.hm
  · rw [upd_ne (Ne.symm a6.2.2.2.2.2)]; exact h.hb
  · unfold SpR; rw [hh]; exact h.rg
  · unfold SpR; rw [hh]; exact h.ry
  · exact ls_upd h.rm fun c m z => (h.n3 a am).2 (by rw [← z]; exact m)
  · show DR _ bv (putA d.mby n ys)
    rw [putA_some hl]
    exact h.rb.list h.n5 h.k2 hv
theorem span_inv {M : List Addr} {v : V} {p : Int × Int} (r : Rp (hide M H) v (spanSh T p)) : ∃ a dx fs, v = .ref a ∧ H a = some (.ins T.C_Span dx fs) ∧ ∀ f : Str, ¬ f = ("least" : Str) → ¬ f = ("most" : Str) → fs.lookup f = none := by
  unfold spanSh at r
  cases r with
  | obj e rf no =>
    refine ⟨_, _, _, rfl, (hide_some e).2, fun f n1 n2 => no f fun q m => ?_⟩
    rcases List.mem_cons.mp m with rfl | m
    · exact fun z => n1 z.symm
    · rw [List.mem_singleton.mp m]; exact fun z => n2 z.symm
def addG (d : ShD) (e : Give) : ShD :=
  { got := putA d.got e.a (((d.got.lookup e.a).getD (0, 0)).1 + e.b.1, ((d.got.lookup e.a).getD (0, 0)).2 + e.b.2), waste := putA d.waste e.a ((d.waste.lookup e.a).getD 0 + e.c),
    yarn := d.yarn, makers := d.makers, mby := if d.mby.lookup e.a = none then putA d.mby e.a [] else d.mby }
end
def sp_Sheetadd_give (T : Txt K mg) : Sp := fun vs H Q _ => ∃ (k : Sk) (d : ShD) (gv wv yv mv bv : List (Key × V)) (e : Give) (v : V), vs = [.ref k.x, .str e.a, v, .int e.c] ∧ ShC T k H d gv wv yv mv bv ∧ Rp (hide k.M0 k.H0) v (spanSh T e.b) ∧ (d.got.length < 1000 ∧ d.waste.length < 1000 ∧ d.mby.length < 1000) ∧
  ∀ H' gv' wv' bv', ShC T k H' (addG d e) gv' wv' yv mv bv' → Q .non H'
theorem ok_Sheetadd_give (T : Txt K mg) : FnOk P w K mg base CX0 5 T.f_Sheetadd_give T.fd_Sheetadd_give ["self", "home", "got", "waste"] (sp_Sheetadd_give T) := by
  refine okD T.F_Sheetadd_give sc_Sheetadd_give (fun vs H Q E h => ?_) (fun cdv A outer s H vs Q E hr h => ?_)
  · obtain ⟨_, _, _, _, _, _, _, _, _, rfl, _⟩ := h; rfl
  · have hu := hu_of hr
    have hu64 := hr.units
    obtain ⟨ds_bd_Span_init_1, bd_Span_init_1⟩ := bd_Span_init_1 T
    refine ⟨_, pss_cons (ps_dput hu (pe_fld (pv 0) (by rfl)) (pv 1) (pe_meth (pe_dget2 hu (pe_fld (pv 0) (by rfl)) (pv 1) (pe_makeY T.mk_Span (ok_Span_init (P := P) (w := w) (base := base) T) (hr.mono (by decide)) rfl T.mgc_Span bd_Span_init_1.2 bd_Span_init_1.1 pass0 (pa_cons pe_int pa_nil)) ⟨rfl, rfl, rfl, rfl⟩) T.cl_Span T.m_Span_plus (ok_Span_plus (P := P) (w := w) (base := base) T) (hr.mono (by decide)) (T.b_Span_plus) .nil pass0 (pa_cons (pv 2) pa_nil)) rfl)
      (pss_cons (ps_dput hu (pe_fld (pv 0) (by rfl)) (pv 1) (pe_op op_add (pe_dget2 hu (pe_fld (pv 0) (by rfl)) (pv 1) pe_int ⟨rfl, rfl, rfl, rfl⟩) (pv 3)) rfl)
      (pss_one (ps_expr (pe_dsetd (pe_fld (pv 0) (by rfl)) (pv 1) (pe_lstY pa_nil) ⟨rfl, rfl, rfl, rfl⟩)))), ?_⟩
    clear hu hu64
    obtain ⟨K0, d, gv, wv, yv, mv, bv, e, v, rfl, h, rv, ⟨l1, l2, l3⟩, k⟩ := h
    obtain ⟨dx, hx⟩ := h.hx
    refine ⟨_, rfl, K0.x, _, dx, _, _, rfl, hx, T.cl_Sheet, T.na_Sheet__got, fs_Sheet__got _ _ _ _ _, K0.g, rfl, .inl ⟨gv, .inl h.hg⟩, _, rfl, ?_⟩
    intro sx sdx H2 n1 n2 s2 e2
    refine ⟨sx, sdx, 0, _, 0, rfl, .inl ⟨rfl, rfl⟩, e2, fun H3 b3 e3 => ⟨rfl, ?_⟩⟩
    have sx3 := same_make n1 s2 b3
    have h3 := h.ext (.same sx3)
    refine ⟨valV gv (.inr e.a), .inl ⟨gv, .inr e.a, .inl h3.hg, rfl, rfl⟩, ?_⟩
    have rr : Rp (hide (K0.own mv bv ++ K0.M0) H3) ((valV gv (.inr e.a)).getD (.ref sx)) (spanSh T ((d.got.lookup e.a).getD (0, 0))) := by
      rcases h3.rg.val e.a with ⟨z1, z2⟩ | ⟨u, q, z1, z2, r⟩
      · rw [z1, z2]
        exact span_rp (hide_of (h.own_al.new n1) e3)
      · rw [z1, z2]
        exact r.1
    obtain ⟨ra, rdx, rfs, er, ea, no⟩ := span_inv rr
    refine ⟨ra, rdx, rfs, er, ea, no _ (by decide +kernel) (by decide +kernel), _, rfl, ?_⟩
    refine ⟨0, K0.own mv bv ++ K0.M0, [.v (spanSh T ((d.got.lookup e.a).getD (0, 0))), .v (spanSh T e.b)], _, h3.own_al, by unfold LIM; omega, slAll_cons rr (slAll_cons (h3.old rv) slAll_nil), ⟨((d.got.lookup e.a).getD (0, 0), e.b), trivial, rfl, rfl⟩, fun u H4 s e4 sa ru => ?_⟩
    obtain ⟨_, rfl, rfl⟩ := sa
    have h4 := h3.ext e4
    obtain ⟨dx4, hx4⟩ := h4.hx
    obtain ⟨ua, _, _, eu, _, _⟩ := span_inv ru
    refine ⟨_, rfl, K0.x, _, dx4, _, _, rfl, hx4, T.cl_Sheet, T.na_Sheet__got, fs_Sheet__got _ _ _ _ _, _, rfl, K0.g, _, rfl, .inl ⟨gv, .inr e.a, h4.hg, rfl, by rw [h.rg.len]; exact Nat.lt_trans l1 (by decide), rfl⟩, ?_⟩
    have h5 := h4.putG (n := e.a) ⟨ru, ua, eu⟩
    obtain ⟨dx5, hx5⟩ := h5.hx
    refine ⟨_, rfl, K0.x, _, dx5, _, _, rfl, hx5, T.cl_Sheet, T.na_Sheet__waste, fs_Sheet__waste _ _ _ _ _, K0.w, rfl, .inl ⟨wv, .inl h5.hw⟩, _, rfl, valV wv (.inr e.a), .inl ⟨wv, .inr e.a, .inl h5.hw, rfl, rfl⟩, _, rfl, ?_⟩
    have ww : (valV wv (.inr e.a)).getD (.int 0) = .int ((d.waste.lookup e.a).getD 0) := by
      rcases h5.rw.val e.a with ⟨z1, z2⟩ | ⟨u, q, z1, z2, r⟩
      · rw [z1, z2]; rfl
      · rw [z1, z2, r]; rfl
    refine ⟨_, _, ww, rfl, ?_⟩
    refine ⟨_, rfl, K0.x, _, dx5, _, _, rfl, hx5, T.cl_Sheet, T.na_Sheet__waste, fs_Sheet__waste _ _ _ _ _, _, rfl, K0.w, _, rfl, .inl ⟨wv, .inr e.a, h5.hw, rfl, by rw [h.rw.len]; exact Nat.lt_trans l2 (by decide), rfl⟩, ?_⟩
    have h6 := h5.putW (n := e.a) (i := (d.waste.lookup e.a).getD 0 + e.c)
    obtain ⟨dx6, hx6⟩ := h6.hx
    refine ⟨_, rfl, K0.x, _, dx6, _, _, rfl, hx6, T.cl_Sheet, T.na_Sheet__made_by, fs_Sheet__made_by _ _ _ _ _, K0.b, rfl, .inl ⟨bv, .inl h6.hb⟩, _, rfl, by decide, fun p H7 hp s7 e7 => ?_⟩
    have h7 := h6.ext (.same s7)
    refine ⟨bv, .inr e.a, h7.hb, rfl, by rw [h.rb.len]; exact Nat.lt_trans l3 (by decide), fun u' hu => ?_, fun hu => ?_⟩
    · have z : ¬ d.mby.lookup e.a = none := fun q => by
        rcases h.rb.val e.a with ⟨z1, z2⟩ | ⟨u, b, z1, z2, r⟩
        · rw [hu] at z1; cases z1
        · rw [q] at z2; cases z2
      refine k H7 (putK gv (.inr e.a) u) (putK wv (.inr e.a) (.int ((d.waste.lookup e.a).getD 0 + e.c))) bv ?_
      unfold addG
      rw [if_neg z]
      exact h7
    · have z : d.mby.lookup e.a = none := by
        rcases h.rb.val e.a with ⟨z1, z2⟩ | ⟨u, b, z1, z2, r⟩
        · exact z2
        · rw [hu] at z1; cases z1
      refine k _ (putK gv (.inr e.a) u) (putK wv (.inr e.a) (.int ((d.waste.lookup e.a).getD 0 + e.c))) (putK bv (.inr e.a) (.ref p)) ?_
      unfold addG
      rw [if_pos z]
      exact h6.newB hp s7 e7 hu
def addM (d : ShD) (pc h : Str) : ShD := { d with makers := putA d.makers pc ((d.makers.lookup pc).getD [] ++ [h]), mby := putA d.mby h ((d.mby.lookup h).getD [] ++ [pc]) }
def addP (d : ShD) (e : Piece) : ShD := e.c.l.foldl (fun d h => addM d e.a h) { d with yarn := putA d.yarn e.a e.b, makers := putA d.makers e.a [] }
def sp_Sheetadd_maker (T : Txt K mg) : Sp := fun vs H Q _ => ∃ (k : Sk) (d : ShD) (gv wv yv mv bv : List (Key × V)) (pc hm : Str) (xs ys : List Str), vs = [.ref k.x, .str pc, .str hm] ∧ ShC T k H d gv wv yv mv bv ∧ (d.makers.lookup pc = some xs ∧ hm ∉ xs ∧ xs.length < 1000) ∧ (d.mby.lookup hm = some ys ∧ ys.length < 1000) ∧ d.got.lookup hm ≠ none ∧
  ∀ H', ShC T k H' (addM d pc hm) gv wv yv mv bv → Q .non H'
theorem ok_Sheetadd_maker (T : Txt K mg) : FnOk P w K mg base CX0 5 T.f_Sheetadd_maker T.fd_Sheetadd_maker ["self", "piece", "home"] (sp_Sheetadd_maker T) := by
  refine okD T.F_Sheetadd_maker sc_Sheetadd_maker (fun vs H Q E h => ?_) (fun cdv A outer s H vs Q E hr h => ?_)
  · obtain ⟨_, _, _, _, _, _, _, _, _, _, _, rfl, _⟩ := h; rfl
  · have hu := hu_of hr
    have hu64 := hr.units
    refine ⟨_, pss_cons (ps_if (pt_cmpR op_in_seq (pv 2) (pe_dget hu (pe_fld (pv 0) (by rfl)) (pv 1) (fun _ _ => rfl)) (by rfl)) (pss_one ps_never) pss_nil)
      (pss_cons (ps_if (pt_cmp (pc_dnotin hu (pv 2) (pe_fld (pv 0) (by rfl)))) (pss_one ps_never) pss_nil)
      (pss_cons (ps_expr (pe_bm PySem.F.plainAttrs_list PySem.F.slot_list_append PySem.F.type_list_append mt_appendY (pe_dget hu (pe_fld (pv 0) (by rfl)) (pv 1) (fun _ _ => rfl)) (pa_cons (pv 2) pa_nil)))
      (pss_one (ps_expr (pe_bm PySem.F.plainAttrs_list PySem.F.slot_list_append PySem.F.type_list_append mt_appendY (pe_dget hu (pe_fld (pv 0) (by rfl)) (pv 2) (fun _ _ => rfl)) (pa_cons (pv 1) pa_nil)))))), ?_⟩
    clear hu hu64
    obtain ⟨K0, d, gv, wv, yv, mv, bv, pc, hm, xs, ys, rfl, h, ⟨m1, m2, m3⟩, ⟨b1, b2'⟩, g1, k⟩ := h
    obtain ⟨dx, hx⟩ := h.hx
    obtain ⟨mvv, ma, em, hma⟩ : ∃ v, ∃ a, valV mv (.inr pc) = some v ∧ v = .ref a ∧ H a = some (.lst (xs.map V.str)) := by
      rcases h.rm.val pc with ⟨z1, z2⟩ | ⟨u, b, z1, z2, a, z3, z4⟩
      · rw [m1] at z2; cases z2
      · rw [m1] at z2; cases z2; exact ⟨u, a, z1, z3, z4⟩
    obtain ⟨rfl, hma⟩ := hma
    refine ⟨_, rfl, _, rfl, K0.x, _, dx, _, _, rfl, hx, T.cl_Sheet, T.na_Sheet__makers, fs_Sheet__makers _ _ _ _ _, _, rfl, K0.m, _, rfl, .inl ⟨mv, .inr pc, .inl h.hm, rfl, em.symm⟩, ma, _, rfl, .inl (SqL.of hma), rfl, strs_flat xs, ?_⟩
    rw [if_neg Bool.false_ne_true, inV_str, decide_eq_false m2]
    refine ⟨_, rfl, iteF ?_⟩
    refine ⟨_, rfl, _, rfl, K0.x, _, dx, _, _, rfl, hx, T.cl_Sheet, T.na_Sheet__got, fs_Sheet__got _ _ _ _ _, K0.g, valV gv (.inr hm), rfl, .inl ⟨gv, .inr hm, .inl h.hg, rfl, rfl⟩, ?_⟩
    have gs : (valV gv (.inr hm)).isSome = true := by
      rcases h.rg.val hm with ⟨z1, z2⟩ | ⟨u, b, z1, z2, _⟩
      · exact absurd z2 g1
      · rw [z1]; rfl
    rw [gs]
    refine ⟨_, rfl, iteF ?_⟩
    refine ⟨_, rfl, K0.x, _, dx, _, _, rfl, hx, T.cl_Sheet, T.na_Sheet__makers, fs_Sheet__makers _ _ _ _ _, _, rfl, K0.m, _, rfl, .inl ⟨mv, .inr pc, .inl h.hm, rfl, em.symm⟩, .inl ⟨rfl, _, SqL.of hma⟩, _, rfl, ma, _, _, rfl, rfl, hma, by rw [List.length_map]; exact Nat.lt_trans m3 (by decide), fun H2 b2 e2 => ?_⟩
    have e2' : H2 ma = some (.lst ((xs ++ [hm]).map V.str)) := by rw [e2, List.map_append]; rfl
    have h2 := (h.appM (ys := xs ++ [hm]) em m1).ext (.same (but_upd2 b2 e2'))
    obtain ⟨dx2, hx2⟩ := h2.hx
    obtain ⟨bvv, ba, eb, hba⟩ : ∃ v, ∃ a, valV bv (.inr hm) = some v ∧ v = .ref a ∧ H2 a = some (.lst (ys.map V.str)) := by
      rcases h2.rb.val hm with ⟨z1, z2⟩ | ⟨u, b, z1, z2, a, z3, z4⟩
      · rw [show d.mby.lookup hm = _ from z2] at b1; cases b1
      · rw [show d.mby.lookup hm = _ from z2] at b1; cases b1; exact ⟨u, a, z1, z3, z4⟩
    obtain ⟨rfl, hba⟩ := hba
    refine ⟨_, rfl, K0.x, _, dx2, _, _, rfl, hx2, T.cl_Sheet, T.na_Sheet__made_by, fs_Sheet__made_by _ _ _ _ _, _, rfl, K0.b, _, rfl, .inl ⟨bv, .inr hm, .inl h2.hb, rfl, eb.symm⟩, .inl ⟨rfl, _, SqL.of hba⟩, _, rfl, ba, _, _, rfl, rfl, hba, by rw [List.length_map]; exact Nat.lt_trans b2' (by decide), fun H3 b3 e3 => ?_⟩
    have e3' : H3 ba = some (.lst ((ys ++ [pc]).map V.str)) := by rw [e3, List.map_append]; rfl
    have h3 := (h2.appB (ys := ys ++ [pc]) eb b1).ext (.same (but_upd2 b3 e3'))
    refine k H3 ?_
    unfold addM
    rw [m1, b1]
    exact h3
theorem span_old {T : Txt K mg} {k : Sk} {H : Hp} {d : ShD} {gv wv yv mv bv : List (Key × V)} (h : ShC T k H d gv wv yv mv bv) {v : V} {p : Int × Int} (r : Rp (hide k.M0 k.H0) v (spanSh T p)) : SlAll 0 (k.own mv bv ++ k.M0) H [v] [.v (spanSh T p)] := slAll_cons (h.old r) slAll_nil
structure PcI (d d1 : ShD) (e : Piece) (i : Nat) (D : ShD) : Prop where
  eq : D = (e.c.l.take i).foldl (fun d h => addM d e.a h) d1
  ml : D.makers.lookup e.a = some (e.c.l.take i)
  gt : D.got = d.got
  mb : ∀ h, h ∉ e.c.l.take i → D.mby.lookup h = d.mby.lookup h
theorem nd_take {α : Type} {l : List α} {i : Nat} {x : α} (nd : l.Nodup) (hx : l[i]? = some x) : x ∉ l.take i := fun q => by
  have tk := take_more hx
  have z : (l.take i ++ [x]).Nodup := by rw [← tk]; exact nd.sublist (List.take_sublist _ _)
  exact (List.nodup_append.mp z).2.2 x q x List.mem_cons_self rfl
theorem PcI.next {d d1 D : ShD} {e : Piece} {i : Nat} {x : Str} (I : PcI d d1 e i D) (hx : e.c.l[i]? = some x) : PcI d d1 e (i + 1) (addM D e.a x) := by
  refine ⟨?_, ?_, I.gt, fun h n => ?_⟩
  · rw [take_more hx, List.foldl_append, ← I.eq]; rfl
  · show (putA D.makers e.a _).lookup e.a = _
    rw [lk_putA, if_pos rfl, I.ml, take_more hx]; rfl
  · rw [take_more hx, List.mem_append, not_or] at n
    show (putA D.mby x _).lookup h = _
    rw [lk_putA, if_neg (fun z => n.2 (by rw [z]; exact List.mem_singleton.mpr rfl)), I.mb h n.1]
theorem no_sheet {v1 v2 v3 v4 v5 : V} {m : Str} (h1 : ¬ m = ("_got" : Str)) (h2 : ¬ m = ("_waste" : Str)) (h3 : ¬ m = ("_yarn" : Str)) (h4 : ¬ m = ("_makers" : Str)) (h5 : ¬ m = ("_made_by" : Str)) : (fs_Sheet v1 v2 v3 v4 v5).lookup m = none := fs_Sheet_no _ _ _ _ _ h1 h2 h3 h4 h5
def sp_Sheetadd_piece (T : Txt K mg) : Sp := fun vs H Q _ => ∃ (k : Sk) (d : ShD) (gv wv yv mv bv : List (Key × V)) (e : Piece) (v ms : V), vs = [.ref k.x, .str e.a, v, ms] ∧ ShC T k H d gv wv yv mv bv ∧ Rp (hide k.M0 k.H0) v (spanSh T e.b) ∧ (Rp (hide k.M0 k.H0) ms (sh e.c.l) ∨ Rp (hide k.M0 k.H0) ms (sh e.c)) ∧
  (d.yarn.lookup e.a = none ∧ d.makers.lookup e.a = none ∧ e.c.l.Nodup ∧ e.c.l.length < 1000 ∧ d.yarn.length < 1000 ∧ d.makers.length < 1000) ∧ (∀ h ∈ e.c.l, d.got.lookup h ≠ none ∧ ∃ ys, d.mby.lookup h = some ys ∧ ys.length < 1000) ∧
  ∀ H' yv' mv', ShC T k H' (addP d e) gv wv yv' mv' bv → Q .non H'
theorem ok_Sheetadd_piece (T : Txt K mg) : FnOk P w K mg base CX0 6 T.f_Sheetadd_piece T.fd_Sheetadd_piece ["self", "name", "yarn", "makers"] (sp_Sheetadd_piece T) := by
  refine okD T.F_Sheetadd_piece sc_Sheetadd_piece (fun vs H Q E h => ?_) (fun cdv A outer s H vs Q E hr h => ?_)
  · obtain ⟨_, _, _, _, _, _, _, _, _, _, rfl, _⟩ := h; rfl
  · have hu := hu_of hr
    have hu64 := hr.units
    refine ⟨_, pss_cons (ps_if (pt_cmp (pc_din hu (pv 1) (pe_fld (pv 0) (by rfl)))) (pss_one ps_never) pss_nil)
      (pss_cons (ps_dput hu (pe_fld (pv 0) (by rfl)) (pv 1) (pe_call (ok_copied (P := P) (w := w) (base := base) T) (hr.mono (by decide)) rfl T.mg_copied T.F_copied.kp (T.b_copied) .nil pass0 (pa_cons (pv 2) pa_nil)) rfl)
      (pss_cons (ps_dput hu (pe_fld (pv 0) (by rfl)) (pv 1) (pe_lstY pa_nil) rfl)
      (pss_one (ps_for PassesOwn.never rfl (pi_lt (pv 3)) (pg_name (i := 4) sc_Sheetadd_piece.nd rfl (Or.inl rfl)) (pss_one (ps_expr (pe_meth (pv 0) T.cl_Sheet T.m_Sheetadd_maker (ok_Sheetadd_maker (P := P) (w := w) (base := base) T) (hr.mono (by decide)) (T.b_Sheetadd_maker) .nil pass0 (pa_cons (pv 1) (pa_cons (pv 4) pa_nil))))))))), ?_⟩
    clear hu hu64
    obtain ⟨K0, d, gv, wv, yv, mv, bv, e, v, ms, rfl, h, rv, rm, ⟨y1, m1, nd, l1, l2, l3⟩, hk, k⟩ := h
    obtain ⟨dx, hx⟩ := h.hx
    refine ⟨_, rfl, _, rfl, K0.x, _, dx, _, _, rfl, hx, T.cl_Sheet, T.na_Sheet__yarn, fs_Sheet__yarn _ _ _ _ _, K0.y, valV yv (.inr e.a), rfl, .inl ⟨yv, .inr e.a, .inl h.hy, rfl, rfl⟩, ?_⟩
    have ys : (valV yv (.inr e.a)).isSome = false := by
      rcases h.ry.val e.a with ⟨z1, z2⟩ | ⟨u, b, z1, z2, _⟩
      · rw [z1]; rfl
      · rw [y1] at z2; cases z2
    rw [ys]
    refine ⟨_, rfl, iteF ?_⟩
    refine ⟨_, rfl, 0, K0.own mv bv ++ K0.M0, [.v (spanSh T e.b)], _, h.own_al, by unfold LIM; omega, span_old h rv, ⟨e.b, trivial, rfl, rfl⟩, fun u H4 s e4 sa ru => ?_⟩
    obtain ⟨_, rfl, rfl⟩ := sa
    have h4 := h.ext e4
    obtain ⟨dx4, hx4⟩ := h4.hx
    obtain ⟨ua, _, _, eu, _, _⟩ := span_inv ru
    refine ⟨_, rfl, K0.x, _, dx4, _, _, rfl, hx4, T.cl_Sheet, T.na_Sheet__yarn, fs_Sheet__yarn _ _ _ _ _, _, rfl, K0.y, _, rfl, .inl ⟨yv, .inr e.a, h4.hy, rfl, by rw [h.ry.len]; exact Nat.lt_trans l2 (by decide), rfl⟩, ?_⟩
    have h5 := h4.putY (n := e.a) ⟨ru, ua, eu⟩
    obtain ⟨dx5, hx5⟩ := h5.hx
    have mn : valV mv (.inr e.a) = none := by
      rcases h.rm.val e.a with ⟨z1, z2⟩ | ⟨u, b, z1, z2, _⟩
      · exact z1
      · rw [m1] at z2; cases z2
    refine ⟨by decide, fun p H7 hp s7 e7 => ?_⟩
    have h7 := h5.ext (.same s7)
    obtain ⟨dx7, hx7⟩ := h7.hx
    refine ⟨_, rfl, K0.x, _, dx7, _, _, rfl, hx7, T.cl_Sheet, T.na_Sheet__makers, fs_Sheet__makers _ _ _ _ _, _, rfl, K0.m, _, rfl, .inl ⟨mv, .inr e.a, h7.hm, rfl, by rw [h.rm.len]; exact Nat.lt_trans l3 (by decide), rfl⟩, ?_⟩
    have h8 := h5.newM hp s7 e7 mn
    have hI : PcI d { d with yarn := putA d.yarn e.a e.b, makers := putA d.makers e.a [] } e 0 { d with yarn := putA d.yarn e.a e.b, makers := putA d.makers e.a [] } :=
      ⟨rfl, by show (putA d.makers e.a []).lookup e.a = _; rw [lk_putA, if_pos rfl]; rfl, rfl, fun _ _ => rfl⟩
    have turn : ∀ (i : Nat) (xv : V) (σ : L2.St) (H : Hp) (D0 : Ends) (N : L2.St → Hp → Prop), (e.c.l.map V.str)[i]? = some xv →
        (∃ o D, σ = [some (.ref K0.x), some (.str e.a), some v, some ms, o] ∧ PcI d { d with yarn := putA d.yarn e.a e.b, makers := putA d.makers e.a [] } e i D ∧ ShC T K0 H D gv wv (putK yv (.inr e.a) u) (putK mv (.inr e.a) (.ref p)) bv) →
        (∀ σ' H', (∃ o D, σ' = [some (.ref K0.x), some (.str e.a), some v, some ms, o] ∧ PcI d { d with yarn := putA d.yarn e.a e.b, makers := putA d.makers e.a [] } e (i + 1) D ∧ ShC T K0 H' D gv wv (putK yv (.inr e.a) u) (putK mv (.inr e.a) (.ref p)) bv) → N σ' H') →
        gName 4 xv σ H fun σ2 H2 => (tDrop (tMeth T.C_Sheet (Str.ofString "_add_maker") (sp_Sheetadd_maker T) [] E0 (tVar 0) (tCons (tVar 1) (tCons (tVar 4) tNil)))) { D0 with nx := N, ct := N, bk := D0.nx } σ2 H2 := by
      rintro i xv σ H D0 N hi ⟨o, D, rfl, I, hD⟩ hN
      rw [List.getElem?_map] at hi
      obtain ⟨x, hx', rfl⟩ := Option.map_eq_some_iff.mp hi
      obtain ⟨dxD, hxD⟩ := hD.hx
      have mx := List.mem_of_getElem? hx'
      have nx := nd_take nd hx'
      obtain ⟨g1, ys', b1, b2⟩ := hk x mx
      refine ⟨_, rfl, K0.x, dxD, _, rfl, hxD, no_sheet (by decide +kernel) (by decide +kernel) (by decide +kernel) (by decide +kernel) (by decide +kernel), _, rfl, _, rfl, ?_⟩
      exact ⟨K0, D, gv, wv, _, _, bv, e.a, x, e.c.l.take i, ys', rfl, hD, ⟨I.ml, nx, by rw [List.length_take]; omega⟩, ⟨by rw [I.mb x nx]; exact b1, b2⟩, by rw [I.gt]; exact g1, fun H3 h3 => hN _ _ ⟨_, _, rfl, I.next hx', h3⟩⟩
    have fin : ∀ (σ : L2.St) (H : Hp) (n : Nat), n = e.c.l.length → (∃ o D, σ = [some (.ref K0.x), some (.str e.a), some v, some ms, o] ∧ PcI d { d with yarn := putA d.yarn e.a e.b, makers := putA d.makers e.a [] } e n D ∧ ShC T K0 H D gv wv (putK yv (.inr e.a) u) (putK mv (.inr e.a) (.ref p)) bv) → Q .non H := by
      rintro σ H n rfl ⟨o, D, rfl, I, hD⟩
      refine k H (putK yv (.inr e.a) u) (putK mv (.inr e.a) (.ref p)) ?_
      have z := I.eq
      rw [List.take_length] at z
      unfold addP
      rw [← z]
      exact hD
    refine ⟨_, rfl, ?_⟩
    rcases rm with rm | rm
    · obtain ⟨a, vs, rfl, ea, ra⟩ := Rp.lstI rm
      have q := RpAll.strs ra
      subst q
      have hm : ∀ {H D}, ShC T K0 H D gv wv (putK yv (.inr e.a) u) (putK mv (.inr e.a) (.ref p)) bv → H a = some (.lst (e.c.l.map V.str)) := fun hD => hD.e0.keep a _ trivial ea
      refine ⟨a, rfl, .inl ⟨⟨_, SqL.of (hm h8)⟩, for_list (K := K) (a := a) (xs := e.c.l.map V.str) (fun i σ H => ∃ o D, σ = [some (.ref K0.x), some (.str e.a), some v, some (.ref a), o] ∧ PcI d { d with yarn := putA d.yarn e.a e.b, makers := putA d.makers e.a [] } e i D ∧ ShC T K0 H D gv wv (putK yv (.inr e.a) u) (putK mv (.inr e.a) (.ref p)) bv)
        ⟨none, _, rfl, hI, h8⟩ (fun i σ H hi ⟨o, D, _, _, hD⟩ => SqL.of (hm hD)) (fun i x σ H hi J => turn i x σ H _ _ hi J fun σ' H' z => z) (fun σ H J => fin σ H _ (List.length_map ..) J)⟩⟩
    · obtain ⟨a, vs, rfl, ea, ra⟩ := Rp.tupI rm
      have q := RpAll.strs ra
      subst q
      have hm : ∀ {H D}, ShC T K0 H D gv wv (putK yv (.inr e.a) u) (putK mv (.inr e.a) (.ref p)) bv → H a = some (.tup (e.c.l.map V.str)) := fun hD => hD.e0.keep a _ trivial ea
      refine ⟨a, rfl, .inr ⟨⟨_, SqT.of (hm h8)⟩, for_tup (K := K) (a := a) (xs := e.c.l.map V.str) (fun i σ H => ∃ o D, σ = [some (.ref K0.x), some (.str e.a), some v, some (.ref a), o] ∧ PcI d { d with yarn := putA d.yarn e.a e.b, makers := putA d.makers e.a [] } e i D ∧ ShC T K0 H D gv wv (putK yv (.inr e.a) u) (putK mv (.inr e.a) (.ref p)) bv)
        ⟨none, _, rfl, hI, h8⟩ (fun i σ H hi ⟨o, D, _, _, hD⟩ => SqT.of (hm hD)) (fun i x σ H hi J => turn i x σ H _ _ hi J fun σ' H' z => z) (fun σ H J => fin σ H _ (List.length_map ..) J)⟩⟩
def gvSh (T : Txt K mg) (g : Give) : T3 Str Sh Int := ⟨g.a, spanSh T g.b, g.c⟩
inductive PcR (T : Txt K mg) : List (T3 Str Sh Sh) → List Piece → Prop
  | nil : PcR T [] []
  | cons {q : T3 Str Sh Sh} {p : Piece} {qs : List (T3 Str Sh Sh)} {ps : List Piece} : q.a = p.a → q.b = spanSh T p.b → (q.c = sh p.c.l ∨ q.c = sh p.c) → PcR T qs ps → PcR T (q :: qs) (p :: ps)
def emptyD : ShD := ⟨[], [], [], [], []⟩
def sheetD (gs : List Give) (ps : List Piece) : ShD := ps.foldl addP (gs.foldl addG emptyD)
structure PsOk (gs : List Give) (ps : List Piece) : Prop where
  gl : gs.length < 1000
  pl : ps.length < 1000
  nd : (ps.map fun p => p.a).Nodup
  ms : ∀ p ∈ ps, p.c.l.Nodup ∧ p.c.l.length < 1000 ∧ ∀ h ∈ p.c.l, h ∈ gs.map fun g => g.a
theorem len_putA {β : Type} {l : List (Str × β)} {k : Str} {b : β} : (putA l k b).length ≤ l.length + 1 := by
  unfold putA
  split
  · rw [List.length_map]; omega
  · rw [List.length_append]; exact Nat.le_refl _
theorem len_putA' {β : Type} {l : List (Str × β)} {k : Str} {b c : β} (h : l.lookup k = some c) : (putA l k b).length = l.length := by
  rw [putA_some h, List.length_map]
def addMs (d : ShD) (pc : Str) (hs : List Str) : ShD := hs.foldl (fun d h => addM d pc h) d
theorem addMs_same (pc : Str) : ∀ (hs : List Str) (d : ShD), (addMs d pc hs).got = d.got ∧ (addMs d pc hs).waste = d.waste ∧ (addMs d pc hs).yarn = d.yarn
  | [], d => ⟨rfl, rfl, rfl⟩
  | h :: hs, d => addMs_same pc hs (addM d pc h)
theorem addMs_mby (pc : Str) : ∀ (hs : List Str) (d : ShD) (h : Str), hs.Nodup → (addMs d pc hs).mby.lookup h = if h ∈ hs then some ((d.mby.lookup h).getD [] ++ [pc]) else d.mby.lookup h
  | [], d, h, _ => by rw [if_neg (by simp)]; rfl
  | x :: hs, d, h, nd => by
    have n := List.nodup_cons.mp nd
    show (addMs (addM d pc x) pc hs).mby.lookup h = _
    rw [addMs_mby pc hs (addM d pc x) h n.2]
    have e : (addM d pc x).mby.lookup h = if h = x then some ((d.mby.lookup x).getD [] ++ [pc]) else d.mby.lookup h := lk_putA h
    rw [e]
    by_cases z : h = x
    · subst z
      rw [if_neg n.1, if_pos rfl, if_pos List.mem_cons_self]
    · rw [if_neg z]
      by_cases m : h ∈ hs
      · rw [if_pos m, if_pos (List.mem_cons_of_mem _ m)]
      · rw [if_neg m, if_neg (fun q => by rcases List.mem_cons.mp q with q | q; exact z q; exact m q)]
theorem addMs_mk (pc : Str) : ∀ (hs : List Str) (d : ShD) (xs : List Str), d.makers.lookup pc = some xs → (addMs d pc hs).makers.lookup pc = some (xs ++ hs) ∧ (addMs d pc hs).makers.length = d.makers.length ∧ ∀ n, n ≠ pc → (addMs d pc hs).makers.lookup n = d.makers.lookup n
  | [], d, xs, h => ⟨by rw [List.append_nil]; exact h, rfl, fun _ _ => rfl⟩
  | x :: hs, d, xs, h => by
    have e : (addM d pc x).makers.lookup pc = some (xs ++ [x]) := by
      show (putA d.makers pc _).lookup pc = _
      rw [lk_putA, if_pos rfl, h]; rfl
    obtain ⟨a, b, c⟩ := addMs_mk pc hs (addM d pc x) _ e
    refine ⟨by rw [List.append_assoc] at a; exact a, b.trans (len_putA' h), fun n ne => (c n ne).trans ?_⟩
    show (putA d.makers pc _).lookup n = _
    rw [lk_putA, if_neg ne]
theorem addP_eq (d : ShD) (e : Piece) : addP d e = addMs { d with yarn := putA d.yarn e.a e.b, makers := putA d.makers e.a [] } e.a e.c.l := rfl
structure GsI (gs : List Give) (i : Nat) (D : ShD) : Prop where
  eq : D = (gs.take i).foldl addG emptyD
  l1 : D.got.length ≤ i
  l2 : D.waste.length ≤ i
  l3 : D.mby.length ≤ i
  yn : D.yarn = []
  mk' : D.makers = []
  mb : ∀ h ys, D.mby.lookup h = some ys → ys = []
  hs : ∀ h ∈ (gs.take i).map (fun g => g.a), D.got.lookup h ≠ none ∧ D.mby.lookup h ≠ none
theorem GsI.next {gs : List Give} {i : Nat} {D : ShD} {e : Give} (I : GsI gs i D) (hx : gs[i]? = some e) : GsI gs (i + 1) (addG D e) := by
  have c1 := I.l1
  have c2 := I.l2
  have c3 := I.l3
  refine ⟨?_, Nat.le_trans len_putA (by omega), Nat.le_trans len_putA (by omega), ?_, I.yn, I.mk', fun h ys q => ?_, fun h m => ?_⟩
  · rw [take_more hx, List.foldl_append, ← I.eq]; rfl
  · unfold addG
    dsimp only
    split
    · exact Nat.le_trans len_putA (by omega)
    · omega
  · unfold addG at q
    dsimp only at q
    split at q
    · rw [lk_putA] at q
      split at q
      · cases q; rfl
      · exact I.mb h ys q
    · exact I.mb h ys q
  · rw [take_more hx, List.map_append, List.mem_append] at m
    have g1 : (addG D e).got.lookup h ≠ none := by
      show (putA D.got e.a _).lookup h ≠ none
      rw [lk_putA]
      split
      · simp
      · rename_i ne
        rcases m with m | m
        · exact (I.hs h m).1
        · exact absurd (List.mem_singleton.mp m) ne
    refine ⟨g1, ?_⟩
    unfold addG
    dsimp only
    split
    · rename_i z
      rw [lk_putA]
      split
      · simp
      · rename_i ne
        rcases m with m | m
        · exact (I.hs h m).2
        · exact absurd (List.mem_singleton.mp m) ne
    · rename_i z
      rcases m with m | m
      · exact (I.hs h m).2
      · rw [List.mem_singleton.mp m]; exact z
structure PsI (ps : List Piece) (D1 : ShD) (i : Nat) (D : ShD) : Prop where
  eq : D = (ps.take i).foldl addP D1
  gt : D.got = D1.got
  l1 : D.yarn.length ≤ i
  l2 : D.makers.length ≤ i
  nw : ∀ n, n ∉ (ps.take i).map (fun p => p.a) → D.yarn.lookup n = none ∧ D.makers.lookup n = none
  mb : ∀ h ys, D.mby.lookup h = some ys → ys.length ≤ i
  hs : ∀ h, D1.mby.lookup h ≠ none → D.mby.lookup h ≠ none
theorem PsI.next {ps : List Piece} {i : Nat} {D1 D : ShD} {e : Piece} (I : PsI ps D1 i D) (hx : ps[i]? = some e) (nd : e.c.l.Nodup) (hh : ∀ h ∈ e.c.l, D1.mby.lookup h ≠ none) : PsI ps D1 (i + 1) (addP D e) := by
  have c1 := I.l1
  have c2 := I.l2
  have sm := addMs_same e.a e.c.l { D with yarn := putA D.yarn e.a e.b, makers := putA D.makers e.a [] }
  have mk := addMs_mk e.a e.c.l { D with yarn := putA D.yarn e.a e.b, makers := putA D.makers e.a [] } [] (by show (putA D.makers e.a []).lookup e.a = _; rw [lk_putA, if_pos rfl])
  have mb := fun h => addMs_mby e.a e.c.l { D with yarn := putA D.yarn e.a e.b, makers := putA D.makers e.a [] } h nd
  refine ⟨?_, ?_, ?_, ?_, fun n m => ?_, fun h ys q => ?_, fun h q => ?_⟩
  · rw [take_more hx, List.foldl_append, ← I.eq]; rfl
  · rw [addP_eq, sm.1]; exact I.gt
  · rw [addP_eq, sm.2.2]; exact Nat.le_trans len_putA (by omega)
  · rw [addP_eq, mk.2.1]; exact Nat.le_trans len_putA (by omega)
  · rw [take_more hx, List.map_append, List.mem_append, not_or] at m
    have ne : n ≠ e.a := fun z => m.2 (by rw [z]; exact List.mem_singleton.mpr rfl)
    rw [addP_eq, sm.2.2, mk.2.2 n ne]
    show (putA D.yarn e.a e.b).lookup n = none ∧ (putA D.makers e.a []).lookup n = none
    rw [lk_putA, lk_putA, if_neg ne, if_neg ne]
    exact I.nw n m.1
  · rw [addP_eq, mb h] at q
    split at q
    · rename_i mh
      cases q
      rw [List.length_append]
      cases z : D.mby.lookup h with
      | none => exact absurd z (I.hs h (hh h mh))
      | some zs => have := I.mb h zs z; show zs.length + 1 ≤ i + 1; omega
    · have := I.mb h ys q
      omega
  · rw [addP_eq, mb h]
    split
    · simp
    · exact I.hs h q
theorem step_own {H0 Ha Hb : Hp} {x q : Addr} {o : HO} (s : Same H0 Ha) (x0 : H0 x = none) (n : Ha q = none) (b : But x (upd Ha q o) Hb) : Same H0 Hb := fun a u z => by
  have ne : a ≠ x := fun e => by rw [e, x0] at z; cases z
  have e := s a u z
  have nq : a ≠ q := fun w => by rw [w, n] at e; cases e
  exact b a u ne (by rw [upd_ne nq]; exact e)
theorem kept {Ha Hb : Hp} {x q a : Addr} {o u : HO} (n : Ha q = none) (b : But x (upd Ha q o) Hb) (e : Ha a = some u) (ne : a ≠ x) : Hb a = some u := by
  have nq : a ≠ q := fun w => by rw [w, n] at e; cases e
  exact b a u ne (by rw [upd_ne nq]; exact e)
theorem ne_st {H : Hp} {a b : Addr} {o : HO} (e : H a = some o) (n : H b = none) : a ≠ b := fun z => by rw [z, n] at e; cases e
theorem none_of {H0 H : Hp} {a : Addr} (s : Same H0 H) (n : H a = none) : H0 a = none := by
  cases e : H0 a with
  | none => rfl
  | some o => rw [s a o e] at n; cases n
theorem rp_trip {M : List Addr} {H : Hp} {v : V} {s1 s2 s3 : Sh} (r : Rp (hide M H) v (.tup [s1, s2, s3])) : ∃ a v1 v2 v3, v = .ref a ∧ H a = some (.tup [v1, v2, v3]) ∧ Rp (hide M H) v1 s1 ∧ Rp (hide M H) v2 s2 ∧ Rp (hide M H) v3 s3 := by
  obtain ⟨a, vs, rfl, e, ra⟩ := Rp.tupI r
  cases ra with
  | cons r1 ra => cases ra with
    | cons r2 ra => cases ra with
      | cons r3 ra => cases ra; exact ⟨a, _, _, _, rfl, e, r1, r2, r3⟩
theorem PcR.len {T : Txt K mg} {qs : List (T3 Str Sh Sh)} {ps : List Piece} (h : PcR T qs ps) : qs.length = ps.length := by
  induction h with
  | nil => rfl
  | cons _ _ _ _ ih => rw [List.length_cons, List.length_cons, ih]
theorem PcR.get {T : Txt K mg} {qs : List (T3 Str Sh Sh)} {ps : List Piece} (h : PcR T qs ps) : ∀ {i : Nat} {q : T3 Str Sh Sh}, qs[i]? = some q → ∃ p, ps[i]? = some p ∧ q.a = p.a ∧ q.b = spanSh T p.b ∧ (q.c = sh p.c.l ∨ q.c = sh p.c) := by
  induction h with
  | nil => intro i q e; simp at e
  | cons e1 e2 e3 _ ih =>
    intro i q e
    cases i with
    | zero => cases e; exact ⟨_, rfl, e1, e2, e3⟩
    | succ i => exact ih e
def sp_Sheet_init (T : Txt K mg) : Sp := fun vs H Q _ => ∃ (M0 : List Addr) (H0 : Hp) (x dx : Addr) (v1 v2 : V) (gs : List Give) (ps : List Piece) (qs : List (T3 Str Sh Sh)), vs = [.ref x, v1, v2] ∧ Al M0 H0 ∧ H0 x = none ∧ Same H0 H ∧ H x = some (.ins T.C_Sheet dx []) ∧
  SqR M0 H0 v1 (gs.map (gvSh T)) ∧ SqR M0 H0 v2 qs ∧ PcR T qs ps ∧ PsOk gs ps ∧
  ∀ (k : Sk) H' gv wv yv mv bv, k.M0 = M0 → k.H0 = H0 → k.x = x → ShC T k H' (sheetD gs ps) gv wv yv mv bv → Q .non H'
theorem ok_Sheet_init (T : Txt K mg) : FnOk P w K mg base CX0 7 T.f_Sheet_init T.fd_Sheet_init ["self", "gives", "pieces"] (sp_Sheet_init T) := by
  refine okD T.F_Sheet_init sc_Sheet_init (fun vs H Q E h => ?_) (fun cdv A outer s H vs Q E hr h => ?_)
  · obtain ⟨_, _, _, _, _, _, _, _, _, rfl, _⟩ := h; rfl
  · have hu := hu_of hr
    have hu64 := hr.units
    refine ⟨_, pss_cons (ps_fldY (pv 0) pe_dnewK rfl)
      (pss_cons (ps_fldY (pv 0) pe_dnewK rfl)
      (pss_cons (ps_fldY (pv 0) pe_dnewK rfl)
      (pss_cons (ps_fldY (pv 0) pe_dnewK rfl)
      (pss_cons (ps_fldY (pv 0) pe_dnewK rfl)
      (pss_cons (ps_for PassesOwn.never rfl (pi_lt (pe_orT (pv 1) (pe_one (pe_tupY pa_nil)))) (pg_tup (by rfl) (pgs_cons (pg_name (i := 3) sc_Sheet_init.nd rfl (Or.inl rfl)) (pgs_cons (pg_name (i := 4) sc_Sheet_init.nd rfl (Or.inl rfl)) (pgs_cons (pg_name (i := 5) sc_Sheet_init.nd rfl (Or.inl rfl)) pgs_nil)))) (pss_one (ps_expr (pe_meth (pv 0) T.cl_Sheet T.m_Sheetadd_give (ok_Sheetadd_give (P := P) (w := w) (base := base) T) (hr.mono (by decide)) (T.b_Sheetadd_give) .nil pass0 (pa_cons (pv 3) (pa_cons (pv 4) (pa_cons (pv 5) pa_nil)))))))
      (pss_one (ps_for PassesOwn.never rfl (pi_lt (pe_orT (pv 2) (pe_one (pe_tupY pa_nil)))) (pg_tup (by rfl) (pgs_cons (pg_name (i := 6) sc_Sheet_init.nd rfl (Or.inl rfl)) (pgs_cons (pg_name (i := 7) sc_Sheet_init.nd rfl (Or.inl rfl)) (pgs_cons (pg_name (i := 8) sc_Sheet_init.nd rfl (Or.inl rfl)) pgs_nil)))) (pss_one (ps_expr (pe_meth (pv 0) T.cl_Sheet T.m_Sheetadd_piece (ok_Sheetadd_piece (P := P) (w := w) (base := base) T) (hr.mono (by decide)) (T.b_Sheetadd_piece) .nil pass0 (pa_cons (pv 6) (pa_cons (pv 7) (pa_cons (pv 8) pa_nil))))))))))))), ?_⟩
    clear hu hu64
    obtain ⟨M0, H0, x, dx, v1, v2, gs, ps, qs, rfl, al, x0, s0, hx, r1, r2, pr, po, k⟩ := h
    intro g ng
    refine ⟨_, rfl, x, _, dx, _, rfl, (by rw [upd_ne (ne_st hx ng)]; exact hx), T.cl_Sheet, T.na_Sheet__got, by show 0 < 1000; decide, fun H1 b1 e1 => ?_⟩
    have gx : g ≠ x := (ne_st hx ng).symm
    have s1 := step_own s0 x0 ng b1
    have g1 : H1 g = some (.dK []) := b1 g _ gx upd_same
    intro w nw
    refine ⟨_, rfl, x, _, dx, _, rfl, (by rw [upd_ne (ne_st e1 nw)]; exact e1), T.cl_Sheet, T.na_Sheet__waste, by show 1 < 1000; decide, fun H2 b2 e2 => ?_⟩
    have wx : w ≠ x := (ne_st e1 nw).symm
    have s2 := step_own s1 x0 nw b2
    have g2 := kept nw b2 g1 gx
    have w2 : H2 w = some (.dK []) := b2 w _ wx upd_same
    intro y ny
    refine ⟨_, rfl, x, _, dx, _, rfl, (by rw [upd_ne (ne_st e2 ny)]; exact e2), T.cl_Sheet, T.na_Sheet__yarn, by show 2 < 1000; decide, fun H3 b3 e3 => ?_⟩
    have yx : y ≠ x := (ne_st e2 ny).symm
    have s3 := step_own s2 x0 ny b3
    have g3 := kept ny b3 g2 gx
    have w3 := kept ny b3 w2 wx
    have y3 : H3 y = some (.dK []) := b3 y _ yx upd_same
    intro m nm
    refine ⟨_, rfl, x, _, dx, _, rfl, (by rw [upd_ne (ne_st e3 nm)]; exact e3), T.cl_Sheet, T.na_Sheet__makers, by show 3 < 1000; decide, fun H4 b4 e4 => ?_⟩
    have mx : m ≠ x := (ne_st e3 nm).symm
    have s4 := step_own s3 x0 nm b4
    have g4 := kept nm b4 g3 gx
    have w4 := kept nm b4 w3 wx
    have y4 := kept nm b4 y3 yx
    have m4 : H4 m = some (.dK []) := b4 m _ mx upd_same
    intro b nb
    refine ⟨_, rfl, x, _, dx, _, rfl, (by rw [upd_ne (ne_st e4 nb)]; exact e4), T.cl_Sheet, T.na_Sheet__made_by, by show 4 < 1000; decide, fun H5 b5 e5 => ?_⟩
    have bx : b ≠ x := (ne_st e4 nb).symm
    have s5 := step_own s4 x0 nb b5
    have g5 := kept nb b5 g4 gx
    have w5 := kept nb b5 w4 wx
    have y5 := kept nb b5 y4 yx
    have m5 := kept nb b5 m4 mx
    have b6 : H5 b = some (.dK []) := b5 b _ bx upd_same
    have hC : ShC T ⟨M0, H0, x, g, w, y, m, b⟩ H5 emptyD [] [] [] [] [] := by
      refine ⟨?_, (fun a q => by cases q), (fun a q => by cases q), List.nodup_nil, List.nodup_nil, List.nodup_nil, List.nodup_nil, .same s5, ?_, al, ⟨dx, e5⟩, g5, w5, y5, m5, b6, .nil, .nil, .nil, .nil, .nil⟩
      · show [x, g, w, y, m, b].Nodup
        have q1 := ne_st g1 nw
        have q2 := ne_st g2 ny
        have q3 := ne_st g3 nm
        have q4 := ne_st g4 nb
        have q5 := ne_st w2 ny
        have q6 := ne_st w3 nm
        have q7 := ne_st w4 nb
        have q8 := ne_st y3 nm
        have q9 := ne_st y4 nb
        have q10 := ne_st m4 nb
        simp only [List.nodup_cons, List.mem_cons, List.not_mem_nil, or_false, not_or, not_false_eq_true, and_true, List.nodup_nil]
        exact ⟨⟨gx.symm, wx.symm, yx.symm, mx.symm, bx.symm⟩, ⟨q1, q2, q3, q4⟩, ⟨q5, q6, q7⟩, ⟨q8, q9⟩, q10⟩
      · intro a q
        have q' : a ∈ [x, g, w, y, m, b] := by
          rcases List.mem_append.mp q with q | q
          · exact q
          · cases q
        simp only [List.mem_cons, List.not_mem_nil, or_false] at q'
        rcases q' with rfl | rfl | rfl | rfl | rfl | rfl
        · exact x0
        · exact none_of s0 ng
        · exact none_of s1 nw
        · exact none_of s2 ny
        · exact none_of s3 nm
        · exact none_of s4 nb
    refine for_seqOr (xs := gs.map (gvSh T)) (M0 := M0) (H0 := H0) (v := v1) r1 (fun i σ H => ∃ o3 o4 o5 D gv wv bv, σ = [some (.ref x), some v1, some v2, o3, o4, o5, none, none, none] ∧ GsI gs i D ∧ ShC T ⟨M0, H0, x, g, w, y, m, b⟩ H D gv wv [] [] bv)
      ⟨none, none, none, emptyD, [], [], [], rfl, ⟨rfl, Nat.le_refl _, Nat.le_refl _, Nat.le_refl _, rfl, rfl, (fun h ys q => by cases q), (fun h q => by cases q)⟩, hC⟩ rfl (fun i σ H ⟨_, _, _, _, _, _, _, _, _, hD⟩ => hD.e0)
      (fun H' s => ⟨none, none, none, emptyD, [], [], [], rfl, ⟨rfl, Nat.le_refl _, Nat.le_refl _, Nat.le_refl _, rfl, rfl, (fun h ys q => by cases q), (fun h q => by cases q)⟩, hC.ext (.same s)⟩) ?_ ?_
    · rintro i e0 xv σ H D0 N hi rx ⟨o3, o4, o5, D, gv, wv, bv, rfl, I, hD⟩ hN
      rw [List.getElem?_map] at hi
      obtain ⟨e, he, rfl⟩ := Option.map_eq_some_iff.mp hi
      obtain ⟨a, u1, u2, u3, rfl, ea, ra1, ra2, ra3⟩ := rp_trip rx
      cases ra1
      cases ra3
      obtain ⟨dxD, hxD⟩ := hD.hx
      have hi' : i < gs.length := (List.getElem?_eq_some_iff.mp he).1
      have gl := po.gl
      have c1 := I.l1
      have c2 := I.l2
      have c3 := I.l3
      refine ⟨a, _, rfl, SqT.of (hD.e0.keep a _ trivial ea), rfl, _, _, rfl, _, _, rfl, _, _, rfl, rfl, ?_⟩
      refine ⟨_, rfl, x, dxD, _, rfl, hxD, no_sheet (by decide +kernel) (by decide +kernel) (by decide +kernel) (by decide +kernel) (by decide +kernel), _, rfl, _, rfl, _, rfl, ?_⟩
      exact ⟨⟨M0, H0, x, g, w, y, m, b⟩, D, gv, wv, [], [], bv, e, _, rfl, hD, ra2, ⟨by omega, by omega, by omega⟩, fun H' gv' wv' bv' h' => hN _ _ ⟨_, _, _, _, _, _, _, rfl, I.next he, h'⟩⟩
    rintro σ H ⟨o3, o4, o5, D1, gv, wv, bv, rfl, I1, hD1⟩
    rw [List.length_map] at I1
    have e1' := I1.eq
    rw [List.take_length] at e1'
    have hs1 := I1.hs
    rw [List.take_length] at hs1
    have hI2 : PsI ps D1 0 D1 := ⟨rfl, rfl, by rw [I1.yn]; exact Nat.le_refl _, by rw [I1.mk']; exact Nat.le_refl _, fun n _ => by rw [I1.yn, I1.mk']; exact ⟨rfl, rfl⟩, fun h ys q => by rw [I1.mb h ys q]; exact Nat.le_refl _, fun h q => q⟩
    refine for_seqOr (xs := qs) (M0 := M0) (H0 := H0) (v := v2) r2 (fun i σ H => ∃ o6 o7 o8 o3 D yv mv, σ = [some (.ref x), some v1, some v2, o3, o4, o5, o6, o7, o8] ∧ PsI ps D1 i D ∧ ShC T ⟨M0, H0, x, g, w, y, m, b⟩ H D gv wv yv mv bv)
      ⟨none, none, none, o3, D1, [], [], rfl, hI2, hD1⟩ rfl (fun i σ H ⟨_, _, _, _, _, _, _, _, _, hD⟩ => hD.e0) (fun H' s => ⟨none, none, none, o3, D1, [], [], rfl, hI2, hD1.ext (.same s)⟩) ?_ ?_
    · rintro i q xv σ H D0 N hi rx ⟨o6, o7, o8, o3, D, yv, mv, rfl, I, hD⟩ hN
      obtain ⟨p, hp, q1, q2, q3⟩ := pr.get hi
      obtain ⟨qa, qb, qc⟩ := q
      dsimp only at q1 q2 q3
      subst q1
      subst q2
      obtain ⟨a, u1, u2, u3, rfl, ea, ra1, ra2, ra3⟩ := rp_trip rx
      cases ra1
      obtain ⟨dxD, hxD⟩ := hD.hx
      have hi' : i < ps.length := (List.getElem?_eq_some_iff.mp hp).1
      have pl := po.pl
      have c1 := I.l1
      have c2 := I.l2
      have mp := List.mem_of_getElem? hp
      obtain ⟨nd, lm, sub⟩ := po.ms p mp
      have nw := I.nw p.a (by
        rw [← List.map_take.symm]
        exact nd_take po.nd (by rw [List.getElem?_map, hp]; rfl))
      refine ⟨a, _, rfl, SqT.of (hD.e0.keep a _ trivial ea), rfl, _, _, rfl, _, _, rfl, _, _, rfl, rfl, ?_⟩
      refine ⟨_, rfl, x, dxD, _, rfl, hxD, no_sheet (by decide +kernel) (by decide +kernel) (by decide +kernel) (by decide +kernel) (by decide +kernel), _, rfl, _, rfl, _, rfl, ?_⟩
      refine ⟨⟨M0, H0, x, g, w, y, m, b⟩, D, gv, wv, yv, mv, bv, p, u2, u3, rfl, hD, ra2, ?_, ⟨nw.1, nw.2, nd, lm, by omega, by omega⟩, fun h mh => ?_, fun H' yv' mv' h' => hN _ _ ⟨_, _, _, _, _, _, _, rfl, I.next hp nd (fun h mh => (hs1 h (sub h mh)).2), h'⟩⟩
      · rcases q3 with z | z
        · subst z; exact .inl ra3
        · subst z; exact .inr ra3
      · have z := hs1 h (sub h mh)
        refine ⟨by rw [I.gt]; exact z.1, ?_⟩
        cases e : D.mby.lookup h with
        | none => exact absurd e (I.hs h z.2)
        | some ys => exact ⟨ys, rfl, by have := I.mb h ys e; omega⟩
    · rintro σ H ⟨o6, o7, o8, o3, D, yv, mv, rfl, I, hD⟩
      rw [pr.len] at I
      have e2' := I.eq
      rw [List.take_length] at e2'
      refine k ⟨M0, H0, x, g, w, y, m, b⟩ H gv wv yv mv bv rfl rfl rfl ?_
      unfold sheetD
      rw [← e1', ← e2']
      exact hD
def sheetSh (T : Txt K mg) (d : ShD) : Sh := .obj T.C_Sheet [(("_got" : Str), .dct (d.got.map fun p => (.inr p.1, spanSh T p.2))), (("_waste" : Str), .dct (d.waste.map fun p => (.inr p.1, .int p.2))),
  (("_yarn" : Str), .dct (d.yarn.map fun p => (.inr p.1, spanSh T p.2))), (("_makers" : Str), .dct (d.makers.map fun p => (.inr p.1, sh p.2))), (("_made_by" : Str), .dct (d.mby.map fun p => (.inr p.1, sh p.2)))]
theorem ShC.freeze {T : Txt K mg} {k : Sk} {H : Hp} {d : ShD} {gv wv yv mv bv : List (Key × V)} (h : ShC T k H d gv wv yv mv bv) : Rp (hide k.M0 H) (.ref k.x) (sheetSh T d) := by
  have out : ∀ a ∈ k.own mv bv, a ∉ k.M0 := fun a m q => by
    obtain ⟨o, _, e⟩ := h.al a q
    rw [h.fr a m] at e; cases e
  have o6 : ∀ a ∈ k.six, a ∉ k.M0 := fun a m => out a (six_mem m)
  have up : Same (hide (k.own mv bv ++ k.M0) H) (hide k.M0 H) := hide_sub fun a m => List.mem_append_right _ m
  obtain ⟨dx, hx⟩ := h.hx
  have ls : ∀ {kv : List (Key × V)} {l : List (Str × List Str)}, DR (LsR H) kv l → (∀ a ∈ adr kv, a ∈ k.own mv bv) → DR (fun v xs => Rp (hide k.M0 H) v (sh xs)) kv l := fun q i =>
    q.impM fun p m b ⟨a, e1, e2⟩ => by
      rw [e1]
      exact .lst (hide_of (out a (i a (List.mem_map.mpr ⟨p, m, by rw [e1]; rfl⟩))) e2) (rpAll_strs _)
  have wr : RpK (hide k.M0 H) wv (d.waste.map fun p => (.inr p.1, .int p.2)) := (h.rw.imp (R' := fun v i => Rp (hide k.M0 H) v (.int i)) fun v i e => by rw [e]; exact .int i).rpk
  refine .obj (hide_of (o6 _ (by unfold Sk.six; simp)) hx) (.cons (fs_Sheet__got _ _ _ _ _) (.dct (hide_of (o6 _ (by unfold Sk.six; simp)) h.hg) (notPen_refs (refs_DR h.rg fun v b r => r.2)) (h.rg.imp fun v b r => r.1.same up).rpk)
    (.cons (fs_Sheet__waste _ _ _ _ _) (.dct (hide_of (o6 _ (by unfold Sk.six; simp)) h.hw) (notPen_ints (fun p m => h.rw.vals p m)) wr)
    (.cons (fs_Sheet__yarn _ _ _ _ _) (.dct (hide_of (o6 _ (by unfold Sk.six; simp)) h.hy) (notPen_refs (refs_DR h.ry fun v b r => r.2)) (h.ry.imp fun v b r => r.1.same up).rpk)
    (.cons (fs_Sheet__makers _ _ _ _ _) (.dct (hide_of (o6 _ (by unfold Sk.six; simp)) h.hm) (notPen_refs (refs_DR h.rm fun v b r => let ⟨a, e, _⟩ := r; ⟨a, e⟩)) (ls h.rm fun a m => List.mem_append_right _ (List.mem_append_left _ m)).rpk)
    (.cons (fs_Sheet__made_by _ _ _ _ _) (.dct (hide_of (o6 _ (by unfold Sk.six; simp)) h.hb) (notPen_refs (refs_DR h.rb fun v b r => let ⟨a, e, _⟩ := r; ⟨a, e⟩)) (ls h.rb fun a m => List.mem_append_right _ (List.mem_append_right _ m)).rpk) .nil))))) fun f z => ?_
  refine fs_Sheet_no _ _ _ _ _ (fun e => z _ List.mem_cons_self e.symm) (fun e => z _ (List.mem_cons_of_mem _ List.mem_cons_self) e.symm) (fun e => z _ (List.mem_cons_of_mem _ (List.mem_cons_of_mem _ List.mem_cons_self)) e.symm) (fun e => z _ (List.mem_cons_of_mem _ (List.mem_cons_of_mem _ (List.mem_cons_of_mem _ List.mem_cons_self))) e.symm) (fun e => z _ (List.mem_cons_of_mem _ (List.mem_cons_of_mem _ (List.mem_cons_of_mem _ (List.mem_cons_of_mem _ List.mem_cons_self)))) e.symm)
theorem pcR_list {T : Txt K mg} : ∀ {ps : List Piece}, PcR T (ps.map fun p => (⟨p.a, spanSh T p.b, sh p.c.l⟩ : T3 Str Sh Sh)) ps
  | [] => .nil
  | _ :: _ => .cons rfl rfl (.inl rfl) pcR_list
theorem ev_makeSheetL {T : Txt K mg} {gV : List V → List V → List V} {ta tb : TE} {ρ : Ro} {E : XK} {xs : List (T3 Str Sh Int)} {zs : List (T3 Str Sh (List Str))} {gs : List Give} {ps : List Piece} (ha : Ev ta ρ 0 (Is xs)) (hb : Ev tb ρ 0 (Is zs))
    (ex : xs = gs.map (gvSh T)) (ez : zs = ps.map fun p => ⟨p.a, spanSh T p.b, p.c.l⟩) (po : PsOk gs ps) (hg : ∀ a v1 v2, gV [.ref a] [v1, v2] = [.ref a, v1, v2]) :
    Ev (α := Sh) (tMakeNY T.C_Sheet 0 2 (sp_Sheet_init T) gV E tNil (tCons ta (tCons tb tNil))) ρ 0 (Is (sheetSh T (sheetD gs ps))) := fun n M σ H al le env Q k => by
  refine ha n M σ H al le env _ fun v1 H1 x1 e1 a1 r1 => ?_
  have a1' : x1 = xs := a1
  rw [a1'] at r1
  refine hb n M σ H1 (al.ext e1) le (env.ext e1) _ fun v2 H2 x2 e2 a2 r2 => ?_
  have a2' : x2 = zs := a2
  rw [a2'] at r2
  refine ⟨rfl, rfl, fun x dx H3 hx hd s3 e3 => ?_⟩
  rw [hg]
  have al2 := (al.ext e1).ext e2
  refine ⟨M, H2, x, dx, v1, v2, gs, ps, _, rfl, al2, hx, s3, e3, .inr (.inl ?_), .inr (.inl ?_), pcR_list, po, fun k' H' gv wv yv mv bv k1 k2 k3 h => ⟨rfl, ?_⟩⟩
  · rw [← ex]; exact r1.ext e2.hide
  · have z : sh zs = sh (ps.map fun p => (⟨p.a, spanSh T p.b, sh p.c.l⟩ : T3 Str Sh Sh)) := by
      rw [ez]
      show Sh.lst (List.map sh (List.map _ _)) = Sh.lst (List.map sh (List.map _ _))
      rw [List.map_map, List.map_map]
      rfl
    rw [← z]
    exact r2
  · have e3' : Yarn.Ext 0 H2 H' := by rw [← k2]; exact h.e0
    refine k _ H' _ ((e1.trans e2).trans e3') rfl ?_
    rw [← k1, ← k3]
    exact h.freeze
structure RawN (raw : Raw) : Prop where
  g : raw.1.length < 64
  p : raw.2.length < 64
  m : ∀ p ∈ raw.2, p.c.l.length < 64
  ng : ∀ g ∈ raw.1, PyData.strOk g.a = true
  np : ∀ p ∈ raw.2, PyData.strOk p.a = true ∧ ∀ h ∈ p.c.l, PyData.strOk h = true
structure TaleN (t : Tale) : Prop where
  g : t.1.l.length < 5000
  p : t.2.l.length < 5000
  ng : ∀ g ∈ t.1.l, PyData.strOk g.1 = true
  np : ∀ s ∈ t.2.l, PyData.strOk s.a = true ∧ PyData.strOk s.b = true
theorem parts_len : ∀ {ps : List Piece}, (∀ p ∈ ps, p.c.l.length < 64) → (partsOf ps).length ≤ 64 * ps.length
  | [], _ => Nat.zero_le _
  | p :: ps, h => by
    unfold partsOf
    rw [List.flatMap_cons, List.length_append, List.length_map, List.length_cons]
    have a := h p List.mem_cons_self
    have b := parts_len fun q m => h q (List.mem_cons_of_mem _ m)
    unfold partsOf at b
    omega
theorem parts_more {ps : List Piece} {x : Piece} : partsOf (ps ++ [x]) = partsOf ps ++ x.c.l.map fun h => (x.a, h) := by
  unfold partsOf
  rw [List.flatMap_append, List.flatMap_singleton]
theorem find_at {α : Type} {l : List α} {p : α → Bool} {i : Nat} {x : α} (h : (l.take i).find? p = none) (hx : l[i]? = some x) : (p x = true → l.find? p = some x) ∧ (p x = false → (l.take (i + 1)).find? p = none) := by
  constructor
  · intro q
    have z : (l.take i ++ l.drop i).find? p = some x := by
      rw [List.find?_append, h, List.drop_eq_getElem_cons (List.getElem?_eq_some_iff.mp hx).1, List.find?_cons_of_pos (by rw [(List.getElem?_eq_some_iff.mp hx).2]; exact q), (List.getElem?_eq_some_iff.mp hx).2]
      rfl
    rwa [List.take_append_drop] at z
  · intro q
    rw [take_more hx, List.find?_append, h, List.find?_cons_of_neg (by rw [q]; decide)]
    rfl
inductive Flt | ok | form | got (h : Str) | share (t h : Str) | yarn (t : Str) | lack (h : Str)
def Flt.sh : Flt → Sh
  | .ok => .non
  | .form => .tup [.str (Str.ofString "form")]
  | .got h => .tup [.str (Str.ofString "got"), .str h]
  | .share t h => .tup [.str (Str.ofString "share"), .str t, .str h]
  | .yarn t => .tup [.str (Str.ofString "yarn"), .str t]
  | .lack h => .tup [.str (Str.ofString "lack"), .str h]
instance tyFlt : Ty Flt := ⟨Flt.sh⟩
open Classical in
noncomputable def faultOf (raw : Raw) (t : Tale) : Flt :=
  if t.1.l.map (·.1) ≠ sset (homesOf raw) then .form else
  if t.2.l.map (fun s => (s.a, s.b)) ≠ partsOf raw.2 then .form else
  match t.1.l.find? (fun p => !(decide (sumL raw.1 p.1 ≤ p.2) && decide (p.2 ≤ sumM raw.1 p.1))) with
  | some p => .got p.1
  | none => match t.2.l.find? (fun s => decide (s.c < 0)) with
    | some s => .share s.a s.b
    | none => match raw.2.find? (fun p => !(decide (p.b.1 ≤ yarnOf t.2.l p.a) && decide (yarnOf t.2.l p.a ≤ p.b.2))) with
      | some p => .yarn p.a
      | none => match t.1.l.find? (fun p => decide (p.2 < putOf t.2.l p.1)) with
        | some p => .lack p.1
        | none => .ok
theorem pl_strs {xs : List Str} (h : ∀ x ∈ xs, PyData.strOk x = true) : plD 8 (sh xs) := fun y m => by
  obtain ⟨x, mx, rfl⟩ := List.mem_map.mp m
  exact h x mx
theorem pl_prs {xs : List (Str × Str)} (h : ∀ x ∈ xs, PyData.strOk x.1 = true ∧ PyData.strOk x.2 = true) : plD 8 (sh xs) := fun y m => by
  obtain ⟨x, mx, rfl⟩ := List.mem_map.mp m
  intro z mz
  rcases List.mem_cons.mp mz with rfl | mz
  · exact (h x mx).1
  · rw [List.mem_singleton.mp mz]; exact (h x mx).2
theorem not_t {p : Prop} {i : Decidable p} (h : true = !@decide p i) : ¬p := fun z => by rw [decide_eq_true z] at h; cases h
theorem not_f {p : Prop} {i : Decidable p} (h : false = !@decide p i) : p := Decidable.byContradiction fun z => by rw [decide_eq_false z] at h; cases h
def sp__law_homes (T : Txt K mg) : Sp := spF 0 (fun raw : Raw => raw.1.length < 64) (fun raw => Is (sset (homesOf raw))) (fun raw => [.v (sh raw)])
theorem ok__law_homes (T : Txt K mg) : FnOk P w K mg base CX0 1 T.f__law_homes T.fd__law_homes ["raw"] (sp__law_homes T) := by
  refine okD T.F__law_homes sc__law_homes (fun vs H Q E h => ?_) (fun cdv A outer s H vs Q E hr h => ?_)
  · exact spF_len h fun _ => rfl
  · have hu := hu_of hr
    have hu64 := hr.units
    refine ⟨_, pss_one (ps_ret (pe_callB (cr_sortedTx rfl) (by rfl) T.b_sorted (by decide +kernel) (pa_cons (pe_callTy (cr_setTx rfl) (by rfl) T.b_set (by decide +kernel) (pa_cons (pe_lc (g := gTup K 3 (gCons (gName 1) (gCons (gName 2) (gCons (gName 3) gNil)))) (own := [("home", 1), ("span", 2), ("waste", 3)]) (by rfl) sc__law_homes.nd (pi_list (pe_ix ix_tup (pv 0) pe_int (fun _ _ => rfl))) (blkOk_by (own := [("home", 1), ("span", 2), ("waste", 3)]) (N := ["raw", "home", "span", "waste"]) (sc := defScope s__law_homes) (by decide +kernel)) (fun _ _ _ _ _ => by exact (pg_tup (n := 3) (by rfl) (pgs_cons (pg_name (i := 1) sc__law_homes.nd rfl (Or.inl rfl)) (pgs_cons (pg_name (i := 2) sc__law_homes.nd rfl (Or.inl rfl)) (pgs_cons (pg_name (i := 3) sc__law_homes.nd rfl (Or.inl rfl)) pgs_nil))))) (fun _ _ _ _ _ => pts_nil) (fun _ _ _ _ _ => pv 1)) pa_nil)) pa_nil))), ?_⟩
    clear hu hu64
    obtain ⟨B, raw, h0, hn, hS, k⟩ := spF_start h ["raw", "home", "span", "waste"] fun _ => ⟨rfl, rfl⟩
    refine s_ret hS (ed_sortedSet (ed_lcL0 (ed_op (γ := (List (T3 Str (Int × Int) Int))) (ev_var (α := ((List (T3 Str (Int × Int) Int)) × (List (T3 Str (Int × Int) (Tp Str))))) rfl) ev_int (rv_ixC rfl rfl)) ?_ (ho_of rfl) (fun x hx => ⟨_, (tg_tup (tgs_cons (tg_name (by decide)) (tgs_cons (tg_name (by decide)) (tgs_cons (tg_name (by decide)) tgs_nil))) rfl), (ev_var (α := Str) rfl)⟩)) ?_) (by omega) fun v H' x e hx r => ?_
    · exact Nat.lt_of_lt_of_le h0 (by decide)
    · (rw [List.length_map]; exact h0)
    exact k v H' x (e.mono (by omega)) hx r
def sp__law_got (T : Txt K mg) : Sp := spF 0 (fun t : Raw × Str => t.1.1.length < 64) (fun t => Is (sumL t.1.1 t.2, sumM t.1.1 t.2)) (fun t => [.v (sh t.1), .v (sh t.2)])
theorem ok__law_got (T : Txt K mg) : FnOk P w K mg base CX0 1 T.f__law_got T.fd__law_got ["raw", "home"] (sp__law_got T) := by
  refine okD T.F__law_got sc__law_got (fun vs H Q E h => ?_) (fun cdv A outer s H vs Q E hr h => ?_)
  · exact spF_len h fun _ => rfl
  · have hu := hu_of hr
    have hu64 := hr.units
    refine ⟨_, pss_cons (ps_setLc (i := 2) (g := gTup K 3 (gCons (gName 3) (gCons (gName 4) (gCons (gName 5) gNil)))) (own := [("other", 3), ("span", 4), ("waste", 5)]) (by rfl) sc__law_got.nd rfl rfl (sw_true rfl rfl rfl (by decide +kernel)) (pi_list (pe_ix ix_tup (pv 0) pe_int (fun _ _ => rfl))) (blkOk_by (own := [("other", 3), ("span", 4), ("waste", 5)]) (N := ["raw", "home", "some", "other", "span", "waste"]) (sc := defScope s__law_got) (by decide +kernel)) (fun _ _ _ _ _ => by exact (pg_tup (n := 3) (by rfl) (pgs_cons (pg_name (i := 3) sc__law_got.nd rfl (Or.inl rfl)) (pgs_cons (pg_name (i := 4) sc__law_got.nd rfl (Or.inl rfl)) (pgs_cons (pg_name (i := 5) sc__law_got.nd rfl (Or.inl rfl)) pgs_nil))))) (fun _ _ _ _ _ => pts_one (pt_cmpR op_eq (pv 3) (pv 1) (nomark _))) (fun _ _ _ _ _ => pv 4))
      (pss_one (ps_ret (pe_tupY (pa_cons (pe_callB (cr_sum rfl) (by rfl) T.b_sum (by decide +kernel) (pa_cons (pe_lc (own := [("span", 4)]) (by rfl) sc__law_got.nd (pi_list (pv 2)) (blkOk_by (own := [("span", 4)]) (N := ["raw", "home", "some", "other", "span", "waste"]) (sc := defScope s__law_got) (by decide +kernel)) (fun _ _ _ _ _ => pg_name (i := 4) sc__law_got.nd rfl (Or.inl rfl)) (fun _ _ _ _ _ => pts_nil) (fun _ _ _ _ _ => pe_ix (show IxR _ (rIxT K) from ix_tup) (pv 4) pe_int (fun _ _ => rfl))) pa_nil)) (pa_cons (pe_callB (cr_sum rfl) (by rfl) T.b_sum (by decide +kernel) (pa_cons (pe_lc (own := [("span", 4)]) (by rfl) sc__law_got.nd (pi_list (pv 2)) (blkOk_by (own := [("span", 4)]) (N := ["raw", "home", "some", "other", "span", "waste"]) (sc := defScope s__law_got) (by decide +kernel)) (fun _ _ _ _ _ => pg_name (i := 4) sc__law_got.nd rfl (Or.inl rfl)) (fun _ _ _ _ _ => pts_nil) (fun _ _ _ _ _ => pe_ix (show IxR _ (rIxT K) from ix_tup) (pv 4) pe_int (fun _ _ => rfl))) pa_nil)) pa_nil))))), ?_⟩
    clear hu hu64
    obtain ⟨B, ⟨raw, hm⟩, h0, hn, hS, k⟩ := spF_start h ["raw", "home", "some", "other", "span", "waste"] fun _ => ⟨rfl, rfl⟩
    refine s_seq (s_set hS (ed_lcL (ed_op (γ := (List (T3 Str (Int × Int) Int))) (ev_var (α := ((List (T3 Str (Int × Int) Int)) × (List (T3 Str (Int × Int) (Tp Str))))) rfl) ev_int (rv_ixC rfl rfl)) ?_ (ho_of rfl) (fun x hx => ⟨_, (tg_tup (tgs_cons (tg_name (by decide)) (tgs_cons (tg_name (by decide)) (tgs_cons (tg_name (by decide)) tgs_nil))) rfl), (et_test (ed_op (ev_var (α := Str) rfl) (ev_var (α := Str) rfl) (rv_eqS))), (ev_var (α := (Int × Int)) rfl)⟩)) (by omega) fun some hsome σ H hS => ?_)
    · exact Nat.lt_of_lt_of_le h0 (by decide)
    cases hsome
    have z : ((raw.1.filter fun g => decide (g.a = hm)).map fun g => g.b).length < sizeLine := Nat.lt_of_le_of_lt (by rw [List.length_map]; exact List.length_filter_le _ _) (Nat.lt_of_lt_of_le h0 (by decide))
    refine s_ret hS (ed_pair (ed_cb (ed_lcL0 (ev_var (α := (List (Int × Int))) rfl) ?_ (ho_of rfl) (fun x hx => ⟨_, (tg_name (by decide)), (ed_op (γ := Int) (ev_var (α := (Int × Int)) rfl) ev_int (rv_ixC rfl rfl))⟩)) rv1_sum) (ed_cb (ed_lcL0 (ev_var (α := (List (Int × Int))) rfl) ?_ (ho_of rfl) (fun x hx => ⟨_, (tg_name (by decide)), (ed_op (γ := Int) (ev_var (α := (Int × Int)) rfl) ev_int (rv_ixC rfl rfl))⟩)) rv1_sum)) (by omega) fun v H' x e hx r => ?_
    · exact z
    · exact z
    refine k v H' x (e.mono (by omega)) ?_ r
    have e0 : x = _ := hx
    rw [e0]
    show (_, _) = (_, _)
    unfold sumL sumM
    rw [List.map_map, List.map_map]
    rfl
theorem ed_at_Sheet__got {T : Txt K mg} {ta : TE} {ρ : Ro} {d : ShD} (h : Ev ta ρ 0 (Is (sheetSh T d))) : Ev (α := Sh) (tFld K ta ("_got" : Str)) ρ 0 (Is (dctSh (spanSh T) d.got)) :=
  ed_fld (fs := _) h T.cl_Sheet T.na_Sheet__got (by simp [lk_cons]; rfl)
theorem ed_at_Sheet__waste {T : Txt K mg} {ta : TE} {ρ : Ro} {d : ShD} (h : Ev ta ρ 0 (Is (sheetSh T d))) : Ev (α := Sh) (tFld K ta ("_waste" : Str)) ρ 0 (Is (dctSh Sh.int d.waste)) :=
  ed_fld (fs := _) h T.cl_Sheet T.na_Sheet__waste (by rw [lk_cons, if_neg (by decide +kernel), lk_cons, if_pos rfl]; rfl)
theorem ed_at_Sheet__yarn {T : Txt K mg} {ta : TE} {ρ : Ro} {d : ShD} (h : Ev ta ρ 0 (Is (sheetSh T d))) : Ev (α := Sh) (tFld K ta ("_yarn" : Str)) ρ 0 (Is (dctSh (spanSh T) d.yarn)) :=
  ed_fld (fs := _) h T.cl_Sheet T.na_Sheet__yarn (by rw [lk_cons, if_neg (by decide +kernel), lk_cons, if_neg (by decide +kernel), lk_cons, if_pos rfl]; rfl)
theorem ed_at_Sheet__makers {T : Txt K mg} {ta : TE} {ρ : Ro} {d : ShD} (h : Ev ta ρ 0 (Is (sheetSh T d))) : Ev (α := Sh) (tFld K ta ("_makers" : Str)) ρ 0 (Is (dctSh (fun xs : List Str => sh xs) d.makers)) :=
  ed_fld (fs := _) h T.cl_Sheet T.na_Sheet__makers (by rw [lk_cons, if_neg (by decide +kernel), lk_cons, if_neg (by decide +kernel), lk_cons, if_neg (by decide +kernel), lk_cons, if_pos rfl]; rfl)
theorem sheet_ho {T : Txt K mg} {d : ShD} {m : Str} (h1 : ¬ m = ("_got" : Str)) (h2 : ¬ m = ("_waste" : Str)) (h3 : ¬ m = ("_yarn" : Str)) (h4 : ¬ m = ("_makers" : Str)) (h5 : ¬ m = ("_made_by" : Str)) : ∃ fs, sheetSh T d = .obj T.C_Sheet fs ∧ ∀ p ∈ fs, p.1 ≠ m := by
  refine ⟨_, rfl, fun p q => ?_⟩
  simp only [List.mem_cons, List.not_mem_nil, or_false] at q
  rcases q with rfl | rfl | rfl | rfl | rfl
  · exact fun e => h1 e.symm
  · exact fun e => h2 e.symm
  · exact fun e => h3 e.symm
  · exact fun e => h4 e.symm
  · exact fun e => h5 e.symm
theorem span_ho {T : Txt K mg} {q : Int × Int} {m : Str} (h1 : ¬ m = ("least" : Str)) (h2 : ¬ m = ("most" : Str)) : ∃ fs, spanSh T q = .obj T.C_Span fs ∧ ∀ p ∈ fs, p.1 ≠ m := by
  refine ⟨_, rfl, fun p z => ?_⟩
  simp only [List.mem_cons, List.not_mem_nil, or_false] at z
  rcases z with rfl | rfl
  · exact fun e => h1 e.symm
  · exact fun e => h2 e.symm
theorem some_get {β : Type} {l : List (Str × β)} {k : Str} {z : β} (h : l.lookup k ≠ none) : l.lookup k = some ((l.lookup k).getD z) := by
  cases e : l.lookup k with
  | none => exact absurd e h
  | some b => rfl
def sp_Sheet_homes (T : Txt K mg) : Sp := spF 0 (fun d : ShD => d.got.length < 64) (fun d => Is (srtS (d.got.map (·.1)))) (fun d => [.v (sheetSh T d)])
theorem ok_Sheet_homes (T : Txt K mg) : FnOk P w K mg base CX0 1 T.f_Sheet_homes T.fd_Sheet_homes ["self"] (sp_Sheet_homes T) := by
  refine okD T.F_Sheet_homes sc_Sheet_homes (fun vs H Q E h => ?_) (fun cdv A outer s H vs Q E hr h => ?_)
  · exact spF_len h fun _ => rfl
  · have hu := hu_of hr
    have hu64 := hr.units
    refine ⟨_, pss_one (ps_ret (pe_callB (call_sortedD rfl) (by rfl) T.b_sorted (by decide +kernel) (pa_cons (pe_fld (pv 0) (by rfl)) pa_nil))), ?_⟩
    clear hu hu64
    obtain ⟨B, d, h0, hn, hS, k⟩ := spF_start h ["self"] fun _ => ⟨rfl, rfl⟩
    refine s_ret hS (ed_sortedD (ed_at_Sheet__got (ev_var rfl)) h0) (by omega) fun v H' x e hx r => ?_
    exact k v H' x (e.mono (by omega)) hx r
def sp_Sheet_pieces (T : Txt K mg) : Sp := spF 0 (fun _ : ShD => True) (fun d => Is (d.yarn.map (·.1))) (fun d => [.v (sheetSh T d)])
theorem ok_Sheet_pieces (T : Txt K mg) : FnOk P w K mg base CX0 1 T.f_Sheet_pieces T.fd_Sheet_pieces ["self"] (sp_Sheet_pieces T) := by
  refine okD T.F_Sheet_pieces sc_Sheet_pieces (fun vs H Q E h => ?_) (fun cdv A outer s H vs Q E hr h => ?_)
  · exact spF_len h fun _ => rfl
  · have hu := hu_of hr
    have hu64 := hr.units
    refine ⟨_, pss_one (ps_ret (pe_callTy (call_list_dK rfl) (by rfl) T.b_list (by decide +kernel) (pa_cons (pe_fld (pv 0) (by rfl)) pa_nil))), ?_⟩
    clear hu hu64
    obtain ⟨B, d, h0, hn, hS, k⟩ := spF_start h ["self"] fun _ => ⟨rfl, rfl⟩
    refine s_ret hS (ed_listD (ed_at_Sheet__yarn (ev_var rfl))) (by omega) fun v H' x e hx r => ?_
    exact k v H' x (e.mono (by omega)) hx r
def sp_Sheetask_home (T : Txt K mg) : Sp := spF 0 (fun t : ShD × Str => t.1.got.lookup t.2 ≠ none) (fun _ (_ : Unit) => True) (fun t => [.v (sheetSh T t.1), .v (sh t.2)])
theorem ok_Sheetask_home (T : Txt K mg) : FnOk P w K mg base CX0 1 T.f_Sheetask_home T.fd_Sheetask_home ["self", "home"] (sp_Sheetask_home T) := by
  refine okD T.F_Sheetask_home sc_Sheetask_home (fun vs H Q E h => ?_) (fun cdv A outer s H vs Q E hr h => ?_)
  · exact spF_len h fun _ => rfl
  · have hu := hu_of hr
    have hu64 := hr.units
    refine ⟨_, pss_one (ps_if (pt_cmp (pc_dnotin hu (pv 1) (pe_fld (pv 0) (by rfl)))) (pss_one ps_never) pss_nil), ?_⟩
    clear hu hu64
    obtain ⟨B, ⟨d, hm⟩, h0, hn, hS, k⟩ := spF_start h ["self", "home"] fun _ => ⟨rfl, rfl⟩
    refine s_if hS (et_dnotin (ev_var rfl) (ed_at_Sheet__got (ev_var rfl))) (by omega) (fun ht H hS => ?_) (fun ht H hS => ?_)
    · dsimp only at h0
      rw [some_get (z := (0, 0)) h0] at ht
      cases ht
    obtain ⟨M1, z1, z2, z3, _⟩ := hS.ex
    exact k V.non H () (z3.mono (by omega)) trivial .non
def sp_Sheetask_piece (T : Txt K mg) : Sp := spF 0 (fun t : ShD × Str => t.1.yarn.lookup t.2 ≠ none) (fun _ (_ : Unit) => True) (fun t => [.v (sheetSh T t.1), .v (sh t.2)])
theorem ok_Sheetask_piece (T : Txt K mg) : FnOk P w K mg base CX0 1 T.f_Sheetask_piece T.fd_Sheetask_piece ["self", "piece"] (sp_Sheetask_piece T) := by
  refine okD T.F_Sheetask_piece sc_Sheetask_piece (fun vs H Q E h => ?_) (fun cdv A outer s H vs Q E hr h => ?_)
  · exact spF_len h fun _ => rfl
  · have hu := hu_of hr
    have hu64 := hr.units
    refine ⟨_, pss_one (ps_if (pt_cmp (pc_dnotin hu (pv 1) (pe_fld (pv 0) (by rfl)))) (pss_one ps_never) pss_nil), ?_⟩
    clear hu hu64
    obtain ⟨B, ⟨d, hm⟩, h0, hn, hS, k⟩ := spF_start h ["self", "piece"] fun _ => ⟨rfl, rfl⟩
    refine s_if hS (et_dnotin (ev_var rfl) (ed_at_Sheet__yarn (ev_var rfl))) (by omega) (fun ht H hS => ?_) (fun ht H hS => ?_)
    · dsimp only at h0
      rw [some_get (z := (0, 0)) h0] at ht
      cases ht
    obtain ⟨M1, z1, z2, z3, _⟩ := hS.ex
    exact k V.non H () (z3.mono (by omega)) trivial .non
def sp_Sheet_got (T : Txt K mg) : Sp := spF 0 (fun t : ShD × Str => t.1.got.lookup t.2 ≠ none) (fun t => Is (spanSh T ((t.1.got.lookup t.2).getD (0, 0)))) (fun t => [.v (sheetSh T t.1), .v (sh t.2)])
theorem ok_Sheet_got (T : Txt K mg) : FnOk P w K mg base CX0 6 T.f_Sheet_got T.fd_Sheet_got ["self", "home"] (sp_Sheet_got T) := by
  refine okD T.F_Sheet_got sc_Sheet_got (fun vs H Q E h => ?_) (fun cdv A outer s H vs Q E hr h => ?_)
  · exact spF_len h fun _ => rfl
  · have hu := hu_of hr
    have hu64 := hr.units
    refine ⟨_, pss_cons (ps_expr (pe_meth (pv 0) T.cl_Sheet T.m_Sheetask_home (ok_Sheetask_home (P := P) (w := w) (base := base) T) (hr.mono (by decide)) (T.b_Sheetask_home) .nil pass0 (pa_cons (pv 1) pa_nil)))
      (pss_one (ps_ret (pe_call (ok_copied (P := P) (w := w) (base := base) T) (hr.mono (by decide)) rfl T.mg_copied T.F_copied.kp (T.b_copied) .nil pass0 (pa_cons (pe_dget hu (pe_fld (pv 0) (by rfl)) (pv 1) (fun _ _ => rfl)) pa_nil)))), ?_⟩
    clear hu hu64
    obtain ⟨B, ⟨d, hm⟩, h0, hn, hS, k⟩ := spF_start h ["self", "home"] fun _ => ⟨rfl, rfl⟩
    dsimp only at h0
    refine s_seq (s_expr hS (en_meth (α := Unit) (d, hm) (ev_var rfl) (ead_v (ev_var (α := Str) rfl) ea_nil) (sheet_ho (by decide +kernel) (by decide +kernel) (by decide +kernel) (by decide +kernel) (by decide +kernel)) rfl h0) (by omega) fun x hx H hS => ?_)
    refine s_ret hS (en_fn (α := Sh) (c := 0) (c1 := 0) (pre := fun _ : Int × Int => True) (post := fun t => Is (spanSh T t)) (enc := fun t => [.v (spanSh T t)]) ((d.got.lookup hm).getD (0, 0)) (ead_v (ed_dget (ed_at_Sheet__got (ev_var rfl)) (ev_var (α := Str) rfl) (some_get h0)) ea_nil) trivial) (by omega) fun v H' x e hx r => ?_
    exact k v H' x (e.mono (by omega)) hx r
def sp_Sheet_yarn (T : Txt K mg) : Sp := spF 0 (fun t : ShD × Str => t.1.yarn.lookup t.2 ≠ none) (fun t => Is (spanSh T ((t.1.yarn.lookup t.2).getD (0, 0)))) (fun t => [.v (sheetSh T t.1), .v (sh t.2)])
theorem ok_Sheet_yarn (T : Txt K mg) : FnOk P w K mg base CX0 6 T.f_Sheet_yarn T.fd_Sheet_yarn ["self", "piece"] (sp_Sheet_yarn T) := by
  refine okD T.F_Sheet_yarn sc_Sheet_yarn (fun vs H Q E h => ?_) (fun cdv A outer s H vs Q E hr h => ?_)
  · exact spF_len h fun _ => rfl
  · have hu := hu_of hr
    have hu64 := hr.units
    refine ⟨_, pss_cons (ps_expr (pe_meth (pv 0) T.cl_Sheet T.m_Sheetask_piece (ok_Sheetask_piece (P := P) (w := w) (base := base) T) (hr.mono (by decide)) (T.b_Sheetask_piece) .nil pass0 (pa_cons (pv 1) pa_nil)))
      (pss_one (ps_ret (pe_call (ok_copied (P := P) (w := w) (base := base) T) (hr.mono (by decide)) rfl T.mg_copied T.F_copied.kp (T.b_copied) .nil pass0 (pa_cons (pe_dget hu (pe_fld (pv 0) (by rfl)) (pv 1) (fun _ _ => rfl)) pa_nil)))), ?_⟩
    clear hu hu64
    obtain ⟨B, ⟨d, hm⟩, h0, hn, hS, k⟩ := spF_start h ["self", "piece"] fun _ => ⟨rfl, rfl⟩
    dsimp only at h0
    refine s_seq (s_expr hS (en_meth (α := Unit) (d, hm) (ev_var rfl) (ead_v (ev_var (α := Str) rfl) ea_nil) (sheet_ho (by decide +kernel) (by decide +kernel) (by decide +kernel) (by decide +kernel) (by decide +kernel)) rfl h0) (by omega) fun x hx H hS => ?_)
    refine s_ret hS (en_fn (α := Sh) (c := 0) (c1 := 0) (pre := fun _ : Int × Int => True) (post := fun t => Is (spanSh T t)) (enc := fun t => [.v (spanSh T t)]) ((d.yarn.lookup hm).getD (0, 0)) (ead_v (ed_dget (ed_at_Sheet__yarn (ev_var rfl)) (ev_var (α := Str) rfl) (some_get h0)) ea_nil) trivial) (by omega) fun v H' x e hx r => ?_
    exact k v H' x (e.mono (by omega)) hx r
def sp_Sheet_makers (T : Txt K mg) : Sp := spF 0 (fun t : ShD × Str => t.1.yarn.lookup t.2 ≠ none ∧ t.1.makers.lookup t.2 ≠ none) (fun t => Is ((t.1.makers.lookup t.2).getD [])) (fun t => [.v (sheetSh T t.1), .v (sh t.2)])
theorem ok_Sheet_makers (T : Txt K mg) : FnOk P w K mg base CX0 6 T.f_Sheet_makers T.fd_Sheet_makers ["self", "piece"] (sp_Sheet_makers T) := by
  refine okD T.F_Sheet_makers sc_Sheet_makers (fun vs H Q E h => ?_) (fun cdv A outer s H vs Q E hr h => ?_)
  · exact spF_len h fun _ => rfl
  · have hu := hu_of hr
    have hu64 := hr.units
    refine ⟨_, pss_cons (ps_expr (pe_meth (pv 0) T.cl_Sheet T.m_Sheetask_piece (ok_Sheetask_piece (P := P) (w := w) (base := base) T) (hr.mono (by decide)) (T.b_Sheetask_piece) .nil pass0 (pa_cons (pv 1) pa_nil)))
      (pss_one (ps_ret (pe_callTy call_list_of (by rfl) T.b_list (by decide +kernel) (pa_cons (pe_dget hu (pe_fld (pv 0) (by rfl)) (pv 1) (fun _ _ => rfl)) pa_nil)))), ?_⟩
    clear hu hu64
    obtain ⟨B, ⟨d, hm⟩, h0, hn, hS, k⟩ := spF_start h ["self", "piece"] fun _ => ⟨rfl, rfl⟩
    dsimp only at h0
    refine s_seq (s_expr hS (en_meth (α := Unit) (d, hm) (ev_var rfl) (ead_v (ev_var (α := Str) rfl) ea_nil) (sheet_ho (by decide +kernel) (by decide +kernel) (by decide +kernel) (by decide +kernel) (by decide +kernel)) rfl h0.1) (by omega) fun x hx H hS => ?_)
    refine s_ret hS (ed_cb (Ev.to (α := List Str) (x := (d.makers.lookup hm).getD []) (ed_dget (ed_at_Sheet__makers (ev_var rfl)) (ev_var (α := Str) rfl) (some_get (z := []) h0.2)) rfl) rv1_listL) (by omega) fun v H' x e hx r => ?_
    exact k v H' x (e.mono (by omega)) hx r
/-! what a sheet of these gives and pieces has -/
theorem addG_got {d : ShD} {e : Give} (h : Str) : (addG d e).got.lookup h = if h = e.a then some (((d.got.lookup e.a).getD (0, 0)).1 + e.b.1, ((d.got.lookup e.a).getD (0, 0)).2 + e.b.2) else d.got.lookup h := lk_putA h
theorem foldG_got : ∀ (gs : List Give) (d : ShD) (h : Str), (gs.foldl addG d).got.lookup h = if h ∈ gs.map (fun g => g.a) then some (((d.got.lookup h).getD (0, 0)).1 + sumL gs h, ((d.got.lookup h).getD (0, 0)).2 + sumM gs h) else d.got.lookup h
  | [], d, h => by rw [if_neg (by simp)]; rfl
  | e :: gs, d, h => by
    rw [List.foldl_cons, foldG_got gs (addG d e) h, addG_got h]
    have sl : sumL (e :: gs) h = (if e.a = h then e.b.1 else 0) + sumL gs h := by
      unfold sumL
      by_cases z : e.a = h
      · rw [List.filter_cons_of_pos (by rw [decide_eq_true z]), List.map_cons, List.sum_cons, if_pos z]
      · rw [List.filter_cons_of_neg (by rw [decide_eq_false z]; decide), if_neg z, Int.zero_add]
    have sm : sumM (e :: gs) h = (if e.a = h then e.b.2 else 0) + sumM gs h := by
      unfold sumM
      by_cases z : e.a = h
      · rw [List.filter_cons_of_pos (by rw [decide_eq_true z]), List.map_cons, List.sum_cons, if_pos z]
      · rw [List.filter_cons_of_neg (by rw [decide_eq_false z]; decide), if_neg z, Int.zero_add]
    rw [List.map_cons]
    by_cases z : h = e.a
    · subst z
      rw [sl, sm, if_pos rfl, if_pos rfl, if_pos rfl, if_pos (List.mem_cons_self)]
      by_cases m : e.a ∈ gs.map (fun g => g.a)
      · rw [if_pos m]
        show some (_ + _ + _, _ + _ + _) = _
        rw [Int.add_assoc, Int.add_assoc]
      · rw [if_neg m]
        have n : ∀ g ∈ gs, g.a ≠ e.a := fun g mg q => m (List.mem_map.mpr ⟨g, mg, q⟩)
        rw [sumL_none n, sumM_none n, Int.add_zero, Int.add_zero]
    · have z' : ¬ e.a = h := fun q => z q.symm
      rw [show sumL (e :: gs) h = sumL gs h by rw [sl, if_neg z', Int.zero_add], show sumM (e :: gs) h = sumM gs h by rw [sm, if_neg z', Int.zero_add], if_neg z]
      by_cases m : h ∈ gs.map (fun g => g.a)
      · rw [if_pos m, if_pos (List.mem_cons_of_mem _ m)]
      · rw [if_neg m, if_neg (fun q => by rcases List.mem_cons.mp q with q | q; exact z q; exact m q)]
theorem putA_keys {β : Type} {l : List (Str × β)} {k : Str} {b : β} (nd : (l.map (·.1)).Nodup) : ((putA l k b).map (·.1)).Nodup := by
  cases e : l.lookup k with
  | none =>
    obtain ⟨a, c⟩ := putA_none (b := b) e
    rw [a, List.map_append]
    exact List.nodup_append.mpr ⟨nd, by simp, fun x mx y my z => c (by rw [List.map_singleton, List.mem_singleton] at my; rw [← show x = k from z.trans my]; exact mx)⟩
  | some c => rw [putA_some e, map_fst]; exact nd
theorem foldG_keys : ∀ (gs : List Give) (d : ShD), (d.got.map (·.1)).Nodup → ((gs.foldl addG d).got.map (·.1)).Nodup
  | [], d, h => h
  | e :: gs, d, h => foldG_keys gs (addG d e) (putA_keys h)
theorem lookup_mem {β : Type} {l : List (Str × β)} {k : Str} : k ∈ l.map (·.1) ↔ l.lookup k ≠ none := by
  constructor
  · intro m z
    exact (putA_none (b := (l.lookup k)) (l := l.map fun p => (p.1, l.lookup k)) (by
      rw [List.lookup_eq_none_iff] at z ⊢
      intro p mp
      obtain ⟨q, mq, rfl⟩ := List.mem_map.mp mp
      exact z q mq)).2 (by rw [List.map_map]; exact m)
  · intro z
    cases e : l.lookup k with
    | none => exact absurd e z
    | some b =>
      obtain ⟨l1, l2, q, _⟩ := List.lookup_eq_some_iff.mp e
      rw [q, List.map_append, List.map_cons]
      exact List.mem_append_right _ List.mem_cons_self
theorem foldG_rest : ∀ (gs : List Give) (d : ShD), (gs.foldl addG d).yarn = d.yarn ∧ (gs.foldl addG d).makers = d.makers
  | [], d => ⟨rfl, rfl⟩
  | e :: gs, d => foldG_rest gs (addG d e)
theorem addMs_makers {pc : Str} : ∀ (hs : List Str) (d : ShD) (l : List (Str × List Str)) (xs : List Str), d.makers = l ++ [(pc, xs)] → pc ∉ l.map (·.1) → (addMs d pc hs).makers = l ++ [(pc, xs ++ hs)]
  | [], d, l, xs, e, n => by rw [List.append_nil]; exact e
  | h :: hs, d, l, xs, e, n => by
    have lk : d.makers.lookup pc = some xs := by
      rw [e]
      have z : l.lookup pc = none := by
        cases q : l.lookup pc with
        | none => rfl
        | some b => exact absurd (lookup_mem.mpr (by rw [q]; simp)) n
      rw [lk_app z, if_pos rfl]
    have e2 : (addM d pc h).makers = l ++ [(pc, xs ++ [h])] := by
      show putA d.makers pc ((d.makers.lookup pc).getD [] ++ [h]) = _
      rw [putA_some lk, lk, e, List.map_append, putA_no n, List.map_singleton, if_pos rfl]
      rfl
    have z := addMs_makers hs (addM d pc h) l (xs ++ [h]) e2 n
    rw [List.append_assoc] at z
    exact z
theorem foldP_rest : ∀ (ps : List Piece) (d : ShD), (ps.map fun p => p.a).Nodup → (∀ p ∈ ps, p.a ∉ d.yarn.map (·.1)) → d.makers.map (·.1) = d.yarn.map (·.1) →
    (ps.foldl addP d).got = d.got ∧ (ps.foldl addP d).waste = d.waste ∧ (ps.foldl addP d).yarn = d.yarn ++ ps.map (fun p => (p.a, p.b)) ∧ (ps.foldl addP d).makers = d.makers ++ ps.map (fun p => (p.a, p.c.l))
  | [], d, _, _, _ => ⟨rfl, rfl, by rw [List.map_nil, List.append_nil]; rfl, by rw [List.map_nil, List.append_nil]; rfl⟩
  | p :: ps, d, nd, nw, hk => by
    rw [List.map_cons] at nd
    have nd' := List.nodup_cons.mp nd
    have ny := nw p List.mem_cons_self
    have ly : d.yarn.lookup p.a = none := by
      cases q : d.yarn.lookup p.a with
      | none => rfl
      | some b => exact absurd (lookup_mem.mpr (by rw [q]; simp)) ny
    have nm : p.a ∉ d.makers.map (·.1) := by rw [hk]; exact ny
    have lm : d.makers.lookup p.a = none := by
      cases q : d.makers.lookup p.a with
      | none => rfl
      | some b => exact absurd (lookup_mem.mpr (by rw [q]; simp)) nm
    have sm := addMs_same p.a p.c.l { d with yarn := putA d.yarn p.a p.b, makers := putA d.makers p.a [] }
    have mk := addMs_makers p.c.l { d with yarn := putA d.yarn p.a p.b, makers := putA d.makers p.a [] } d.makers [] (putA_none lm).1 nm
    have ey : (addP d p).yarn = d.yarn ++ [(p.a, p.b)] := by rw [addP_eq, sm.2.2]; exact (putA_none ly).1
    have em : (addP d p).makers = d.makers ++ [(p.a, p.c.l)] := by rw [addP_eq, mk, List.nil_append]
    have ih := foldP_rest ps (addP d p) nd'.2 (fun q mq => by
      rw [ey, List.map_append, List.mem_append, not_or]
      exact ⟨nw q (List.mem_cons_of_mem _ mq), fun z => nd'.1 (List.mem_map.mpr ⟨q, mq, List.mem_singleton.mp z⟩)⟩) (by rw [ey, em, List.map_append, List.map_append, hk]; rfl)
    rw [List.foldl_cons]
    refine ⟨ih.1.trans (by rw [addP_eq, sm.1]), ih.2.1.trans (by rw [addP_eq, sm.2.1]), ?_, ?_⟩
    · rw [ih.2.2.1, ey, List.append_assoc]; rfl
    · rw [ih.2.2.2, em, List.append_assoc]; rfl
structure SheetIs (gs : List Give) (ps : List Piece) : Prop where
  got : ∀ h, (sheetD gs ps).got.lookup h = if h ∈ gs.map (fun g => g.a) then some (sumL gs h, sumM gs h) else none
  hs : srtS ((sheetD gs ps).got.map (·.1)) = sset (gs.map fun g => g.a)
  yarn : (sheetD gs ps).yarn = ps.map fun p => (p.a, p.b)
  makers : (sheetD gs ps).makers = ps.map fun p => (p.a, p.c.l)
theorem sheet_is {gs : List Give} {ps : List Piece} (nd : (ps.map fun p => p.a).Nodup) : SheetIs gs ps := by
  have r := foldG_rest gs emptyD
  have f := foldP_rest ps (gs.foldl addG emptyD) nd (fun p m => by rw [r.1]; exact fun z => by cases z) (by rw [r.1, r.2]; rfl)
  have g : ∀ h, (sheetD gs ps).got.lookup h = if h ∈ gs.map (fun g => g.a) then some (sumL gs h, sumM gs h) else none := fun h => by
    show (ps.foldl addP _).got.lookup h = _
    rw [f.1, foldG_got]
    have q1 : ∀ a : Int, ((emptyD.got.lookup h).getD (0, 0)).1 + a = a := fun a => Int.zero_add a
    have q2 : ∀ a : Int, ((emptyD.got.lookup h).getD (0, 0)).2 + a = a := fun a => Int.zero_add a
    rw [q1, q2]
    rfl
  refine ⟨g, sset_eq ?_ fun x => ?_, ?_, ?_⟩
  · show ((ps.foldl addP _).got.map (·.1)).Nodup
    rw [f.1]
    exact foldG_keys gs emptyD List.nodup_nil
  · rw [lookup_mem, g]
    split
    · rename_i m; exact ⟨fun _ => m, fun _ => by simp⟩
    · rename_i m; exact ⟨fun z => absurd rfl z, fun z => absurd z m⟩
  · show (ps.foldl addP _).yarn = _
    rw [f.2.2.1, r.1]; rfl
  · show (ps.foldl addP _).makers = _
    rw [f.2.2.2, r.2]; rfl
def sp__law_made (T : Txt K mg) : Sp := spF 0 (fun raw : Raw => raw.1.length < 1000 ∧ raw.2.length < 1000 ∧ PsOk raw.1 raw.2) (fun raw => Is (sheetSh T (sheetD raw.1 raw.2))) (fun raw => [.v (sh raw)])
theorem ok__law_made (T : Txt K mg) : FnOk P w K mg base CX0 9 T.f__law_made T.fd__law_made ["raw"] (sp__law_made T) := by
  refine okD T.F__law_made sc__law_made (fun vs H Q E h => ?_) (fun cdv A outer s H vs Q E hr h => ?_)
  · exact spF_len h fun _ => rfl
  · have hu := hu_of hr
    have hu64 := hr.units
    obtain ⟨ds_bd_Span_init_2, bd_Span_init_2⟩ := bd_Span_init_2 T
    obtain ⟨its_bd_Sheet_init_0_gives_pieces, bd_Sheet_init_0_gives_pieces⟩ := bd_Sheet_init_0_gives_pieces T
    refine ⟨_, pss_cons (ps_setLc (i := 1) (g := gTup K 3 (gCons (gName 2) (gCons (gName 3) (gCons (gName 4) gNil)))) (own := [("home", 2), ("span", 3), ("waste", 4)]) (by rfl) sc__law_made.nd rfl rfl (sw_true rfl rfl rfl (by decide +kernel)) (pi_list (pe_ix ix_tup (pv 0) pe_int (fun _ _ => rfl))) (blkOk_by (own := [("home", 2), ("span", 3), ("waste", 4)]) (N := ["raw", "a_gives", "home", "span", "waste", "a_pieces", "title", "makers"]) (sc := defScope s__law_made) (by decide +kernel)) (fun _ _ _ _ _ => by exact (pg_tup (n := 3) (by rfl) (pgs_cons (pg_name (i := 2) sc__law_made.nd rfl (Or.inl rfl)) (pgs_cons (pg_name (i := 3) sc__law_made.nd rfl (Or.inl rfl)) (pgs_cons (pg_name (i := 4) sc__law_made.nd rfl (Or.inl rfl)) pgs_nil))))) (fun _ _ _ _ _ => pts_nil) (fun _ _ _ _ _ => pe_tupY (pa_cons (pv 2) (pa_cons (pe_makeY T.mk_Span (ok_Span_init (P := P) (w := w) (base := base) T) (hr.mono (by decide)) rfl T.mgc_Span bd_Span_init_2.2 bd_Span_init_2.1 pass0 (pa_cons (pe_ix (show IxR _ (rIxT K) from ix_tup) (pv 3) pe_int (fun _ _ => rfl)) (pa_cons (pe_ix (show IxR _ (rIxT K) from ix_tup) (pv 3) pe_int (fun _ _ => rfl)) pa_nil))) (pa_cons (pv 4) pa_nil)))))
      (pss_cons (ps_setLc (i := 5) (g := gTup K 3 (gCons (gName 6) (gCons (gName 3) (gCons (gName 7) gNil)))) (own := [("title", 6), ("span", 3), ("makers", 7)]) (by rfl) sc__law_made.nd rfl rfl (sw_true rfl rfl rfl (by decide +kernel)) (pi_list (pe_ix ix_tup (pv 0) pe_int (fun _ _ => rfl))) (blkOk_by (own := [("title", 6), ("span", 3), ("makers", 7)]) (N := ["raw", "a_gives", "home", "span", "waste", "a_pieces", "title", "makers"]) (sc := defScope s__law_made) (by decide +kernel)) (fun _ _ _ _ _ => by exact (pg_tup (n := 3) (by rfl) (pgs_cons (pg_name (i := 6) sc__law_made.nd rfl (Or.inl rfl)) (pgs_cons (pg_name (i := 3) sc__law_made.nd rfl (Or.inl rfl)) (pgs_cons (pg_name (i := 7) sc__law_made.nd rfl (Or.inl rfl)) pgs_nil))))) (fun _ _ _ _ _ => pts_nil) (fun _ _ _ _ _ => pe_tupY (pa_cons (pv 6) (pa_cons (pe_makeY T.mk_Span (ok_Span_init (P := P) (w := w) (base := base) T) (hr.mono (by decide)) rfl T.mgc_Span bd_Span_init_2.2 bd_Span_init_2.1 pass0 (pa_cons (pe_ix (show IxR _ (rIxT K) from ix_tup) (pv 3) pe_int (fun _ _ => rfl)) (pa_cons (pe_ix (show IxR _ (rIxT K) from ix_tup) (pv 3) pe_int (fun _ _ => rfl)) pa_nil))) (pa_cons (pe_callTy (show CallR _ _ (fun xs H Q => ∃ p ys, xs = [V.ref p] ∧ (SqL K H p ys ∨ SqT K H p ys) ∧ ∀ l, H l = none → Q (V.ref l) (upd H l (HO.lst ys))) from call_list_of) (by rfl) T.b_list (by decide +kernel) (pa_cons (pv 7) pa_nil)) pa_nil)))))
      (pss_one (ps_ret (pe_makeKY T.mk_Sheet (ok_Sheet_init (P := P) (w := w) (base := base) T) (hr.mono (by decide)) rfl T.mgc_Sheet bd_Sheet_init_0_gives_pieces pass0 (pk_cons (pv 1) (pk_cons (pv 5) pk_nil)))))), ?_⟩
    clear hu hu64
    obtain ⟨B, raw, ⟨h1, h2, po⟩, hn, hS, k⟩ := spF_start h ["raw", "a_gives", "home", "span", "waste", "a_pieces", "title", "makers"] fun _ => ⟨rfl, rfl⟩
    refine s_seq (s_set hS (ed_lcL0 (ed_op (γ := (List (T3 Str (Int × Int) Int))) (ev_var (α := ((List (T3 Str (Int × Int) Int)) × (List (T3 Str (Int × Int) (Tp Str))))) rfl) ev_int (rv_ixC rfl rfl)) ?_ (ho_of rfl) (fun x hx => ⟨_, (tg_tup (tgs_cons (tg_name (by decide)) (tgs_cons (tg_name (by decide)) (tgs_cons (tg_name (by decide)) tgs_nil))) rfl), (ed_trip (ev_var (α := Str) rfl) (ev_makeSpan (ed_op (γ := Int) (ev_var (α := (Int × Int)) rfl) ev_int (rv_ixC rfl rfl)) (ed_op (γ := Int) (ev_var (α := (Int × Int)) rfl) ev_int (rv_ixC rfl rfl))) (ev_var (α := Int) rfl))⟩)) (by omega) fun ag hag σ H hS => ?_)
    · exact Nat.lt_trans h1 (by decide)
    refine s_seq (s_set hS (ed_lcL0 (ed_op (γ := (List (T3 Str (Int × Int) (Tp Str)))) (ev_var (α := ((List (T3 Str (Int × Int) Int)) × (List (T3 Str (Int × Int) (Tp Str))))) rfl) ev_int (rv_ixC rfl rfl)) ?_ (ho_of rfl) (fun x hx => ⟨_, (tg_tup (tgs_cons (tg_name (by decide)) (tgs_cons (tg_name (by decide)) (tgs_cons (tg_name (by decide)) tgs_nil))) rfl), (ed_trip (ev_var (α := Str) rfl) (ev_makeSpan (ed_op (γ := Int) (ev_var (α := (Int × Int)) rfl) ev_int (rv_ixC rfl rfl)) (ed_op (γ := Int) (ev_var (α := (Int × Int)) rfl) ev_int (rv_ixC rfl rfl))) (ed_cb (ev_var (α := (Tp Str)) rfl) rv1_listT))⟩)) (by omega) fun ap hap σ H hS => ?_)
    · exact Nat.lt_trans h2 (by decide)
    refine s_ret hS (ev_makeSheetL (gs := raw.1) (ps := raw.2) (ev_var rfl) (ev_var rfl) hag hap po (fun _ _ _ => rfl)) (by omega) fun v H' x e hx r => ?_
    exact k v H' x (e.mono (by omega)) hx r
theorem ed_at_Sheet__made_by {T : Txt K mg} {ta : TE} {ρ : Ro} {d : ShD} (h : Ev ta ρ 0 (Is (sheetSh T d))) : Ev (α := Sh) (tFld K ta ("_made_by" : Str)) ρ 0 (Is (dctSh (fun xs : List Str => sh xs) d.mby)) :=
  ed_fld (fs := _) h T.cl_Sheet T.na_Sheet__made_by (by rw [lk_cons, if_neg (by decide +kernel), lk_cons, if_neg (by decide +kernel), lk_cons, if_neg (by decide +kernel), lk_cons, if_neg (by decide +kernel), lk_cons, if_pos rfl]; rfl)
theorem map_str {a b : List Str} (h : a.map Sh.str = b.map Sh.str) : a = b := List.map_inj_right (fun _ _ e => Sh.str.inj e) |>.mp h
theorem inj_tp {a b : Tp Str} (h : (sh a : Sh) = sh b) : a = b := by
  have z : a.l = b.l := map_str (Sh.tup.inj h)
  cases a; cases b; cases z; rfl
theorem lt_inj {a b : Lt} (h : (sh a : Sh) = sh b) : a.xs = b.xs := by
  cases a <;> cases b <;> first | exact map_str (Sh.lst.inj h) | exact map_str (Sh.tup.inj h) | cases h
def yD (d : ShD) (n : Str) : Int × Int := (d.yarn.lookup n).getD (0, 0)
def mD (d : ShD) (n : Str) : List Str := (d.makers.lookup n).getD []
def gD (d : ShD) (h : Str) : Int × Int := (d.got.lookup h).getD (0, 0)
def wD (d : ShD) (h : Str) : Int := (d.waste.lookup h).getD 0
def bD (d : ShD) (h : Str) : List Str := (d.mby.lookup h).getD []
def riseB (ns ks : List Str) : Bool := decide (ns = sset ns) && (ns.filter fun n => !decide (n ∈ ks)).isEmpty
def wantD (d : ShD) (ns : List Str) : Bool := decide (((sset (ns.flatMap fun n => mD d n)).map fun h => (gD d h).2).sum < (ns.map fun n => (yD d n).1).sum)
def mustD (d : ShD) (h : Str) : Int := if (0 : Int) < (gD d h).1 - wD d h then (gD d h).1 - wD d h else 0
def putD (d : ShD) (ns : List Str) : Bool := decide (((sset (ns.flatMap fun h => bD d h)).map fun p => (yD d p).2).sum < (ns.map fun h => mustD d h).sum)
structure WantOk (d : ShD) (ns : List Str) : Prop where
  len : ns.length ≤ 15
  yn : ∀ n ∈ ns, d.yarn.lookup n ≠ none ∧ d.makers.lookup n ≠ none ∧ (mD d n).length ≤ 4
  ms : ∀ n ∈ ns, ∀ h ∈ mD d n, d.got.lookup h ≠ none
structure PutOk (d : ShD) (ns : List Str) : Prop where
  len : (ns.flatMap fun h => bD d h).length < 64
  few : ns.length ≤ 60
  ho : ∀ h ∈ ns, d.got.lookup h ≠ none ∧ d.waste.lookup h ≠ none ∧ d.mby.lookup h ≠ none
  yn : ∀ h ∈ ns, ∀ p ∈ bD d h, d.yarn.lookup p ≠ none
theorem WantOk.flat {d : ShD} {ns : List Str} (h : WantOk d ns) : (ns.flatMap fun n => mD d n).length < 64 := by
  have z : ∀ l : List Str, (∀ n ∈ l, (mD d n).length ≤ 4) → (l.flatMap fun n => mD d n).length ≤ 4 * l.length := fun l => by
    induction l with
    | nil => intro _; exact Nat.zero_le _
    | cons x l ih =>
      intro q
      rw [List.flatMap_cons, List.length_append, List.length_cons]
      have a := q x List.mem_cons_self
      have b := ih fun n m => q n (List.mem_cons_of_mem _ m)
      omega
  have a := z ns fun n m => (h.yn n m).2.2
  have b := h.len
  omega
def sp_Sheet_waste (T : Txt K mg) : Sp := spF 0 (fun t : ShD × Str => t.1.got.lookup t.2 ≠ none ∧ t.1.waste.lookup t.2 ≠ none) (fun t => Is (wD t.1 t.2)) (fun t => [.v (sheetSh T t.1), .v (sh t.2)])
theorem ok_Sheet_waste (T : Txt K mg) : FnOk P w K mg base CX0 2 T.f_Sheet_waste T.fd_Sheet_waste ["self", "home"] (sp_Sheet_waste T) := by
  refine okD T.F_Sheet_waste sc_Sheet_waste (fun vs H Q E h => ?_) (fun cdv A outer s H vs Q E hr h => ?_)
  · exact spF_len h fun _ => rfl
  · have hu := hu_of hr
    have hu64 := hr.units
    refine ⟨_, pss_cons (ps_expr (pe_meth (pv 0) T.cl_Sheet T.m_Sheetask_home (ok_Sheetask_home (P := P) (w := w) (base := base) T) (hr.mono (by decide)) (T.b_Sheetask_home) .nil pass0 (pa_cons (pv 1) pa_nil)))
      (pss_one (ps_ret (pe_dget hu (pe_fld (pv 0) (by rfl)) (pv 1) (fun _ _ => rfl)))), ?_⟩
    clear hu hu64
    obtain ⟨B, ⟨d, hm⟩, h0, hn, hS, k⟩ := spF_start h ["self", "home"] fun _ => ⟨rfl, rfl⟩
    dsimp only at h0
    refine s_seq (s_expr hS (en_meth (α := Unit) (d, hm) (ev_var rfl) (ead_v (ev_var (α := Str) rfl) ea_nil) (sheet_ho (by decide +kernel) (by decide +kernel) (by decide +kernel) (by decide +kernel) (by decide +kernel)) rfl h0.1) (by omega) fun x hx H hS => ?_)
    refine s_ret hS (Ev.to (α := Int) (ed_dget (ed_at_Sheet__waste (ev_var rfl)) (ev_var (α := Str) rfl) (some_get (z := 0) h0.2)) rfl) (by omega) fun v H' x e hx r => ?_
    exact k v H' x (e.mono (by omega)) hx r
def sp_Sheet_made_by (T : Txt K mg) : Sp := spF 0 (fun t : ShD × Str => t.1.got.lookup t.2 ≠ none ∧ t.1.mby.lookup t.2 ≠ none) (fun t => Is (bD t.1 t.2)) (fun t => [.v (sheetSh T t.1), .v (sh t.2)])
theorem ok_Sheet_made_by (T : Txt K mg) : FnOk P w K mg base CX0 6 T.f_Sheet_made_by T.fd_Sheet_made_by ["self", "home"] (sp_Sheet_made_by T) := by
  refine okD T.F_Sheet_made_by sc_Sheet_made_by (fun vs H Q E h => ?_) (fun cdv A outer s H vs Q E hr h => ?_)
  · exact spF_len h fun _ => rfl
  · have hu := hu_of hr
    have hu64 := hr.units
    refine ⟨_, pss_cons (ps_expr (pe_meth (pv 0) T.cl_Sheet T.m_Sheetask_home (ok_Sheetask_home (P := P) (w := w) (base := base) T) (hr.mono (by decide)) (T.b_Sheetask_home) .nil pass0 (pa_cons (pv 1) pa_nil)))
      (pss_one (ps_ret (pe_callTy call_list_of (by rfl) T.b_list (by decide +kernel) (pa_cons (pe_dget hu (pe_fld (pv 0) (by rfl)) (pv 1) (fun _ _ => rfl)) pa_nil)))), ?_⟩
    clear hu hu64
    obtain ⟨B, ⟨d, hm⟩, h0, hn, hS, k⟩ := spF_start h ["self", "home"] fun _ => ⟨rfl, rfl⟩
    dsimp only at h0
    refine s_seq (s_expr hS (en_meth (α := Unit) (d, hm) (ev_var rfl) (ead_v (ev_var (α := Str) rfl) ea_nil) (sheet_ho (by decide +kernel) (by decide +kernel) (by decide +kernel) (by decide +kernel) (by decide +kernel)) rfl h0.1) (by omega) fun x hx H hS => ?_)
    refine s_ret hS (ed_cb (Ev.to (α := List Str) (x := bD d hm) (ed_dget (ed_at_Sheet__made_by (ev_var rfl)) (ev_var (α := Str) rfl) (some_get (z := []) h0.2)) rfl) rv1_listL) (by omega) fun v H' x e hx r => ?_
    exact k v H' x (e.mono (by omega)) hx r
def sp_rise_in (T : Txt K mg) : Sp := spF 0 (fun t : Tp Str × Lt => t.1.l.length < 64 ∧ ∀ x ∈ t.1.l, PyData.strOk x = true) (fun t => Is (riseB t.1.l t.2.xs)) (fun t => [.v (sh t.1), .v (sh t.2)])
theorem ok_rise_in (T : Txt K mg) : FnOk P w K mg base CX0 1 T.f_rise_in T.fd_rise_in ["names", "known"] (sp_rise_in T) := by
  refine okD T.F_rise_in sc_rise_in (fun vs H Q E h => ?_) (fun cdv A outer s H vs Q E hr h => ?_)
  · exact spF_len h fun _ => rfl
  · have hu := hu_of hr
    have hu64 := hr.units
    refine ⟨_, pss_one (ps_ret (pe_and (pe_cmpR (op_eqD hu64) (pe_callTy call_list_of (by rfl) T.b_list (by decide +kernel) (pa_cons (pv 0) pa_nil)) (pe_callB (cr_sortedTx rfl) (by rfl) T.b_sorted (by decide +kernel) (pa_cons (pe_callTy (cr_setTx rfl) (by rfl) T.b_set (by decide +kernel) (pa_cons (pv 0) pa_nil)) pa_nil)) (nomark _)) (pe_one (pe_notT (pe_lc (own := [("name", 2)]) (by rfl) sc_rise_in.nd (pi_tup (pv 0)) (blkOk_by (own := [("name", 2)]) (N := ["names", "known", "name"]) (sc := defScope s_rise_in) (by decide +kernel)) (fun _ _ _ _ _ => pg_name (i := 2) sc_rise_in.nd rfl (Or.inl rfl)) (fun _ _ _ _ _ => pts_one (pt_cmpR (op_notIn_seqK rfl) (pv 2) (pv 1) (by rfl))) (fun _ _ _ _ _ => pv 2)))))), ?_⟩
    clear hu hu64
    obtain ⟨B, ⟨ns, ks⟩, h0, hn, hS, k⟩ := spF_start h ["names", "known", "name"] fun _ => ⟨rfl, rfl⟩
    dsimp only at h0
    refine s_ret hS (ed_andV (ed_op (ed_cb (ev_var (α := Tp Str) (x := ns) rfl) rv1_listT) (ed_sortedSetT (ev_var (α := Tp Str) (x := ns) rfl) h0.1) (rv_eqD 8 (by decide) (pl_strs h0.2) (pl_strs fun x m => h0.2 x (sset_mem.mp m)))) (fun _ => ed_notL (ed_lcT (p := fun n => !decide (n ∈ ks.xs)) (f := fun n => n) (ev_var (α := Tp Str) (x := ns) rfl) (Nat.lt_trans h0.1 (by decide)) (ho_of rfl) (fun x hx => ⟨_, tg_name (by decide), et_test (ed_op (ev_var (α := Str) rfl) (ev_var (α := Lt) rfl) rv_ninLt), ev_var (α := Str) rfl⟩)))) (by omega) fun v H' x e hx r => ?_
    refine k v H' x (e.mono (by omega)) ?_ r
    rw [show x = _ from hx]
    show _ = riseB ns.l ks.xs
    unfold riseB
    rw [List.map_id']
    exact congr (congrArg and (decide_eq_decide.mpr Iff.rfl)) rfl
def sp_want_more (T : Txt K mg) : Sp := spF 0 (fun t : ShD × Tp Str => WantOk t.1 t.2.l) (fun t => Is (wantD t.1 t.2.l)) (fun t => [.v (sheetSh T t.1), .v (sh t.2)])
theorem ok_want_more (T : Txt K mg) : FnOk P w K mg base CX0 8 T.f_want_more T.fd_want_more ["sheet", "pieces"] (sp_want_more T) := by
  refine okD T.F_want_more sc_want_more (fun vs H Q E h => ?_) (fun cdv A outer s H vs Q E hr h => ?_)
  · exact spF_len h fun _ => rfl
  · have hu := hu_of hr
    have hu64 := hr.units
    refine ⟨_, pss_cons (ps_set (i := 2) sc_want_more.nd rfl (Or.inl rfl) (pe_callB (cr_sortedTx rfl) (by rfl) T.b_sorted (by decide +kernel) (pa_cons (pe_sc2 (own := [("piece", 3), ("home", 4)]) (vs1 := [4]) (by rfl) sc_want_more.nd (pi_tup (pv 1)) (blkOk_by (own := [("piece", 3), ("home", 4)]) (N := ["sheet", "pieces", "makers", "piece", "home", "least"]) (sc := defScope s_want_more) (by decide +kernel)) (by decide) (fun _ _ _ _ _ => pg_name (i := 3) sc_want_more.nd rfl (Or.inl rfl)) (fun _ _ _ _ _ => pts_nil) (fun _ _ _ _ _ => pi_listK rfl (pe_meth (pv 0) T.cl_Sheet T.m_Sheet_makers (ok_Sheet_makers (P := P) (w := w) (base := base) T) (hr.mono (by decide)) (T.b_Sheet_makers) .nil pass0 (pa_cons (pv 3) pa_nil))) (fun _ _ _ _ _ => pg_name (i := 4) sc_want_more.nd rfl (Or.inl rfl)) (fun _ _ _ _ _ => pts_nil) (fun _ _ _ _ _ => pv 4)) pa_nil)))
      (pss_cons (ps_set (i := 5) sc_want_more.nd rfl (Or.inl rfl) (pe_callB (cr_sum rfl) (by rfl) T.b_sum (by decide +kernel) (pa_cons (pe_lc (own := [("piece", 3)]) (by rfl) sc_want_more.nd (pi_tup (pv 1)) (blkOk_by (own := [("piece", 3)]) (N := ["sheet", "pieces", "makers", "piece", "home", "least"]) (sc := defScope s_want_more) (by decide +kernel)) (fun _ _ _ _ _ => pg_name (i := 3) sc_want_more.nd rfl (Or.inl rfl)) (fun _ _ _ _ _ => pts_nil) (fun _ _ _ _ _ => pe_fldK rfl (pe_meth (pv 0) T.cl_Sheet T.m_Sheet_yarn (ok_Sheet_yarn (P := P) (w := w) (base := base) T) (hr.mono (by decide)) (T.b_Sheet_yarn) .nil pass0 (pa_cons (pv 3) pa_nil)) (by rfl))) pa_nil)))
      (pss_one (ps_ret (pe_cmpR op_gt (pv 5) (pe_callB (cr_sum rfl) (by rfl) T.b_sum (by decide +kernel) (pa_cons (pe_lc (own := [("home", 4)]) (by rfl) sc_want_more.nd (pi_list (pv 2)) (blkOk_by (own := [("home", 4)]) (N := ["sheet", "pieces", "makers", "piece", "home", "least"]) (sc := defScope s_want_more) (by decide +kernel)) (fun _ _ _ _ _ => pg_name (i := 4) sc_want_more.nd rfl (Or.inl rfl)) (fun _ _ _ _ _ => pts_nil) (fun _ _ _ _ _ => pe_fldK rfl (pe_meth (pv 0) T.cl_Sheet T.m_Sheet_got (ok_Sheet_got (P := P) (w := w) (base := base) T) (hr.mono (by decide)) (T.b_Sheet_got) .nil pass0 (pa_cons (pv 4) pa_nil)) (by rfl))) pa_nil)) (nomark _))))), ?_⟩
    clear hu hu64
    obtain ⟨B, ⟨d, ns⟩, h0, hn, hS, k⟩ := spF_start h ["sheet", "pieces", "makers", "piece", "home", "least"] fun _ => ⟨rfl, rfl⟩
    dsimp only at h0
    refine s_seq (s_set hS (ed_sortedSc2 (xs := ns) (ys := fun n => mD d n) (f := fun _ h => h) (ev_var (α := Tp Str) rfl) (by simpa using h0.flat) (ho_of rfl) (fun x hx => ⟨_, tg_name (by decide), (en_meth (α := List Str) (pre := fun t : ShD × Str => t.1.yarn.lookup t.2 ≠ none ∧ t.1.makers.lookup t.2 ≠ none) (post := fun t => Is ((t.1.makers.lookup t.2).getD [])) (d, x) (ev_var rfl) (ead_v (ev_var (α := Str) rfl) ea_nil) (sheet_ho (by decide +kernel) (by decide +kernel) (by decide +kernel) (by decide +kernel) (by decide +kernel)) rfl ⟨(h0.yn x hx).1, (h0.yn x hx).2.1⟩), rfl, ho_of rfl, fun y hy => ⟨_, tg_name (by decide), ev_var (α := Str) rfl⟩⟩)) (by omega) fun mk hmk σ H hS => ?_)
    have emk : mk = sset (ns.l.flatMap fun n => mD d n) := by
      rw [show mk = _ from hmk]
      simp
    have hin : ∀ h ∈ mk, d.got.lookup h ≠ none := fun h m => by
      rw [emk] at m
      obtain ⟨n, mn, mh⟩ := List.mem_flatMap.mp (sset_mem.mp m)
      exact h0.ms n mn h mh
    have hlm : mk.length < sizeLine := by
      rw [emk]
      exact Nat.lt_of_le_of_lt sset_le (Nat.lt_trans h0.flat (by decide))
    refine s_seq (s_set hS (ed_cb (ed_lcT0 (f := fun n => (yD d n).1) (ev_var (α := Tp Str) (x := ns) rfl) (Nat.lt_of_le_of_lt h0.len (by decide)) (ho_of rfl) (fun x hx => ⟨_, tg_name (by decide), ed_at_Span_least (en_meth (α := Sh) (pre := fun t : ShD × Str => t.1.yarn.lookup t.2 ≠ none) (post := fun t => Is (spanSh T ((t.1.yarn.lookup t.2).getD (0, 0)))) (d, x) (ev_var rfl) (ead_v (ev_var (α := Str) rfl) ea_nil) (sheet_ho (by decide +kernel) (by decide +kernel) (by decide +kernel) (by decide +kernel) (by decide +kernel)) rfl (h0.yn x hx).1)⟩)) rv1_sum) (by omega) fun least hl σ H hS => ?_)
    refine s_ret hS (ed_op (ev_var (α := Int) (x := least) rfl) (ed_cb (ed_lcL0 (f := fun h => (gD d h).2) (ev_var (α := List Str) (x := mk) rfl) hlm (ho_of rfl) (fun x hx => ⟨_, tg_name (by decide), ed_at_Span_most (en_meth (α := Sh) (pre := fun t : ShD × Str => t.1.got.lookup t.2 ≠ none) (post := fun t => Is (spanSh T ((t.1.got.lookup t.2).getD (0, 0)))) (d, x) (ev_var rfl) (ead_v (ev_var (α := Str) rfl) ea_nil) (sheet_ho (by decide +kernel) (by decide +kernel) (by decide +kernel) (by decide +kernel) (by decide +kernel)) rfl (hin x hx))⟩)) rv1_sum) rv_gt) (by omega) fun v H' x e hx r => ?_
    refine k v H' x (e.mono (by omega)) ?_ r
    rw [show x = _ from hx, show least = _ from hl, emk]
    rfl
def sp_must_put (T : Txt K mg) : Sp := spF 0 (fun t : ShD × Str => t.1.got.lookup t.2 ≠ none ∧ t.1.waste.lookup t.2 ≠ none) (fun t => Is (mustD t.1 t.2)) (fun t => [.v (sheetSh T t.1), .v (sh t.2)])
theorem ok_must_put (T : Txt K mg) : FnOk P w K mg base CX0 7 T.f_must_put T.fd_must_put ["sheet", "home"] (sp_must_put T) := by
  refine okD T.F_must_put sc_must_put (fun vs H Q E h => ?_) (fun cdv A outer s H vs Q E hr h => ?_)
  · exact spF_len h fun _ => rfl
  · have hu := hu_of hr
    have hu64 := hr.units
    refine ⟨_, pss_one (ps_ret (pe_callB (call_max2 rfl) (by rfl) T.b_max (by decide +kernel) (pa_cons pe_int (pa_cons (pe_op op_sub (pe_fld (pe_meth (pv 0) T.cl_Sheet T.m_Sheet_got (ok_Sheet_got (P := P) (w := w) (base := base) T) (hr.mono (by decide)) (T.b_Sheet_got) .nil pass0 (pa_cons (pv 1) pa_nil)) (by rfl)) (pe_meth (pv 0) T.cl_Sheet T.m_Sheet_waste (ok_Sheet_waste (P := P) (w := w) (base := base) T) (hr.mono (by decide)) (T.b_Sheet_waste) .nil pass0 (pa_cons (pv 1) pa_nil))) pa_nil)))), ?_⟩
    clear hu hu64
    obtain ⟨B, ⟨d, hm⟩, h0, hn, hS, k⟩ := spF_start h ["sheet", "home"] fun _ => ⟨rfl, rfl⟩
    dsimp only at h0
    refine s_ret hS (ed_cb2 ev_int (ed_op (ed_at_Span_least (en_meth (α := Sh) (pre := fun t : ShD × Str => t.1.got.lookup t.2 ≠ none) (post := fun t => Is (spanSh T ((t.1.got.lookup t.2).getD (0, 0)))) (d, hm) (ev_var rfl) (ead_v (ev_var (α := Str) rfl) ea_nil) (sheet_ho (by decide +kernel) (by decide +kernel) (by decide +kernel) (by decide +kernel) (by decide +kernel)) rfl h0.1)) (en_meth (α := Int) (pre := fun t : ShD × Str => t.1.got.lookup t.2 ≠ none ∧ t.1.waste.lookup t.2 ≠ none) (post := fun t => Is (wD t.1 t.2)) (d, hm) (ev_var rfl) (ead_v (ev_var (α := Str) rfl) ea_nil) (sheet_ho (by decide +kernel) (by decide +kernel) (by decide +kernel) (by decide +kernel) (by decide +kernel)) rfl h0) rv_sub)) (by omega) fun v H' x e hx r => ?_
    exact k v H' x (e.mono (by omega)) hx r
def sp_put_more (T : Txt K mg) : Sp := spF 0 (fun t : ShD × Tp Str => PutOk t.1 t.2.l) (fun t => Is (putD t.1 t.2.l)) (fun t => [.v (sheetSh T t.1), .v (sh t.2)])
theorem ok_put_more (T : Txt K mg) : FnOk P w K mg base CX0 8 T.f_put_more T.fd_put_more ["sheet", "homes"] (sp_put_more T) := by
  refine okD T.F_put_more sc_put_more (fun vs H Q E h => ?_) (fun cdv A outer s H vs Q E hr h => ?_)
  · exact spF_len h fun _ => rfl
  · have hu := hu_of hr
    have hu64 := hr.units
    refine ⟨_, pss_cons (ps_set (i := 2) sc_put_more.nd rfl (Or.inl rfl) (pe_callB (cr_sortedTx rfl) (by rfl) T.b_sorted (by decide +kernel) (pa_cons (pe_sc2 (own := [("home", 3), ("piece", 4)]) (vs1 := [4]) (by rfl) sc_put_more.nd (pi_tup (pv 1)) (blkOk_by (own := [("home", 3), ("piece", 4)]) (N := ["sheet", "homes", "made", "home", "piece", "least"]) (sc := defScope s_put_more) (by decide +kernel)) (by decide) (fun _ _ _ _ _ => pg_name (i := 3) sc_put_more.nd rfl (Or.inl rfl)) (fun _ _ _ _ _ => pts_nil) (fun _ _ _ _ _ => pi_listK rfl (pe_meth (pv 0) T.cl_Sheet T.m_Sheet_made_by (ok_Sheet_made_by (P := P) (w := w) (base := base) T) (hr.mono (by decide)) (T.b_Sheet_made_by) .nil pass0 (pa_cons (pv 3) pa_nil))) (fun _ _ _ _ _ => pg_name (i := 4) sc_put_more.nd rfl (Or.inl rfl)) (fun _ _ _ _ _ => pts_nil) (fun _ _ _ _ _ => pv 4)) pa_nil)))
      (pss_cons (ps_set (i := 5) sc_put_more.nd rfl (Or.inl rfl) (pe_callB (cr_sum rfl) (by rfl) T.b_sum (by decide +kernel) (pa_cons (pe_lc (own := [("home", 3)]) (by rfl) sc_put_more.nd (pi_tup (pv 1)) (blkOk_by (own := [("home", 3)]) (N := ["sheet", "homes", "made", "home", "piece", "least"]) (sc := defScope s_put_more) (by decide +kernel)) (fun _ _ _ _ _ => pg_name (i := 3) sc_put_more.nd rfl (Or.inl rfl)) (fun _ _ _ _ _ => pts_nil) (fun _ _ _ _ _ => pe_call (ok_must_put (P := P) (w := w) (base := base) T) (hr.mono (by decide)) rfl T.mg_must_put T.F_must_put.kp (T.b_must_put) .nil pass0 (pa_cons (pv 0) (pa_cons (pv 3) pa_nil)))) pa_nil)))
      (pss_one (ps_ret (pe_cmpR op_gt (pv 5) (pe_callB (cr_sum rfl) (by rfl) T.b_sum (by decide +kernel) (pa_cons (pe_lc (own := [("piece", 4)]) (by rfl) sc_put_more.nd (pi_list (pv 2)) (blkOk_by (own := [("piece", 4)]) (N := ["sheet", "homes", "made", "home", "piece", "least"]) (sc := defScope s_put_more) (by decide +kernel)) (fun _ _ _ _ _ => pg_name (i := 4) sc_put_more.nd rfl (Or.inl rfl)) (fun _ _ _ _ _ => pts_nil) (fun _ _ _ _ _ => pe_fldK rfl (pe_meth (pv 0) T.cl_Sheet T.m_Sheet_yarn (ok_Sheet_yarn (P := P) (w := w) (base := base) T) (hr.mono (by decide)) (T.b_Sheet_yarn) .nil pass0 (pa_cons (pv 4) pa_nil)) (by rfl))) pa_nil)) (nomark _))))), ?_⟩
    clear hu hu64
    obtain ⟨B, ⟨d, ns⟩, h0, hn, hS, k⟩ := spF_start h ["sheet", "homes", "made", "home", "piece", "least"] fun _ => ⟨rfl, rfl⟩
    dsimp only at h0
    refine s_seq (s_set hS (ed_sortedSc2 (xs := ns) (ys := fun n => bD d n) (f := fun _ h => h) (ev_var (α := Tp Str) rfl) (by simpa using h0.len) (ho_of rfl) (fun x hx => ⟨_, tg_name (by decide), (en_meth (α := List Str) (pre := fun t : ShD × Str => t.1.got.lookup t.2 ≠ none ∧ t.1.mby.lookup t.2 ≠ none) (post := fun t => Is (bD t.1 t.2)) (d, x) (ev_var rfl) (ead_v (ev_var (α := Str) rfl) ea_nil) (sheet_ho (by decide +kernel) (by decide +kernel) (by decide +kernel) (by decide +kernel) (by decide +kernel)) rfl ⟨(h0.ho x hx).1, (h0.ho x hx).2.2⟩), rfl, ho_of rfl, fun y hy => ⟨_, tg_name (by decide), ev_var (α := Str) rfl⟩⟩)) (by omega) fun mk hmk σ H hS => ?_)
    have emk : mk = sset (ns.l.flatMap fun n => bD d n) := by
      rw [show mk = _ from hmk]
      simp
    have hin : ∀ h ∈ mk, d.yarn.lookup h ≠ none := fun h m => by
      rw [emk] at m
      obtain ⟨n, mn, mh⟩ := List.mem_flatMap.mp (sset_mem.mp m)
      exact h0.yn n mn h mh
    have hlm : mk.length < sizeLine := by
      rw [emk]
      exact Nat.lt_of_le_of_lt sset_le (Nat.lt_trans h0.len (by decide))
    refine s_seq (s_set hS (ed_cb (ed_lcT0 (f := fun n => mustD d n) (ev_var (α := Tp Str) (x := ns) rfl) (Nat.lt_of_le_of_lt h0.few (by decide)) (ho_of rfl) (fun x hx => ⟨_, tg_name (by decide), en_fn (α := Int) (pre := fun t : ShD × Str => t.1.got.lookup t.2 ≠ none ∧ t.1.waste.lookup t.2 ≠ none) (post := fun t => Is (mustD t.1 t.2)) (d, x) (ead_v (ev_var (α := Sh) rfl) (ead_v (ev_var (α := Str) rfl) ea_nil)) ⟨(h0.ho x hx).1, (h0.ho x hx).2.1⟩⟩)) rv1_sum) (by omega) fun least hl σ H hS => ?_)
    refine s_ret hS (ed_op (ev_var (α := Int) (x := least) rfl) (ed_cb (ed_lcL0 (f := fun h => (yD d h).2) (ev_var (α := List Str) (x := mk) rfl) hlm (ho_of rfl) (fun x hx => ⟨_, tg_name (by decide), ed_at_Span_most (en_meth (α := Sh) (pre := fun t : ShD × Str => t.1.yarn.lookup t.2 ≠ none) (post := fun t => Is (spanSh T ((t.1.yarn.lookup t.2).getD (0, 0)))) (d, x) (ev_var rfl) (ead_v (ev_var (α := Str) rfl) ea_nil) (sheet_ho (by decide +kernel) (by decide +kernel) (by decide +kernel) (by decide +kernel) (by decide +kernel)) rfl (hin x hx))⟩)) rv1_sum) rv_gt) (by omega) fun v H' x e hx r => ?_
    refine k v H' x (e.mono (by omega)) ?_ r
    rw [show x = _ from hx, show least = _ from hl, emk]
    rfl
theorem ev_pieces {T : Txt K mg} {ρ : Ro} {d : ShD} {i : Nat} (h : Ev (tVar i) ρ 0 (Is (sheetSh T d))) : Ev (α := Lt) (tMeth T.C_Sheet ("pieces" : Str) (sp_Sheet_pieces T) [] E0 (tVar i) tNil) ρ 0 (Is (Lt.l (d.yarn.map (·.1)))) := by
  have z : Ev (α := List Str) (tMeth T.C_Sheet ("pieces" : Str) (sp_Sheet_pieces T) [] E0 (tVar i) tNil) ρ 0 (Is (d.yarn.map (·.1))) := en_meth (α := List Str) (pre := fun _ : ShD => True) (post := fun d => Is (d.yarn.map (·.1))) d h ea_nil (sheet_ho (by decide +kernel) (by decide +kernel) (by decide +kernel) (by decide +kernel) (by decide +kernel)) rfl trivial
  exact Ev.re z rfl
def barsV (d : ShD) (p : Str × Tp Str) (fr : Fr) : Bool := if p.1 = Str.ofString "short" then riseB p.2.l (d.yarn.map (·.1)) && wantD d p.2.l else decide (p.1 = Str.ofString "over") && (riseB p.2.l fr.xs && putD d p.2.l)
structure BarsOk (d : ShD) (p : Str × Tp Str) (fr : Fr) : Prop where
  l : p.2.l.length < 64
  o : ∀ x ∈ p.2.l, PyData.strOk x = true
  s : p.1 = Str.ofString "short" → riseB p.2.l (d.yarn.map (·.1)) = true → WantOk d p.2.l
  h : p.1 = Str.ofString "over" → riseB p.2.l fr.xs = true → PutOk d p.2.l
def sp_bars (T : Txt K mg) : Sp := spF 0 (fun t : ShD × (Str × Tp Str) × Fr => BarsOk t.1 t.2.1 t.2.2) (fun t => Is (barsV t.1 t.2.1 t.2.2)) (fun t => [.v (sheetSh T t.1), .v (sh t.2.1), .v (sh t.2.2)])
theorem ok_bars (T : Txt K mg) : FnOk P w K mg base CX0 9 T.f_bars T.fd_bars ["sheet", "paper", "fair"] (sp_bars T) := by
  refine okD T.F_bars sc_bars (fun vs H Q E h => ?_) (fun cdv A outer s H vs Q E hr h => ?_)
  · exact spF_len h fun _ => rfl
  · have hu := hu_of hr
    have hu64 := hr.units
    refine ⟨_, pss_cons (ps_asg (pv 1) (pg_tup (by rfl) (pgs_cons (pg_name (i := 3) sc_bars.nd rfl (Or.inl rfl)) (pgs_cons (pg_name (i := 4) sc_bars.nd rfl (Or.inl rfl)) pgs_nil))))
      (pss_cons (ps_if (pt_cmpR op_eq (pv 3) pe_str (nomark _)) (pss_one (ps_ret (pe_and (pe_call (ok_rise_in (P := P) (w := w) (base := base) T) (hr.mono (by decide)) rfl T.mg_rise_in T.F_rise_in.kp (T.b_rise_in) .nil pass0 (pa_cons (pv 4) (pa_cons (pe_meth0 (pv 0) T.cl_Sheet T.m_Sheet_pieces (ok_Sheet_pieces (P := P) (w := w) (base := base) T) (hr.mono (by decide)) (T.b_Sheet_pieces) .nil pass0) pa_nil))) (pe_one (pe_call (ok_want_more (P := P) (w := w) (base := base) T) (hr.mono (by decide)) rfl T.mg_want_more T.F_want_more.kp (T.b_want_more) .nil pass0 (pa_cons (pv 0) (pa_cons (pv 4) pa_nil))))))) pss_nil)
      (pss_one (ps_ret (pe_and (pe_cmpR op_eq (pv 3) pe_str (nomark _)) (pe_and (pe_call (ok_rise_in (P := P) (w := w) (base := base) T) (hr.mono (by decide)) rfl T.mg_rise_in T.F_rise_in.kp (T.b_rise_in) .nil pass0 (pa_cons (pv 4) (pa_cons (pe_orT (pv 2) (pe_one (pe_tupY pa_nil))) pa_nil))) (pe_one (pe_call (ok_put_more (P := P) (w := w) (base := base) T) (hr.mono (by decide)) rfl T.mg_put_more T.F_put_more.kp (T.b_put_more) .nil pass0 (pa_cons (pv 0) (pa_cons (pv 4) pa_nil))))))))), ?_⟩
    clear hu hu64
    obtain ⟨B, ⟨d, ⟨w, ns⟩, fr⟩, ⟨l0, o0, h0, h1⟩, hn, hS, k⟩ := spF_start h ["sheet", "paper", "fair", "word", "names"] fun _ => ⟨rfl, rfl⟩
    dsimp only at l0 o0 h0 h1
    refine s_seq (s_asgT (own := [3, 4]) (x := (w, ns)) hS (ev_var rfl) (by omega) (tg_tup (tgs_cons (tg_name (by decide)) (tgs_cons (tg_name (by decide)) tgs_nil)) rfl) rfl fun σ H hS => ?_)
    refine s_seq (s_if hS (et_test (ed_op (ev_var (α := Str) (x := w) rfl) ev_str rv_eqS)) (by omega) (fun ht H hS => ?_) (fun ht H hS => ?_))
    · have hw : w = Str.ofString "short" := of_decide_eq_true (Eq.symm ht)
      refine s_ret hS (ed_andV (en_fn (α := Bool) (pre := fun t : Tp Str × Lt => t.1.l.length < 64 ∧ ∀ x ∈ t.1.l, PyData.strOk x = true) (post := fun t => Is (riseB t.1.l t.2.xs)) (ns, Lt.l (d.yarn.map fun p : Str × (Int × Int) => p.1)) (ead_v (ev_var (α := Tp Str) rfl) (ead_v (ev_pieces (ev_var (α := Sh) rfl)) ea_nil)) ⟨l0, o0⟩) (fun hr => en_fn (α := Bool) (pre := fun t : ShD × Tp Str => WantOk t.1 t.2.l) (post := fun t => Is (wantD t.1 t.2.l)) (d, ns) (ead_v (ev_var (α := Sh) rfl) (ead_v (ev_var (α := Tp Str) rfl) ea_nil)) (h0 hw (show riseB ns.l (d.yarn.map fun p => p.1) = true from hr)))) (by omega) fun v H' x e hx r => ?_
      refine k v H' x (e.mono (by omega)) ?_ r
      rw [show x = _ from hx]
      exact (if_pos hw).symm
    have hw : ¬ w = Str.ofString "short" := of_decide_eq_false (Eq.symm ht)
    refine s_ret hS (ed_andV (ed_op (ev_var (α := Str) (x := w) rfl) ev_str rv_eqS) (fun ho => ed_andV (Ev.imp (A' := Is (riseB ns.l fr.xs)) (en_fnA (α := Bool) (pre := fun t : Tp Str × Lt => t.1.l.length < 64 ∧ ∀ x ∈ t.1.l, PyData.strOk x = true) (post := fun t => Is (riseB t.1.l t.2.xs)) (ea_v (ev_var (α := Tp Str) (x := ns) rfl) (ea_v (ev_orFr (f := fr) (ev_var (α := Fr) rfl)) ea_nil)) ?_) (Nat.le_refl _) ?_) (fun hr => en_fn (α := Bool) (pre := fun t : ShD × Tp Str => PutOk t.1 t.2.l) (post := fun t => Is (putD t.1 t.2.l)) (d, ns) (ead_v (ev_var (α := Sh) rfl) (ead_v (ev_var (α := Tp Str) rfl) ea_nil)) (h1 (of_decide_eq_true ho) hr)))) (by omega) fun v H' x e hx r => ?_
    · rintro ss ⟨x, r1, e1, ⟨y, r2, hy, e2, e3⟩, e4⟩
      rw [e4, e3, show r2 = [] from e2, show x = ns from e1]
      exact ⟨(ns, y), rfl, l0, o0⟩
    · rintro b ⟨⟨t1, t2⟩, ⟨x, r1, e1, ⟨y, r2, hy, e2, e3⟩, e4⟩, _, e5⟩
      rw [show b = riseB t1.l t2.xs from e5]
      rw [e3, show r2 = [] from e2, show x = ns from e1] at e4
      have q1 : Sl.v (sh t1) = Sl.v (sh ns) := (List.cons.inj e4).1
      have q2 : Sl.v (sh t2) = Sl.v (sh y) := (List.cons.inj (List.cons.inj e4).2).1
      have z1 : t1 = ns := inj_tp (Sl.v.inj q1)
      have z2 : t2.xs = y.xs := lt_inj (Sl.v.inj q2)
      show riseB t1.l t2.xs = riseB ns.l fr.xs
      rw [z1, z2, hy]
    refine k v H' x (e.mono (by omega)) ?_ r
    rw [show x = _ from hx]
    exact (if_neg hw).symm
structure GB (g : Give) : Prop where
  a : 0 ≤ g.b.1
  b : g.b.1 ≤ g.b.2
  c : g.b.2 ≤ 2 ^ 58
  d : 0 ≤ g.c
  e : g.c ≤ 2 ^ 58
theorem lcR_by {α β γ : Type} {f : β → γ} {g : α → γ} {Q : β → Prop} {xs : List α} {ys : List β} (h : LcR (fun _ b => b = true) (fun x y => f y = g x ∧ Q y) xs ys) : ys.map f = xs.map g ∧ ∀ y ∈ ys, Q y := by
  induction h with
  | nil => exact ⟨rfl, fun p m => by cases m⟩
  | yes _ _ e ih =>
    refine ⟨by rw [List.map_append, ih.1, List.map_append]; exact congrArg (_ ++ [·]) e.1, fun p m => ?_⟩
    rcases List.mem_append.mp m with m | m
    · exact ih.2 p m
    · rw [List.mem_singleton.mp m]; exact e.2
  | no _ b _ => cases b
def sp__law_free (T : Txt K mg) : Sp := spF 100000 (fun t : Int × Int × Int => 1 ≤ t.1 ∧ t.1 ≤ 20 ∧ 0 ≤ t.2.1 ∧ t.2.1 ≤ 20 ∧ 1 ≤ t.2.2 ∧ t.2.2 ≤ 2 ^ 49) (fun t (x : Raw) => RawOk (2 * t.1.toNat) t.2.1.toNat x) (fun t => [.pen, .v (sh t.1), .v (sh t.2.1), .v (sh t.2.2)])
theorem ok__law_free (T : Txt K mg) : FnOk P w K mg base CX0 5 T.f__law_free T.fd__law_free ["pen", "homes", "a_pieces", "wide"] (sp__law_free T) := by
  refine okD T.F__law_free sc__law_free (fun vs H Q E h => ?_) (fun cdv A outer s H vs Q E hr h => ?_)
  · exact spF_len h fun _ => rfl
  · have hu := hu_of hr
    have hu64 := hr.units
    refine ⟨_, pss_cons (ps_set (i := 4) sc__law_free.nd rfl (Or.inr rfl) (pe_call (ok__law_names (P := P) (w := w) (base := base) T) (hr.mono (by decide)) rfl T.mg__law_names T.F__law_names.kp (T.b__law_names) .nil pass0 (pa_cons (pv 0) (pa_cons (pe_op op_add pe_int (pe_call (ok__law_draw (P := P) (w := w) (base := base) T) (hr.mono (by decide)) rfl T.mg__law_draw T.F__law_draw.kp (T.b__law_draw) .nil pass0 (pa_cons (pv 0) (pa_cons (pv 1) pa_nil)))) pa_nil))))
      (pss_cons (ps_setLc (i := 5) (own := [("home", 6)]) (by rfl) sc__law_free.nd rfl rfl (sw_true rfl rfl rfl (by decide +kernel)) (pi_list (pv 4)) (blkOk_by (own := [("home", 6)]) (N := ["pen", "homes", "a_pieces", "wide", "names", "a_gives", "home", "titles", "title"]) (sc := defScope s__law_free) (by decide +kernel)) (fun _ _ _ _ _ => pg_name (i := 6) sc__law_free.nd rfl (Or.inl rfl)) (fun _ _ _ _ _ => pts_nil) (fun _ _ _ _ _ => pe_tupY (pa_cons (pv 6) (pa_cons (pe_call (ok__law_span (P := P) (w := w) (base := base) T) (hr.mono (by decide)) rfl T.mg__law_span T.F__law_span.kp (T.b__law_span) .nil pass0 (pa_cons (pv 0) (pa_cons (pv 3) pa_nil))) (pa_cons (pe_call (ok__law_draw (P := P) (w := w) (base := base) T) (hr.mono (by decide)) rfl T.mg__law_draw T.F__law_draw.kp (T.b__law_draw) .nil pass0 (pa_cons (pv 0) (pa_cons (pv 3) pa_nil))) pa_nil)))))
      (pss_cons (ps_for PassesOwn.never rfl (pi_list (pv 4)) (pg_name (i := 6) sc__law_free.nd rfl (Or.inl rfl)) (pss_one (ps_if (pt_cmpR op_eq (pe_call (ok__law_draw (P := P) (w := w) (base := base) T) (hr.mono (by decide)) rfl T.mg__law_draw T.F__law_draw.kp (T.b__law_draw) .nil pass0 (pa_cons (pv 0) (pa_cons pe_int pa_nil))) pe_int (nomark _)) (pss_one (ps_expr (pe_bm PySem.F.plainAttrs_list PySem.F.slot_list_append PySem.F.type_list_append mt_appendY (pv 5) (pa_cons (pe_tupY (pa_cons (pv 6) (pa_cons (pe_call (ok__law_span (P := P) (w := w) (base := base) T) (hr.mono (by decide)) rfl T.mg__law_span T.F__law_span.kp (T.b__law_span) .nil pass0 (pa_cons (pv 0) (pa_cons (pv 3) pa_nil))) (pa_cons (pe_call (ok__law_draw (P := P) (w := w) (base := base) T) (hr.mono (by decide)) rfl T.mg__law_draw T.F__law_draw.kp (T.b__law_draw) .nil pass0 (pa_cons (pv 0) (pa_cons pe_int pa_nil))) pa_nil)))) pa_nil)))) pss_nil)))
      (pss_cons (ps_set (i := 7) sc__law_free.nd rfl (Or.inl rfl) (pe_call (ok__law_titles (P := P) (w := w) (base := base) T) (hr.mono (by decide)) rfl T.mg__law_titles T.F__law_titles.kp (T.b__law_titles) .nil pass0 (pa_cons (pv 0) (pa_cons (pv 4) (pa_cons (pe_call (ok__law_draw (P := P) (w := w) (base := base) T) (hr.mono (by decide)) rfl T.mg__law_draw T.F__law_draw.kp (T.b__law_draw) .nil pass0 (pa_cons (pv 0) (pa_cons (pe_op op_add (pv 2) pe_int) pa_nil))) pa_nil)))))
      (pss_one (ps_ret (pe_tupY (pa_cons (pv 5) (pa_cons (pe_lc (own := [("title", 8)]) (by rfl) sc__law_free.nd (pi_list (pv 7)) (blkOk_by (own := [("title", 8)]) (N := ["pen", "homes", "a_pieces", "wide", "names", "a_gives", "home", "titles", "title"]) (sc := defScope s__law_free) (by decide +kernel)) (fun _ _ _ _ _ => pg_name (i := 8) sc__law_free.nd rfl (Or.inl rfl)) (fun _ _ _ _ _ => pts_nil) (fun _ _ _ _ _ => pe_tupY (pa_cons (pv 8) (pa_cons (pe_call (ok__law_span (P := P) (w := w) (base := base) T) (hr.mono (by decide)) rfl T.mg__law_span T.F__law_span.kp (T.b__law_span) .nil pass0 (pa_cons (pv 0) (pa_cons (pv 3) pa_nil))) (pa_cons (pe_call (ok__law_makers (P := P) (w := w) (base := base) T) (hr.mono (by decide)) rfl T.mg__law_makers T.F__law_makers.kp (T.b__law_makers) .nil pass0 (pa_cons (pv 0) (pa_cons (pv 4) pa_nil))) pa_nil))))) pa_nil)))))))), ?_⟩
    clear hu hu64
    have lim : (LIM : Nat) = 2 ^ 58 := rfl
    obtain ⟨B, ⟨nh, np, wd⟩, ⟨h0, h1, p0, p1, w0, w1⟩, hn, hS, k⟩ := spF_start h ["pen", "homes", "a_pieces", "wide", "names", "a_gives", "home", "titles", "title"] fun _ => ⟨rfl, rfl⟩
    dsimp only at h0 h1 p0 p1 w0 w1 hS k
    refine s_seq (s_set hS (en_fnA (α := (List Str)) (ea_pen rfl (ea_v (en_op (fun (i j : Int) => i + j) ev_int (ed_draw rfl (ev_var (α := Int) rfl) ?_) (fun i j hi hj => rv_add)) ea_nil)) ?_) (by omega) fun names hnames σ H hS => ?_)
    · omega
    · (rintro ss ⟨_, ⟨x, _, ⟨a, b, rfl, hb, rfl⟩, rfl, rfl⟩, rfl⟩; exact ⟨_, rfl, by omega, by omega⟩)
    have hN : 1 ≤ names.length ∧ (names.length : Int) ≤ nh ∧ Nms names := by
      obtain ⟨t, ⟨_, ⟨x, _, ⟨a, b, rfl, hb, rfl⟩, rfl, rfl⟩, he⟩, ⟨t0, t1⟩, hl, hN⟩ := hnames
      have e : t = 1 + b := by simpa [Ty.sh] using he
      exact ⟨by omega, by omega, hN⟩
    clear hnames
    obtain ⟨nl1, nl2, nN⟩ := hN
    have lN : names.length ≤ 64 := by omega
    have neN : names ≠ [] := fun e => by rw [e] at nl1; simp at nl1
    refine s_seq (s_own hS (evn_lcL (m := 64) (P := fun _ b => b = true) (E := fun (x : Str) (g : Give) => g.a = x ∧ GB g) (c1 := 0) (c2 := 20) (ev_var (α := (List Str)) rfl) ?_ (by decide) (ho_of rfl) (fun xs hxs x hx => ⟨_, (tg_name (by decide)), et_yes, ?_⟩)) (by omega) fun gs0 hgs σ H hS => ?_)
    · (rintro xs rfl; exact lN)
    · (refine Ev.imp (ev_trip (ev_var (α := Str) rfl) (en_fn (α := (Int × Int)) _ (ead_pen rfl (ead_v (ev_var (α := Int) rfl) ea_nil)) ?_) (ed_draw rfl (ev_var (α := Int) rfl) ?_)) (by omega) (fun p h => ?_); exact ⟨by omega, by omega⟩; exact ⟨by omega, by omega⟩; (obtain ⟨q1, q2, q3⟩ := h; exact ⟨q1, ⟨by omega, by omega, by omega, by omega, by omega⟩⟩))
    obtain ⟨zz, ezz, hlc⟩ := hgs
    rw [show zz = names from ezz] at hlc
    obtain ⟨g1, g2⟩ := lcR_by (f := fun g : Give => g.a) (g := fun x => x) hlc
    rw [List.map_id'] at g1
    have g3 : gs0.length = names.length := by rw [← g1, List.length_map]
    refine s_seq (s_forL (own := [6]) (cc := 30) (xs := names) hS (fun i ρ => ∃ (gs : List Give) (s6 : Option Sl), gs.length ≤ names.length + i ∧ (∀ g ∈ gs, g.a ∈ names ∧ GB g) ∧ (∀ h ∈ names, ∃ g ∈ gs, g.a = h) ∧ (∀ z, s6 ≠ some (.own z)) ∧
        ρ = [some .pen, some (.v (sh nh)), some (.v (sh np)), some (.v (sh wd)), some (.v (sh names)), some (.own (gs.map sh)), s6, none, none])
      (ev_var (α := (List Str)) rfl) (by omega) ⟨gs0, none, by omega, (fun g m => ⟨by rw [← g1]; exact List.mem_map.mpr ⟨g, m, rfl⟩, g2 g m⟩), (fun h m => by rw [← g1] at m; obtain ⟨g, mg, e⟩ := List.mem_map.mp m; exact ⟨g, mg, e⟩), (fun z => by simp), rfl⟩ ?_ ?_)
    · rintro G i x ρi hx ⟨gs, s6, e1, e2, e3, n6, rfl⟩
      have hBn : (B.at G).n = B.n := rfl
      have hi : i < names.length := (List.getElem?_eq_some_iff.mp hx).1
      refine ⟨_, (tg_name (by decide)), rfl, fun σ H hS N hN => ?_⟩
      refine s_if hS (et_test (en_op (fun (i j : Int) => decide (i = j)) (ed_draw rfl ev_int ?_) ev_int (fun i j hi hj => rv_eqI))) (by omega) (fun ht H hS => ?_) (fun ht H hS => ?_)
      · exact ⟨by decide, by decide⟩
      · skip
        refine s_app hS rfl (ev_trip (ev_var (α := Str) rfl) (en_fn (α := (Int × Int)) _ (ead_pen rfl (ead_v (ev_var (α := Int) rfl) ea_nil)) ?_) (ed_draw rfl ev_int ?_)) (by omega) ?_ fun g hg H hS => ?_
        · exact ⟨by omega, by omega⟩
        · exact ⟨by decide, by decide⟩
        · (rw [List.length_map]; exact Nat.lt_of_le_of_lt (show gs.length ≤ 128 by omega) (by decide))
        obtain ⟨q1, q2, q3⟩ := hg
        refine hN σ H _ ⟨gs ++ [g], some (.v (sh x)), by rw [List.length_append]; show gs.length + 1 ≤ _; omega, fun y m => ?_, fun h m => ?_, fun z => by simp, ?_⟩ (hS.up (by omega))
        · rcases List.mem_append.mp m with m | m
          · exact e2 y m
          · rw [List.mem_singleton.mp m]
            exact ⟨by rw [q1]; exact List.mem_of_getElem? hx, ⟨by omega, by omega, by omega, by omega, by omega⟩⟩
        · obtain ⟨g, mg, e⟩ := e3 h m
          exact ⟨g, List.mem_append_left _ mg, e⟩
        · rw [List.map_append]
          rfl
      exact hN σ H _ ⟨gs, some (.v (sh x)), by omega, e2, e3, fun z => by simp, rfl⟩ (hS.up (by omega))
    rintro ρ2 ⟨gs, s6, e1, e2, e3, n6, rfl⟩ σ H hS
    replace hS : StOk B _ σ H [some .pen, some (.v (sh nh)), some (.v (sh np)), some (.v (sh wd)), some (.v (sh names)), some (.v (sh gs)), s6, none, none] := hS.freeze (i := 5) rfl
    refine s_seq (s_set hS (en_fnA (α := (List Str)) (ea_pen rfl (ea_v (ev_var (α := (List Str)) rfl) (ea_v (ed_draw rfl (ed_op (ev_var (α := Int) rfl) ev_int (rv_add)) ?_) ea_nil))) ?_) (by omega) fun titles ht σ H hS => ?_)
    · exact ⟨by omega, by omega⟩
    · (rintro ss ⟨r, ⟨x, r1, f1, ⟨y, r2, hy, f2, f3⟩, f4⟩, f5⟩; rw [f5, f4, f3, show r2 = [] from f2, show x = _ from f1]; exact ⟨(_, y), rfl, nN, by omega, by omega⟩)
    have hT : Nms titles ∧ (titles.length : Int) ≤ np := by
      obtain ⟨t, ⟨r, ⟨x, r1, f1, ⟨y, r2, hy, f2, f3⟩, f4⟩, he⟩, ⟨_, t0, t1⟩, hx, hl⟩ := ht
      rw [f4, f3] at he
      have z := congrArg (fun l : List Sl => l[2]?) he
      have z2 : some (Sl.v (.int t.2)) = some (Sl.v (.int y)) := z
      have e : t.2 = y := by cases z2; rfl
      exact ⟨hx, by omega⟩
    obtain ⟨nT, lT⟩ := hT
    refine s_ret hS (ev_pair (ev_var (α := (List (T3 Str (Int × Int) Int))) rfl) (ev_lcL (m := 64) (P := fun _ b => b = true) (E := fun (x : Str) (p : Piece) => p.a = x ∧ (0 ≤ p.b.1 ∧ p.b.1 ≤ p.b.2 ∧ p.b.2 ≤ 2 ^ 58) ∧ MkOk names p.c) (c1 := 0) (c2 := 320) (ev_var (α := (List Str)) rfl) ?_ (by decide) (ho_of rfl) (fun xs hxs x hx => ⟨_, (tg_name (by decide)), et_yes, ?_⟩))) (by omega) fun v H' x e hx r => ?_
    · (rintro ts rfl; omega)
    · (refine Ev.imp (ev_trip (ev_var (α := Str) rfl) (en_fn (α := (Int × Int)) _ (ead_pen rfl (ead_v (ev_var (α := Int) rfl) ea_nil)) ?_) (en_fn (α := (Tp Str)) _ (ead_pen rfl (ead_v (ev_var (α := (List Str)) rfl) ea_nil)) ?_)) (by omega) (fun p h => ⟨h.1, ⟨h.2.1.1, h.2.1.2.2.1, by have := h.2.1.2.2.2; omega⟩, h.2.2⟩); exact ⟨by omega, by omega⟩; exact ⟨nN.nd, neN, lN⟩)
    refine k v H' x (e.mono (by omega)) ?_ r
    obtain ⟨f1, ts, f2, f3⟩ := hx
    rw [show ts = titles from f2] at f3
    obtain ⟨q1, q2⟩ := lcR_by (f := fun p : Piece => p.a) (g := fun x => x) f3
    rw [List.map_id'] at q1
    have q3 : x.2.length = titles.length := by rw [← q1, List.length_map]
    have e4 : x.1 = gs := f1
    have hs : ∀ h, h ∈ homesOf x ↔ h ∈ names := fun h => by
      unfold homesOf
      rw [e4]
      exact ⟨fun m => by obtain ⟨g, mg, e⟩ := List.mem_map.mp m; rw [← e]; exact (e2 g mg).1, fun m => by obtain ⟨g, mg, e⟩ := e3 h m; exact List.mem_map.mpr ⟨g, mg, e⟩⟩
    refine ⟨by rw [e4]; omega, by omega, fun g m => ?_, fun p m => ?_, by rw [q1]; exact nT.nd, fun z => ?_⟩
    · rw [e4] at m
      obtain ⟨a, b⟩ := e2 g m
      exact ⟨nN.low _ a, b.a, b.b, b.c, b.d, b.e⟩
    · obtain ⟨a, b⟩ := q2 p m
      exact ⟨nT.low _ (by rw [← q1]; exact List.mem_map.mpr ⟨p, m, rfl⟩), a, b.nd, b.pos, b.few, fun h mh => (hs h).mpr (b.sub h mh)⟩
    · rw [e4] at z
      cases en : names with
      | nil => exact neN en
      | cons h t =>
        obtain ⟨g, mg, _⟩ := e3 h (by rw [en]; exact List.mem_cons_self)
        rw [z] at mg
        cases mg
def mustL (raw : Raw) (h : Str) : Int := if (0 : Int) < sumL raw.1 h - sumW raw.1 h then sumL raw.1 h - sumW raw.1 h else 0
def someT (raw : Raw) (ns : List Str) : List Piece := raw.2.filter fun p => decide (p.a ∈ ns)
def someH (raw : Raw) (ns : List Str) : List Piece := raw.2.filter fun p => !(ns.filter fun h => decide (h ∈ p.c.l)).isEmpty
def mksL (raw : Raw) (ns : List Str) : List Str := (sset (homesOf raw)).filter fun h => !((someT raw ns).filter fun p => decide (h ∈ p.c.l)).isEmpty
def lawB (raw : Raw) (w : Str) (ns fr : List Str) : Bool :=
  if ns = sset ns then
    if w = Str.ofString "short" then
      if (someT raw ns).length = ns.length then decide (((mksL raw ns).map fun h => sumM raw.1 h).sum < ((someT raw ns).map fun p => p.b.1).sum) else false
    else if (ns.filter fun h => !decide (h ∈ fr)) = [] then decide (((someH raw ns).map fun p => p.b.2).sum < (ns.map fun h => mustL raw h).sum) else false
  else false
theorem dec_nil {α : Type} {x : List α} {i : Decidable (x = [])} : @decide (x = []) i = x.isEmpty := by
  cases x with
  | nil => exact decide_eq_true rfl
  | cons a l => exact decide_eq_false (fun z => by cases z)
theorem pl_ps {xs : List Piece} (h : ∀ p ∈ xs, PyData.strOk p.a = true ∧ ∀ h ∈ p.c.l, PyData.strOk h = true) : plD 8 (sh xs) := fun y m => by
  obtain ⟨p, mp, rfl⟩ := List.mem_map.mp m
  intro z mz
  have mz : z = Sh.str p.a ∨ z = sh p.b ∨ z = sh p.c ∨ z ∈ [] := by simpa [sh] using mz
  rcases mz with rfl | rfl | rfl | mz
  · exact (h p mp).1
  · intro q mq
    have mq : q = Sh.int p.b.1 ∨ q = Sh.int p.b.2 := by simpa [sh] using mq
    rcases mq with rfl | rfl <;> trivial
  · intro q mq
    obtain ⟨x, mx, rfl⟩ := List.mem_map.mp mq
    exact (h p mp).2 x mx
  · cases mz
theorem pl_nil {α : Type} [Ty α] : plD 8 (sh ([] : List α)) := fun y m => by cases m
theorem et_nilL {α : Type} [Ty α] [Inj α] {K : PySem.W.Frag} {te : TE} {ρ : Ro} {xs : List α} (h : Ev te ρ 0 (Is xs)) (pl : plD 8 (sh xs)) : EvT (tTest (tOp (rNeD K) te (tLstY tNil))) ρ 0 (Is (!xs.isEmpty)) := by
  have z := et_test (ed_op h (ed_lst (el_nil (α := α)) (show 0 ≤ sizeLine by decide)) (rv_neD (K := K) 8 (by decide) pl pl_nil))
  rwa [dec_nil] at z
theorem ed_filL {α : Type} [Ty α] {K : PySem.W.Frag} {tl : TE} {g : TG} {tt : TT} {te : TE} {own : List Nat} {ρ : Ro} {xs : List α} {p : α → Bool} (hs : Ev tl ρ 0 (Is xs)) (hl : xs.length < sizeLine) (ho : ∀ i ∈ own, ∀ s, ρ[i]? ≠ some (some s))
    (hb : ∀ x ∈ xs, ∃ ρ', TgOk g (sh x) own ρ ρ' ∧ EvT tt ρ' 0 (Is (p x)) ∧ Ev te ρ' 0 (Is x)) : Ev (tLc (iList K tl) g tt te own) ρ 0 (Is (xs.filter p)) := by
  have z := ed_lcL (K := K) (f := fun x : α => x) hs hl ho hb
  rwa [List.map_id'] at z
theorem ed_filT {α : Type} [Ty α] {K : PySem.W.Frag} {tl : TE} {g : TG} {tt : TT} {te : TE} {own : List Nat} {ρ : Ro} {xs : Tp α} {p : α → Bool} (hs : Ev tl ρ 0 (Is xs)) (hl : xs.l.length < sizeLine) (ho : ∀ i ∈ own, ∀ s, ρ[i]? ≠ some (some s))
    (hb : ∀ x ∈ xs.l, ∃ ρ', TgOk g (sh x) own ρ ρ' ∧ EvT tt ρ' 0 (Is (p x)) ∧ Ev te ρ' 0 (Is x)) : Ev (tLc (iTup K tl) g tt te own) ρ 0 (Is (xs.l.filter p)) := by
  have z := ed_lcT (K := K) (f := fun x : α => x) hs hl ho hb
  rwa [List.map_id'] at z
def sp__law_waste (T : Txt K mg) : Sp := spF 0 (fun t : Raw × Str => t.1.1.length < 64) (fun t => Is (sumW t.1.1 t.2)) (fun t => [.v (sh t.1), .v (sh t.2)])
theorem ok__law_waste (T : Txt K mg) : FnOk P w K mg base CX0 1 T.f__law_waste T.fd__law_waste ["raw", "home"] (sp__law_waste T) := by
  refine okD T.F__law_waste sc__law_waste (fun vs H Q E h => ?_) (fun cdv A outer s H vs Q E hr h => ?_)
  · exact spF_len h fun _ => rfl
  · have hu := hu_of hr
    have hu64 := hr.units
    refine ⟨_, pss_one (ps_ret (pe_callB (cr_sum rfl) (by rfl) T.b_sum (by decide +kernel) (pa_cons (pe_lc (g := gTup K 3 (gCons (gName 2) (gCons (gName 3) (gCons (gName 4) gNil)))) (own := [("other", 2), ("span", 3), ("waste", 4)]) (by rfl) sc__law_waste.nd (pi_list (pe_ix ix_tup (pv 0) pe_int (fun _ _ => rfl))) (blkOk_by (own := [("other", 2), ("span", 3), ("waste", 4)]) (N := ["raw", "home", "other", "span", "waste"]) (sc := defScope s__law_waste) (by decide +kernel)) (fun _ _ _ _ _ => by exact (pg_tup (n := 3) (by rfl) (pgs_cons (pg_name (i := 2) sc__law_waste.nd rfl (Or.inl rfl)) (pgs_cons (pg_name (i := 3) sc__law_waste.nd rfl (Or.inl rfl)) (pgs_cons (pg_name (i := 4) sc__law_waste.nd rfl (Or.inl rfl)) pgs_nil))))) (fun _ _ _ _ _ => pts_one (pt_cmpR op_eq (pv 2) (pv 1) (nomark _))) (fun _ _ _ _ _ => pv 4)) pa_nil))), ?_⟩
    clear hu hu64
    obtain ⟨B, ⟨raw, hm⟩, h0, hn, hS, k⟩ := spF_start h ["raw", "home", "other", "span", "waste"] fun _ => ⟨rfl, rfl⟩
    refine s_ret hS (ed_cb (ed_lcL (ed_op (γ := (List (T3 Str (Int × Int) Int))) (ev_var (α := ((List (T3 Str (Int × Int) Int)) × (List (T3 Str (Int × Int) (Tp Str))))) rfl) ev_int (rv_ixC rfl rfl)) ?_ (ho_of rfl) (fun x hx => ⟨_, (tg_tup (tgs_cons (tg_name (by decide)) (tgs_cons (tg_name (by decide)) (tgs_cons (tg_name (by decide)) tgs_nil))) rfl), (et_test (ed_op (ev_var (α := Str) rfl) (ev_var (α := Str) rfl) (rv_eqS))), (ev_var (α := Int) rfl)⟩)) rv1_sum) (by omega) fun v H' x e hx r => ?_
    · exact Nat.lt_of_lt_of_le h0 (by decide)
    exact k v H' x (e.mono (by omega)) hx r
def sp__law_bars (T : Txt K mg) : Sp := spF 0 (fun t : Raw × (Str × Tp Str) × List Str => RawN t.1 ∧ t.2.1.2.l.length < 64 ∧ (∀ x ∈ t.2.1.2.l, PyData.strOk x = true) ∧ t.2.2.length < 1000 ∧ (∀ x ∈ t.2.2, PyData.strOk x = true)) (fun t => Is (lawB t.1 t.2.1.1 t.2.1.2.l t.2.2)) (fun t => [.v (sh t.1), .v (sh t.2.1), .v (sh t.2.2)])
theorem ok__law_bars (T : Txt K mg) : FnOk P w K mg base CX0 2 T.f__law_bars T.fd__law_bars ["raw", "paper", "fair"] (sp__law_bars T) := by
  refine okD T.F__law_bars sc__law_bars (fun vs H Q E h => ?_) (fun cdv A outer s H vs Q E hr h => ?_)
  · exact spF_len h fun _ => rfl
  · have hu := hu_of hr
    have hu64 := hr.units
    refine ⟨_, pss_cons (ps_asg (pv 1) (pg_tup (by rfl) (pgs_cons (pg_name (i := 3) sc__law_bars.nd rfl (Or.inl rfl)) (pgs_cons (pg_name (i := 4) sc__law_bars.nd rfl (Or.inr rfl)) pgs_nil))))
      (pss_cons (ps_if (pt_cmpR (op_neD hu64) (pe_callTy call_list_of (by rfl) T.b_list (by decide +kernel) (pa_cons (pv 4) pa_nil)) (pe_callB (cr_sortedTx rfl) (by rfl) T.b_sorted (by decide +kernel) (pa_cons (pe_callTy (cr_setTx rfl) (by rfl) T.b_set (by decide +kernel) (pa_cons (pv 4) pa_nil)) pa_nil)) (nomark _)) (pss_one (ps_ret pe_bl)) pss_nil)
      (pss_cons (ps_if (pt_cmpR op_eq (pv 3) pe_str (nomark _)) (pss_cons (ps_set (i := 5) sc__law_bars.nd rfl (Or.inr rfl) (pe_lc (own := [("row", 6)]) (by rfl) sc__law_bars.nd (pi_list (pe_ix ix_tup (pv 0) pe_int (fun _ _ => rfl))) (blkOk_by (own := [("row", 6)]) (N := ["raw", "paper", "fair", "word", "names", "some", "row", "makers", "home", "must"]) (sc := defScope s__law_bars) (by decide +kernel)) (fun _ _ _ _ _ => pg_name (i := 6) sc__law_bars.nd rfl (Or.inl rfl)) (fun _ _ _ _ _ => pts_one (pt_cmpR (op_in_seqK rfl) (pe_ix (show IxR _ (rIxT K) from ix_tup) (pv 6) pe_int (fun _ _ => rfl)) (pv 4) (by rfl))) (fun _ _ _ _ _ => pv 6)))
      (pss_cons (ps_if (pt_cmpR op_ne (pe_callB call_len_seq (by rfl) T.b_len PySem.boot_len (pa_cons (pv 5) pa_nil)) (pe_callB call_len_seq (by rfl) T.b_len PySem.boot_len (pa_cons (pv 4) pa_nil)) (nomark _)) (pss_one (ps_ret pe_bl)) pss_nil)
      (pss_cons (ps_setLc (i := 7) (own := [("home", 8)]) (by rfl) sc__law_bars.nd rfl rfl (sw_true rfl rfl rfl (by decide +kernel)) (pi_list (pe_call (ok__law_homes (P := P) (w := w) (base := base) T) (hr.mono (by decide)) rfl T.mg__law_homes T.F__law_homes.kp (T.b__law_homes) .nil pass0 (pa_cons (pv 0) pa_nil))) (blkOk_by (own := [("home", 8)]) (N := ["raw", "paper", "fair", "word", "names", "some", "row", "makers", "home", "must"]) (sc := defScope s__law_bars) (by decide +kernel)) (fun _ _ _ _ _ => pg_name (i := 8) sc__law_bars.nd rfl (Or.inr rfl)) (fun _ _ _ _ _ => pts_one (pt_cmpR (op_neDK rfl hu64) (pe_lc (own := [("row", 6)]) (by rfl) sc__law_bars.nd (pi_listK rfl (pv 5)) (blkIn (own := [("row", 6)]) (N := ["raw", "paper", "fair", "word", "names", "some", "row", "makers", "home", "must"]) (by decide +kernel)) (fun _ _ _ _ _ => pg_name (i := 6) sc__law_bars.nd rfl (Or.inl rfl)) (fun _ _ _ _ _ => pts_one (pt_cmpR (op_in_seqK rfl) (pv 8) (pe_ix (show IxR _ (rIxT K) from ix_tup) (pv 6) pe_int (fun _ _ => rfl)) (by rfl))) (fun _ _ _ _ _ => pv 6)) (pe_lstY pa_nil) (nomark _))) (fun _ _ _ _ _ => pv 8))
      (pss_one (ps_ret (pe_cmpR op_gt (pe_callB (cr_sum rfl) (by rfl) T.b_sum (by decide +kernel) (pa_cons (pe_lc (own := [("row", 6)]) (by rfl) sc__law_bars.nd (pi_list (pv 5)) (blkOk_by (own := [("row", 6)]) (N := ["raw", "paper", "fair", "word", "names", "some", "row", "makers", "home", "must"]) (sc := defScope s__law_bars) (by decide +kernel)) (fun _ _ _ _ _ => pg_name (i := 6) sc__law_bars.nd rfl (Or.inl rfl)) (fun _ _ _ _ _ => pts_nil) (fun _ _ _ _ _ => pe_ix (show IxR _ (rIxT K) from ix_tup) (pe_ix (show IxR _ (rIxT K) from ix_tup) (pv 6) pe_int (fun _ _ => rfl)) pe_int (fun _ _ => rfl))) pa_nil)) (pe_callB (cr_sum rfl) (by rfl) T.b_sum (by decide +kernel) (pa_cons (pe_lc (own := [("home", 8)]) (by rfl) sc__law_bars.nd (pi_list (pv 7)) (blkOk_by (own := [("home", 8)]) (N := ["raw", "paper", "fair", "word", "names", "some", "row", "makers", "home", "must"]) (sc := defScope s__law_bars) (by decide +kernel)) (fun _ _ _ _ _ => pg_name (i := 8) sc__law_bars.nd rfl (Or.inl rfl)) (fun _ _ _ _ _ => pts_nil) (fun _ _ _ _ _ => pe_ix (show IxR _ (rIxT K) from ix_tup) (pe_call (ok__law_got (P := P) (w := w) (base := base) T) (hr.mono (by decide)) rfl T.mg__law_got T.F__law_got.kp (T.b__law_got) .nil pass0 (pa_cons (pv 0) (pa_cons (pv 8) pa_nil))) pe_int (fun _ _ => rfl))) pa_nil)) (nomark _))))))) pss_nil)
      (pss_cons (ps_if (pt_cmpR (op_neD hu64) (pe_lc (own := [("home", 8)]) (by rfl) sc__law_bars.nd (pi_tup (pv 4)) (blkOk_by (own := [("home", 8)]) (N := ["raw", "paper", "fair", "word", "names", "some", "row", "makers", "home", "must"]) (sc := defScope s__law_bars) (by decide +kernel)) (fun _ _ _ _ _ => pg_name (i := 8) sc__law_bars.nd rfl (Or.inl rfl)) (fun _ _ _ _ _ => pts_one (pt_cmpR (op_notIn_seqK rfl) (pv 8) (pv 2) (by rfl))) (fun _ _ _ _ _ => pv 8)) (pe_lstY pa_nil) (nomark _)) (pss_one (ps_ret pe_bl)) pss_nil)
      (pss_cons (ps_set (i := 5) sc__law_bars.nd rfl (Or.inr rfl) (pe_lc (own := [("row", 6)]) (by rfl) sc__law_bars.nd (pi_list (pe_ix ix_tup (pv 0) pe_int (fun _ _ => rfl))) (blkOk_by (own := [("row", 6)]) (N := ["raw", "paper", "fair", "word", "names", "some", "row", "makers", "home", "must"]) (sc := defScope s__law_bars) (by decide +kernel)) (fun _ _ _ _ _ => pg_name (i := 6) sc__law_bars.nd rfl (Or.inr rfl)) (fun _ _ _ _ _ => pts_one (pt_cmpR (op_neDK rfl hu64) (pe_lc (own := [("home", 8)]) (by rfl) sc__law_bars.nd (pi_tupK rfl (pv 4)) (blkIn (own := [("home", 8)]) (N := ["raw", "paper", "fair", "word", "names", "some", "row", "makers", "home", "must"]) (by decide +kernel)) (fun _ _ _ _ _ => pg_name (i := 8) sc__law_bars.nd rfl (Or.inl rfl)) (fun _ _ _ _ _ => pts_one (pt_cmpR (op_in_seqK rfl) (pv 8) (pe_ix (show IxR _ (rIxT K) from ix_tup) (pv 6) pe_int (fun _ _ => rfl)) (by rfl))) (fun _ _ _ _ _ => pv 8)) (pe_lstY pa_nil) (nomark _))) (fun _ _ _ _ _ => pv 6)))
      (pss_cons (ps_set (i := 9) sc__law_bars.nd rfl (Or.inl rfl) (pe_callB (cr_sum rfl) (by rfl) T.b_sum (by decide +kernel) (pa_cons (pe_lc (own := [("home", 8)]) (by rfl) sc__law_bars.nd (pi_tup (pv 4)) (blkOk_by (own := [("home", 8)]) (N := ["raw", "paper", "fair", "word", "names", "some", "row", "makers", "home", "must"]) (sc := defScope s__law_bars) (by decide +kernel)) (fun _ _ _ _ _ => pg_name (i := 8) sc__law_bars.nd rfl (Or.inl rfl)) (fun _ _ _ _ _ => pts_nil) (fun _ _ _ _ _ => pe_callB (call_max2 rfl) (by rfl) T.b_max (by decide +kernel) (pa_cons pe_int (pa_cons (pe_op op_sub (pe_ix (show IxR _ (rIxT K) from ix_tup) (pe_call (ok__law_got (P := P) (w := w) (base := base) T) (hr.mono (by decide)) rfl T.mg__law_got T.F__law_got.kp (T.b__law_got) .nil pass0 (pa_cons (pv 0) (pa_cons (pv 8) pa_nil))) pe_int (fun _ _ => rfl)) (pe_call (ok__law_waste (P := P) (w := w) (base := base) T) (hr.mono (by decide)) rfl T.mg__law_waste T.F__law_waste.kp (T.b__law_waste) .nil pass0 (pa_cons (pv 0) (pa_cons (pv 8) pa_nil)))) pa_nil)))) pa_nil)))
      (pss_one (ps_ret (pe_cmpR op_gt (pv 9) (pe_callB (cr_sum rfl) (by rfl) T.b_sum (by decide +kernel) (pa_cons (pe_lc (own := [("row", 6)]) (by rfl) sc__law_bars.nd (pi_list (pv 5)) (blkOk_by (own := [("row", 6)]) (N := ["raw", "paper", "fair", "word", "names", "some", "row", "makers", "home", "must"]) (sc := defScope s__law_bars) (by decide +kernel)) (fun _ _ _ _ _ => pg_name (i := 6) sc__law_bars.nd rfl (Or.inl rfl)) (fun _ _ _ _ _ => pts_nil) (fun _ _ _ _ _ => pe_ix (show IxR _ (rIxT K) from ix_tup) (pe_ix (show IxR _ (rIxT K) from ix_tup) (pv 6) pe_int (fun _ _ => rfl)) pe_int (fun _ _ => rfl))) pa_nil)) (nomark _))))))))), ?_⟩
    clear hu hu64
    obtain ⟨B, ⟨raw, ⟨w, ns⟩, fr⟩, ⟨rn, nl, no, fl, fo⟩, hn, hS, k⟩ := spF_start h ["raw", "paper", "fair", "word", "names", "some", "row", "makers", "home", "must"] fun _ => ⟨rfl, rfl⟩
    dsimp only at rn nl no fl fo hS k
    refine s_seq (s_asgT (own := [3, 4]) (x := (w, ns)) hS (ev_var (α := (Str × (Tp Str))) rfl) (by omega) (tg_tup (tgs_cons (tg_name (by decide)) (tgs_cons (tg_name (by decide)) tgs_nil)) rfl) rfl fun σ H hS => ?_)
    refine s_seq (s_if hS (et_test (ed_op (ed_cb (ev_var (α := (Tp Str)) rfl) rv1_listT) (ed_sortedSetT (ev_var (α := (Tp Str)) rfl) ?_) (rv_neD 8 (by decide) ?_ ?_))) (by omega) (fun ht H hS => ?_) (fun ht H hS => ?_))
    · exact nl
    · exact pl_strs no
    · exact pl_strs fun x m => no x (sset_mem.mp m)
    · skip
      refine s_ret hS ev_bl (by omega) fun v H' x e hx r => ?_
      cases hx
      refine k v H' false (e.mono (by omega)) ?_ r
      unfold lawB
      rw [if_neg (not_t ht)]
    have hs : ns.l = sset ns.l := not_f ht
    clear ht
    have gl : raw.2.length < sizeLine := Nat.lt_trans rn.p (by decide)
    refine s_seq (s_if hS (et_test (ed_op (ev_var (α := Str) rfl) ev_str (rv_eqS))) (by omega) (fun ht H hS => ?_) (fun ht H hS => ?_))
    · have hw : w = Str.ofString "short" := of_decide_eq_true (Eq.symm ht)
      refine s_seq (s_set hS (ed_lcL (ed_op (γ := (List (T3 Str (Int × Int) (Tp Str)))) (ev_var (α := ((List (T3 Str (Int × Int) Int)) × (List (T3 Str (Int × Int) (Tp Str))))) rfl) ev_int (rv_ixC rfl rfl)) ?_ (ho_of rfl) (fun x hx => ⟨_, (tg_name (by decide)), (et_test (ed_op (ed_op (γ := Str) (ev_var (α := (T3 Str (Int × Int) (Tp Str))) rfl) ev_int (rv_ixC rfl rfl)) (ev_var (α := (Tp Str)) rfl) (rv_inTS))), (ev_var (α := (T3 Str (Int × Int) (Tp Str))) rfl)⟩)) (by omega) fun some1 hso σ H hS => ?_)
      · exact gl
      have eso : some1 = someT raw ns.l := (show some1 = _ from hso).trans (List.map_id' _)
      have sol : some1.length ≤ raw.2.length := by rw [eso]; exact List.length_filter_le _ _
      have som : ∀ p ∈ some1, p ∈ raw.2 := fun p m => by rw [eso] at m; exact (List.mem_filter.mp m).1
      refine s_seq (s_if hS (et_test (ed_op (ed_cb (ev_var (α := (List (T3 Str (Int × Int) (Tp Str)))) rfl) rv1_lenL) (ed_cb (ev_var (α := (Tp Str)) rfl) rv1_lenT) (rv_neI))) (by omega) (fun ht H hS => ?_) (fun ht H hS => ?_))
      · skip
        refine s_ret hS ev_bl (by omega) fun v H' x e hx r => ?_
        cases hx
        refine k v H' false (e.mono (by omega)) ?_ r
        unfold lawB
        have q := not_t ht
        rw [if_pos hs, if_pos hw, if_neg (fun z => q (by rw [eso]; exact congrArg Int.ofNat z))]
      have q := not_f ht
      have hhl : (sset (homesOf raw)).length < sizeLine := Nat.lt_of_le_of_lt sset_le (by rw [show (homesOf raw).length = raw.1.length from List.length_map _]; exact Nat.lt_trans rn.g (by decide))
      dsimp only [tNext]
      refine s_seq (s_set hS (ed_filL (p := fun h => !(some1.filter fun p => decide (h ∈ p.c.l)).isEmpty) (en_fn (α := List Str) (pre := fun raw : Raw => raw.1.length < 64) (post := fun raw => Is (sset (homesOf raw))) raw (ead_v (ev_var (α := Raw) rfl) ea_nil) rn.g) hhl (ho_of rfl) (fun x hx => ⟨_, tg_name (by decide), et_nilL (xs := some1.filter fun p => decide (x ∈ p.c.l)) (ed_filL (ev_var (α := List Piece) (x := some1) rfl) (Nat.lt_of_le_of_lt sol gl) (ho_of rfl) (fun y hy => ⟨_, tg_name (by decide), et_test (ed_op (ev_var (α := Str) (x := x) rfl) (ed_op (γ := Tp Str) (ev_var (α := Piece) (x := y) rfl) ev_int (rv_ixC rfl rfl)) rv_inTS), ev_var (α := Piece) rfl⟩)) (pl_ps fun p m => rn.np p (som p (List.mem_filter.mp m).1)), ev_var (α := Str) rfl⟩)) (by omega) fun mks hmk σ H hS => ?_)
      have emk : mks = mksL raw ns.l := by
        rw [show mks = _ from hmk, eso]
        rfl
      have mkl : mks.length < sizeLine := by
        rw [emk]
        exact Nat.lt_of_le_of_lt (List.length_filter_le _ _) hhl
      refine s_ret hS (ed_op (ed_cb (ed_lcL0 (ev_var (α := (List (T3 Str (Int × Int) (Tp Str)))) rfl) ?_ (ho_of rfl) (fun x hx => ⟨_, (tg_name (by decide)), (ed_op (γ := Int) (ed_op (γ := (Int × Int)) (ev_var (α := (T3 Str (Int × Int) (Tp Str))) rfl) ev_int (rv_ixC rfl rfl)) ev_int (rv_ixC rfl rfl))⟩)) rv1_sum) (ed_cb (ed_lcL0 (ev_var (α := (List Str)) rfl) ?_ (ho_of rfl) (fun x hx => ⟨_, (tg_name (by decide)), (ed_op (γ := Int) (en_fn (α := Int × Int) (pre := fun t : Raw × Str => t.1.1.length < 64) (post := fun t => Is (sumL t.1.1 t.2, sumM t.1.1 t.2)) (raw, x) (ead_v (ev_var (α := Raw) (x := raw) rfl) (ead_v (ev_var (α := Str) (x := x) rfl) ea_nil)) rn.g) ev_int (rv_ixC rfl rfl))⟩)) rv1_sum) (rv_gt)) (by omega) fun v H' x e hx r => ?_
      · exact Nat.lt_of_le_of_lt sol gl
      · exact mkl
      refine k v H' x (e.mono (by omega)) ?_ r
      rw [show x = _ from hx, eso, emk]
      show _ = lawB raw w ns.l fr
      unfold lawB
      rw [if_pos hs, if_pos hw, if_pos (by rw [eso] at q; exact Int.ofNat.inj q)]
    have hw : ¬ w = Str.ofString "short" := of_decide_eq_false (Eq.symm ht)
    clear ht
    show tSeq _ _ _ _ _
    refine s_seq (s_if hS (et_nilL (xs := ns.l.filter fun h => !decide (h ∈ fr)) (ed_filT (ev_var (α := Tp Str) (x := ns) rfl) (Nat.lt_trans nl (by decide)) (ho_of rfl) (fun x hx => ⟨_, tg_name (by decide), et_test (ed_op (ev_var (α := Str) (x := x) rfl) (ev_var (α := List Str) (x := fr) rfl) rv_ninLS), ev_var (α := Str) rfl⟩)) (pl_strs fun x m => no x (List.mem_filter.mp m).1)) (by omega) (fun ht H hS => ?_) (fun ht H hS => ?_))
    · skip
      refine s_ret hS ev_bl (by omega) fun v H' x e hx r => ?_
      cases hx
      refine k v H' false (e.mono (by omega)) ?_ r
      unfold lawB
      rw [if_pos hs, if_neg hw, if_neg (fun z => by rw [z] at ht; cases ht)]
    have q : (ns.l.filter fun h => !decide (h ∈ fr)) = [] := by
      have z : false = !(ns.l.filter fun h => !decide (h ∈ fr)).isEmpty := ht
      rw [eq_comm, Bool.not_eq_false', List.isEmpty_iff] at z
      exact z
    clear ht
    show tSeq _ _ _ _ _
    refine s_seq (s_set hS (ed_filL (p := fun p => !(ns.l.filter fun h => decide (h ∈ p.c.l)).isEmpty) (ed_op (γ := List Piece) (ev_var (α := Raw) (x := raw) rfl) ev_int (rv_ixC rfl rfl)) gl (ho_of rfl) (fun y hy => ⟨_, tg_name (by decide), et_nilL (xs := ns.l.filter fun h => decide (h ∈ y.c.l)) (ed_filT (ev_var (α := Tp Str) (x := ns) rfl) (Nat.lt_trans nl (by decide)) (ho_of rfl) (fun x hx => ⟨_, tg_name (by decide), et_test (ed_op (ev_var (α := Str) (x := x) rfl) (ed_op (γ := Tp Str) (ev_var (α := Piece) (x := y) rfl) ev_int (rv_ixC rfl rfl)) rv_inTS), ev_var (α := Str) rfl⟩)) (pl_strs fun x m => no x (List.mem_filter.mp m).1), ev_var (α := Piece) rfl⟩)) (by omega) fun some1 hso σ H hS => ?_)
    have eso : some1 = someH raw ns.l := hso
    have sol : some1.length ≤ raw.2.length := by rw [eso]; exact List.length_filter_le _ _
    refine s_seq (s_set hS (ed_cb (ed_lcT0 (ev_var (α := (Tp Str)) rfl) ?_ (ho_of rfl) (fun x hx => ⟨_, (tg_name (by decide)), (ed_cb2 ev_int (ed_op (ed_op (γ := Int) (en_fn (α := Int × Int) (pre := fun t : Raw × Str => t.1.1.length < 64) (post := fun t => Is (sumL t.1.1 t.2, sumM t.1.1 t.2)) (raw, x) (ead_v (ev_var (α := Raw) (x := raw) rfl) (ead_v (ev_var (α := Str) (x := x) rfl) ea_nil)) rn.g) ev_int (rv_ixC rfl rfl)) (en_fn (α := Int) (pre := fun t : Raw × Str => t.1.1.length < 64) (post := fun t => Is (sumW t.1.1 t.2)) (raw, x) (ead_v (ev_var (α := Raw) (x := raw) rfl) (ead_v (ev_var (α := Str) (x := x) rfl) ea_nil)) rn.g) (rv_sub)))⟩)) rv1_sum) (by omega) fun must hm σ H hS => ?_)
    · exact Nat.lt_trans nl (by decide)
    have em : must = (ns.l.map fun h => mustL raw h).sum := hm
    refine s_ret hS (ed_op (ev_var (α := Int) rfl) (ed_cb (ed_lcL0 (ev_var (α := (List (T3 Str (Int × Int) (Tp Str)))) rfl) ?_ (ho_of rfl) (fun x hx => ⟨_, (tg_name (by decide)), (ed_op (γ := Int) (ed_op (γ := (Int × Int)) (ev_var (α := (T3 Str (Int × Int) (Tp Str))) rfl) ev_int (rv_ixC rfl rfl)) ev_int (rv_ixC rfl rfl))⟩)) rv1_sum) (rv_gt)) (by omega) fun v H' x e hx r => ?_
    · exact Nat.lt_of_le_of_lt sol gl
    refine k v H' x (e.mono (by omega)) ?_ r
    rw [show x = _ from hx, em, eso]
    show _ = lawB raw w ns.l fr
    unfold lawB
    rw [if_pos hs, if_neg hw, if_pos q]
theorem lookup_nd2 {β : Type} {g : Piece → β} : ∀ {ps : List Piece} {p : Piece}, (ps.map fun p => p.a).Nodup → p ∈ ps → (ps.map fun p => (p.a, g p)).lookup p.a = some (g p)
  | q :: ps, p, nd, m => by
    rw [List.map_cons] at nd
    have nd' := List.nodup_cons.mp nd
    rw [List.map_cons, lk_cons]
    rcases List.mem_cons.mp m with rfl | m
    · rw [if_pos rfl]
    · rw [if_neg (fun z => nd'.1 (List.mem_map.mpr ⟨p, m, z⟩)), lookup_nd2 nd'.2 m]
theorem perm_sum {xs ys : List Int} (h : xs.Perm ys) : xs.sum = ys.sum := by
  induction h with
  | nil => rfl
  | cons a _ ih => rw [List.sum_cons, List.sum_cons, ih]
  | swap a b l => rw [List.sum_cons, List.sum_cons, List.sum_cons, List.sum_cons]; omega
  | trans _ _ i j => rw [i, j]
structure RawS (raw : Raw) : Prop where
  ne : raw.1 ≠ []
  nd : (raw.2.map fun p => p.a).Nodup
  gl : raw.1.length < 64
  pl : raw.2.length ≤ 15
  ms : ∀ p ∈ raw.2, p.c.l.Nodup ∧ p.c.l.length ≤ 4 ∧ ∀ h ∈ p.c.l, h ∈ homesOf raw
  ng : ∀ g ∈ raw.1, PyData.strOk g.a = true
  np : ∀ p ∈ raw.2, PyData.strOk p.a = true
theorem RawS.rn {raw : Raw} (h : RawS raw) : RawN raw := ⟨h.gl, Nat.lt_of_le_of_lt h.pl (by decide), fun p m => Nat.lt_of_le_of_lt (h.ms p m).2.1 (by decide), h.ng, fun p m => ⟨h.np p m, fun x mx => by
  obtain ⟨g, mg, e⟩ := List.mem_map.mp ((h.ms p m).2.2 x mx)
  rw [← e]; exact h.ng g mg⟩⟩
theorem RawS.po {raw : Raw} (h : RawS raw) : PsOk raw.1 raw.2 := ⟨Nat.lt_trans h.gl (by decide), Nat.lt_of_le_of_lt h.pl (by decide), h.nd, fun p m => ⟨(h.ms p m).1, Nat.lt_of_le_of_lt (h.ms p m).2.1 (by decide), (h.ms p m).2.2⟩⟩
theorem raw_s {ng np : Nat} {raw : Raw} (h : RawOk ng np raw) (h1 : ng ≤ 60) (h2 : np ≤ 15) : RawS raw :=
  ⟨h.ne, h.nd, by have := h.gl; omega, by have := h.pl; omega, fun p m => ⟨(h.ps p m).2.2.1, (h.ps p m).2.2.2.2.1, (h.ps p m).2.2.2.2.2⟩, fun g m => strOk_low (h.gs g m).1.1, fun p m => strOk_low (h.ps p m).1.1⟩
section
variable {raw : Raw} (h : RawS raw)
include h
theorem yD_is {p : Piece} (m : p ∈ raw.2) : (sheetD raw.1 raw.2).yarn.lookup p.a = some p.b ∧ (sheetD raw.1 raw.2).makers.lookup p.a = some p.c.l := by
  have I := sheet_is (gs := raw.1) h.nd
  rw [I.yarn, I.makers]
  exact ⟨lookup_nd2 (g := fun p => p.b) h.nd m, lookup_nd2 (g := fun p => p.c.l) h.nd m⟩
theorem gD_is {x : Str} (m : x ∈ homesOf raw) : (sheetD raw.1 raw.2).got.lookup x = some (sumL raw.1 x, sumM raw.1 x) := by
  rw [(sheet_is (gs := raw.1) h.nd).got]
  exact if_pos m
theorem names_is : (sheetD raw.1 raw.2).yarn.map (·.1) = raw.2.map fun p => p.a := by
  rw [(sheet_is (gs := raw.1) h.nd).yarn, List.map_map]; rfl
theorem rise_iff {ns ks : List Str} : riseB ns ks = true ↔ ns = sset ns ∧ ∀ n ∈ ns, n ∈ ks := by
  unfold riseB
  rw [Bool.and_eq_true, decide_eq_true_iff, List.isEmpty_iff, List.filter_eq_nil_iff]
  simp
theorem want_ok {ns : List Str} (l : ns.length ≤ 15) (r : ∀ n ∈ ns, n ∈ raw.2.map fun p => p.a) : WantOk (sheetD raw.1 raw.2) ns := by
  refine ⟨l, fun n m => ?_, fun n m x mx => ?_⟩
  · obtain ⟨p, mp, rfl⟩ := List.mem_map.mp (r n m)
    have z := yD_is h mp
    unfold mD
    rw [z.1, z.2]
    exact ⟨by simp, by simp, (h.ms p mp).2.1⟩
  · obtain ⟨p, mp, rfl⟩ := List.mem_map.mp (r n m)
    have z := yD_is h mp
    unfold mD at mx
    rw [z.2] at mx
    rw [gD_is h ((h.ms p mp).2.2 x mx)]
    simp
theorem someT_perm {ns : List Str} (nd : ns.Nodup) : ((someT raw ns).map fun p => p.a).Perm (ns.filter fun n => decide (n ∈ raw.2.map fun p => p.a)) := by
  refine perm_of_mem (h.nd.sublist (List.filter_sublist.map _)) (nd.sublist List.filter_sublist) fun x => ?_
  unfold someT
  rw [List.mem_map, List.mem_filter, decide_eq_true_iff]
  constructor
  · rintro ⟨p, mp, rfl⟩
    have z := List.mem_filter.mp mp
    exact ⟨of_decide_eq_true z.2, List.mem_map.mpr ⟨p, z.1, rfl⟩⟩
  · rintro ⟨a, b⟩
    obtain ⟨p, mp, rfl⟩ := List.mem_map.mp b
    exact ⟨p, List.mem_filter.mpr ⟨mp, decide_eq_true a⟩, rfl⟩
theorem someT_len {ns : List Str} (nd : ns.Nodup) : (someT raw ns).length = ns.length ↔ ∀ n ∈ ns, n ∈ raw.2.map fun p => p.a := by
  have z := (someT_perm h nd).length_eq
  rw [List.length_map] at z
  rw [z, List.length_filter_eq_length_iff]
  simp
theorem want_is {ns : List Str} (nd : ns.Nodup) (r : ∀ n ∈ ns, n ∈ raw.2.map fun p => p.a) :
    wantD (sheetD raw.1 raw.2) ns = decide (((mksL raw ns).map fun h => sumM raw.1 h).sum < ((someT raw ns).map fun p => p.b.1).sum) := by
  have pm := someT_perm h nd
  rw [List.filter_eq_self.mpr fun n m => decide_eq_true (r n m)] at pm
  have s1 : (ns.map fun n => (yD (sheetD raw.1 raw.2) n).1).sum = ((someT raw ns).map fun p => p.b.1).sum := by
    have z := perm_sum (pm.map fun n => (yD (sheetD raw.1 raw.2) n).1)
    rw [← z, List.map_map]
    refine congrArg List.sum (List.map_congr_left fun p mp => ?_)
    show (yD (sheetD raw.1 raw.2) p.a).1 = p.b.1
    unfold yD
    rw [(yD_is h (List.mem_filter.mp mp).1).1]
    rfl
  have s2 : mksL raw ns = sset (ns.flatMap fun n => mD (sheetD raw.1 raw.2) n) := by
    refine srt_unique (perm_of_mem (sset_nodup.sublist List.filter_sublist) (uniq_nodup _) fun x => ?_) (sset_pair.sublist List.filter_sublist)
    rw [uniq_mem]
    unfold mksL
    rw [List.mem_filter, sset_mem, List.mem_flatMap, Bool.not_eq_true', List.isEmpty_eq_false_iff_exists_mem]
    constructor
    · rintro ⟨_, p, mp⟩
      have z := List.mem_filter.mp mp
      have z2 := List.mem_filter.mp z.1
      refine ⟨p.a, of_decide_eq_true z2.2, ?_⟩
      unfold mD
      rw [(yD_is h z2.1).2]
      exact of_decide_eq_true z.2
    · rintro ⟨n, mn, mx⟩
      obtain ⟨p, mp, rfl⟩ := List.mem_map.mp (r n mn)
      unfold mD at mx
      rw [(yD_is h mp).2] at mx
      exact ⟨(h.ms p mp).2.2 x mx, p, List.mem_filter.mpr ⟨List.mem_filter.mpr ⟨mp, decide_eq_true mn⟩, decide_eq_true mx⟩⟩
  unfold wantD
  rw [s1, ← s2]
  have s3 : ((mksL raw ns).map fun x => (gD (sheetD raw.1 raw.2) x).2) = (mksL raw ns).map fun x => sumM raw.1 x := List.map_congr_left fun x mx => by
    unfold gD
    rw [gD_is h (sset_mem.mp (List.mem_filter.mp mx).1)]
    rfl
  rw [s3]
theorem short_is {ns fr : List Str} : (riseB ns ((sheetD raw.1 raw.2).yarn.map (·.1)) && wantD (sheetD raw.1 raw.2) ns) = lawB raw (Str.ofString "short") ns fr := by
  rw [names_is h]
  unfold lawB
  by_cases e : ns = sset ns
  · have nd : ns.Nodup := by rw [e]; exact sset_nodup
    rw [if_pos e, if_pos rfl]
    by_cases r : ∀ n ∈ ns, n ∈ raw.2.map fun p => p.a
    · rw [if_pos ((someT_len h nd).mpr r), (rise_iff h).mpr ⟨e, r⟩, Bool.true_and, want_is h nd r]
    · rw [if_neg fun z => r ((someT_len h nd).mp z)]
      have z : riseB ns (raw.2.map fun p => p.a) = false := by
        rw [Bool.eq_false_iff]
        exact fun q => r ((rise_iff h).mp q).2
      rw [z, Bool.false_and]
  · rw [if_neg e]
    have z : riseB ns (raw.2.map fun p => p.a) = false := by
      rw [Bool.eq_false_iff]
      exact fun q => e ((rise_iff h).mp q).1
    rw [z, Bool.false_and]
end
/-! what a sheet's waste and made_by are -/
theorem foldG_waste : ∀ (gs : List Give) (d : ShD) (h : Str), (gs.foldl addG d).waste.lookup h = if h ∈ gs.map (fun g => g.a) then some ((d.waste.lookup h).getD 0 + sumW gs h) else d.waste.lookup h
  | [], d, h => by rw [if_neg (by simp)]; rfl
  | e :: gs, d, h => by
    have ag : (addG d e).waste.lookup h = if h = e.a then some ((d.waste.lookup e.a).getD 0 + e.c) else d.waste.lookup h := lk_putA h
    rw [List.foldl_cons, foldG_waste gs (addG d e) h, ag]
    have sw : sumW (e :: gs) h = (if e.a = h then e.c else 0) + sumW gs h := by
      unfold sumW
      by_cases z : e.a = h
      · rw [List.filter_cons_of_pos (by rw [decide_eq_true z]), List.map_cons, List.sum_cons, if_pos z]
      · rw [List.filter_cons_of_neg (by rw [decide_eq_false z]; decide), if_neg z, Int.zero_add]
    have none' : h ∉ gs.map (fun g => g.a) → sumW gs h = 0 := fun m => by
      unfold sumW
      rw [List.filter_eq_nil_iff.mpr fun g mg => by simpa using fun q => m (List.mem_map.mpr ⟨g, mg, q⟩)]
      rfl
    rw [List.map_cons]
    by_cases z : h = e.a
    · subst z
      rw [sw, if_pos rfl, if_pos rfl, if_pos (List.mem_cons_self)]
      by_cases m : e.a ∈ gs.map (fun g => g.a)
      · rw [if_pos m]
        show some (_ + _ + _) = _
        rw [Int.add_assoc]
      · rw [if_neg m, none' m, Int.add_zero]
    · have z' : ¬ e.a = h := fun q => z q.symm
      rw [show sumW (e :: gs) h = sumW gs h by rw [sw, if_neg z', Int.zero_add], if_neg z]
      by_cases m : h ∈ gs.map (fun g => g.a)
      · rw [if_pos m, if_pos (List.mem_cons_of_mem _ m)]
      · rw [if_neg m, if_neg (fun q => by rcases List.mem_cons.mp q with q | q; exact z q; exact m q)]
theorem foldG_mby : ∀ (gs : List Give) (d : ShD) (h : Str), (gs.foldl addG d).mby.lookup h = if h ∈ gs.map (fun g => g.a) then some ((d.mby.lookup h).getD []) else d.mby.lookup h
  | [], d, h => by rw [if_neg (by simp)]; rfl
  | e :: gs, d, h => by
    have ag : (addG d e).mby.lookup h = if h = e.a then some ((d.mby.lookup h).getD []) else d.mby.lookup h := by
      show (if d.mby.lookup e.a = none then putA d.mby e.a [] else d.mby).lookup h = _
      by_cases n : d.mby.lookup e.a = none
      · rw [if_pos n, lk_putA]
        by_cases z : h = e.a
        · rw [if_pos z, if_pos z, z, n]; rfl
        · rw [if_neg z, if_neg z]
      · rw [if_neg n]
        by_cases z : h = e.a
        · rw [if_pos z, z]; exact some_get n
        · rw [if_neg z]
    rw [List.foldl_cons, foldG_mby gs (addG d e) h, ag, List.map_cons]
    by_cases z : h = e.a
    · rw [if_pos z, if_pos (List.mem_cons.mpr (.inl z))]
      by_cases m : h ∈ gs.map (fun g => g.a)
      · rw [if_pos m]; rfl
      · rw [if_neg m]
    · rw [if_neg z]
      by_cases m : h ∈ gs.map (fun g => g.a)
      · rw [if_pos m, if_pos (List.mem_cons_of_mem _ m)]
      · rw [if_neg m, if_neg (fun q => by rcases List.mem_cons.mp q with q | q; exact z q; exact m q)]
theorem foldP_mby : ∀ (ps : List Piece) (d : ShD) (h : Str) (xs : List Str), (∀ p ∈ ps, p.c.l.Nodup) → d.mby.lookup h = some xs → (ps.foldl addP d).mby.lookup h = some (xs ++ (ps.filter fun p => decide (h ∈ p.c.l)).map fun p => p.a)
  | [], d, h, xs, _, e => by rw [List.filter_nil, List.map_nil, List.append_nil]; exact e
  | p :: ps, d, h, xs, nd, e => by
    have e2 : (addP d p).mby.lookup h = if h ∈ p.c.l then some (xs ++ [p.a]) else some xs := by
      rw [addP_eq, addMs_mby p.a p.c.l _ h (nd p List.mem_cons_self)]
      show (if h ∈ p.c.l then some ((d.mby.lookup h).getD [] ++ [p.a]) else d.mby.lookup h) = _
      rw [e]
      rfl
    rw [List.foldl_cons]
    by_cases m : h ∈ p.c.l
    · rw [if_pos m] at e2
      rw [foldP_mby ps (addP d p) h _ (fun q mq => nd q (List.mem_cons_of_mem _ mq)) e2, List.filter_cons_of_pos (by rw [decide_eq_true m]), List.map_cons, List.append_assoc]
      rfl
    · rw [if_neg m] at e2
      rw [foldP_mby ps (addP d p) h _ (fun q mq => nd q (List.mem_cons_of_mem _ mq)) e2, List.filter_cons_of_neg (by rw [decide_eq_false m]; decide)]
section
variable {raw : Raw} (h : RawS raw)
include h
theorem wD_is {x : Str} (m : x ∈ homesOf raw) : (sheetD raw.1 raw.2).waste.lookup x = some (sumW raw.1 x) := by
  have r := foldG_rest raw.1 emptyD
  have f := foldP_rest raw.2 (raw.1.foldl addG emptyD) h.nd (fun p m => by rw [r.1]; exact fun z => by cases z) (by rw [r.1, r.2]; rfl)
  show (raw.2.foldl addP _).waste.lookup x = _
  rw [f.2.1, foldG_waste, if_pos (show x ∈ raw.1.map (fun g => g.a) from m)]
  exact congrArg some (Int.zero_add _)
theorem bD_is {x : Str} (m : x ∈ homesOf raw) : (sheetD raw.1 raw.2).mby.lookup x = some ((raw.2.filter fun p => decide (x ∈ p.c.l)).map fun p => p.a) := by
  have e : (raw.1.foldl addG emptyD).mby.lookup x = some [] := by rw [foldG_mby, if_pos (show x ∈ raw.1.map (fun g => g.a) from m)]; rfl
  exact foldP_mby raw.2 (raw.1.foldl addG emptyD) x [] (fun p m => (h.ms p m).1) e
theorem put_ok {ns : List Str} (nd : ns.Nodup) (gl : raw.1.length ≤ 12) (pl : raw.2.length ≤ 5) (r : ∀ x ∈ ns, x ∈ homesOf raw) : PutOk (sheetD raw.1 raw.2) ns := by
  have nl : ns.length ≤ 12 := by
    have z := (perm_of_mem nd (sset_nodup.sublist (List.filter_sublist (p := fun x => decide (x ∈ ns)) (l := sset (homesOf raw)))) fun x => by
      rw [List.mem_filter, sset_mem, decide_eq_true_iff]
      exact ⟨fun m => ⟨r x m, m⟩, fun m => m.2⟩).length_eq
    have a := List.length_filter_le (fun x => decide (x ∈ ns)) (sset (homesOf raw))
    have b := sset_le (xs := homesOf raw)
    rw [show (homesOf raw).length = raw.1.length from List.length_map _] at b
    omega
  have bl : ∀ l : List Str, (∀ x ∈ l, x ∈ homesOf raw) → (l.flatMap fun x => bD (sheetD raw.1 raw.2) x).length ≤ 5 * l.length := fun l => by
    induction l with
    | nil => intro _; exact Nat.zero_le _
    | cons x l ih =>
      intro q
      rw [List.flatMap_cons, List.length_append, List.length_cons]
      have a : (bD (sheetD raw.1 raw.2) x).length ≤ 5 := by
        unfold bD
        rw [bD_is h (q x List.mem_cons_self)]
        show (List.map _ _).length ≤ 5
        rw [List.length_map]
        exact Nat.le_trans (List.length_filter_le _ _) pl
      have b := ih fun n m => q n (List.mem_cons_of_mem _ m)
      omega
  refine ⟨by have := bl ns r; omega, by omega, fun x m => ?_, fun x m p mp => ?_⟩
  · rw [gD_is h (r x m), wD_is h (r x m), bD_is h (r x m)]
    exact ⟨by simp, by simp, by simp⟩
  · unfold bD at mp
    rw [bD_is h (r x m)] at mp
    obtain ⟨q, mq, rfl⟩ := List.mem_map.mp mp
    rw [(yD_is h (List.mem_filter.mp mq).1).1]
    simp
theorem put_is {ns : List Str} (r : ∀ x ∈ ns, x ∈ homesOf raw) :
    putD (sheetD raw.1 raw.2) ns = decide (((someH raw ns).map fun p => p.b.2).sum < (ns.map fun x => mustL raw x).sum) := by
  have s1 : (ns.map fun x => mustD (sheetD raw.1 raw.2) x) = ns.map fun x => mustL raw x := List.map_congr_left fun x m => by
    unfold mustD mustL gD wD
    rw [gD_is h (r x m), wD_is h (r x m)]
    rfl
  have pm : ((someH raw ns).map fun p => p.a).Perm (sset (ns.flatMap fun x => bD (sheetD raw.1 raw.2) x)) := by
    refine perm_of_mem (h.nd.sublist (List.filter_sublist.map _)) sset_nodup fun t => ?_
    unfold someH
    rw [sset_mem, List.mem_flatMap, List.mem_map]
    constructor
    · rintro ⟨p, mp, rfl⟩
      obtain ⟨a, b⟩ := List.mem_filter.mp mp
      rw [Bool.not_eq_true', List.isEmpty_eq_false_iff_exists_mem] at b
      obtain ⟨x, mx⟩ := b
      obtain ⟨m1, m2⟩ := List.mem_filter.mp mx
      refine ⟨x, m1, ?_⟩
      unfold bD
      rw [bD_is h (r x m1)]
      exact List.mem_map.mpr ⟨p, List.mem_filter.mpr ⟨a, m2⟩, rfl⟩
    · rintro ⟨x, m1, m2⟩
      unfold bD at m2
      rw [bD_is h (r x m1)] at m2
      obtain ⟨p, mp, rfl⟩ := List.mem_map.mp m2
      obtain ⟨a, b⟩ := List.mem_filter.mp mp
      refine ⟨p, List.mem_filter.mpr ⟨a, ?_⟩, rfl⟩
      rw [Bool.not_eq_true', List.isEmpty_eq_false_iff_exists_mem]
      exact ⟨x, List.mem_filter.mpr ⟨m1, b⟩⟩
  have s2 : ((sset (ns.flatMap fun x => bD (sheetD raw.1 raw.2) x)).map fun p => (yD (sheetD raw.1 raw.2) p).2).sum = ((someH raw ns).map fun p => p.b.2).sum := by
    have z := perm_sum (pm.map fun p => (yD (sheetD raw.1 raw.2) p).2)
    rw [← z, List.map_map]
    refine congrArg List.sum (List.map_congr_left fun p mp => ?_)
    show (yD (sheetD raw.1 raw.2) p.a).2 = p.b.2
    unfold yD
    rw [(yD_is h (List.mem_filter.mp mp).1).1]
    rfl
  unfold putD
  rw [s1, s2]
theorem over_is {ns fr : List Str} (r : ∀ x ∈ ns, x ∈ homesOf raw) : (decide (Str.ofString "over" = Str.ofString "over") && (riseB ns fr && putD (sheetD raw.1 raw.2) ns)) = lawB raw (Str.ofString "over") ns fr := by
  rw [decide_eq_true rfl, Bool.true_and]
  unfold lawB
  have no : ¬ Str.ofString "over" = Str.ofString "short" := by decide +kernel
  by_cases e : ns = sset ns
  · rw [if_pos e, if_neg no]
    by_cases q : ∀ n ∈ ns, n ∈ fr
    · rw [if_pos (List.filter_eq_nil_iff.mpr fun n m => by simpa using q n m), (rise_iff h).mpr ⟨e, q⟩, Bool.true_and, put_is h r]
    · have z : riseB ns fr = false := by
        rw [Bool.eq_false_iff]
        exact fun w => q ((rise_iff h).mp w).2
      rw [z, Bool.false_and, if_neg fun w => q fun n m => by simpa using List.filter_eq_nil_iff.mp w n m]
  · rw [if_neg e]
    have z : riseB ns fr = false := by
      rw [Bool.eq_false_iff]
      exact fun q => e ((rise_iff h).mp q).1
    rw [z, Bool.false_and]
end
theorem lcR_sub {α : Type} {P : α → Bool → Prop} {xs ys : List α} (h : LcR P (fun x y => y = x) xs ys) : ys.Sublist xs := by
  induction h with
  | nil => exact List.Sublist.refl _
  | yes _ _ e ih => rw [e]; exact ih.append (List.Sublist.refl _)
  | no _ _ ih => exact ih.trans (List.sublist_append_left _ _)
theorem en_fnS {α τ : Type} [Ty α] {c c1 : Nat} {pre : τ → Prop} {post : τ → α → Prop} {enc : τ → List Sl} {E : XK} {ta : TA} {ρ : Ro} {SS : List Sl → Prop} {B : α → Prop} (ha : EvA ta ρ c1 SS) (h : ∀ ss, SS ss → ∃ t, ss = enc t ∧ pre t ∧ ∀ x, post t x → B x) : Ev (tCall (spF c pre post enc) [] E ta) ρ (c1 + c) B :=
  ev_call ha fun ss s => let ⟨t, e, p, q⟩ := h ss s; ⟨_, ⟨t, p, e, rfl⟩, fun s' ⟨x, z, w⟩ => ⟨x, q x z, w⟩⟩
theorem stp_mem {i : Int} {α : Type} {xs : List α} {y : α} : y ∈ stp i xs ↔ y ∈ xs := by
  unfold stp
  split
  · exact List.mem_reverse
  · exact Iff.rfl
theorem stp_len {i : Int} {α : Type} {xs : List α} : (stp i xs).length = xs.length := by
  unfold stp
  split
  · exact List.length_reverse
  · rfl
theorem Ev.pickL {α : Type} {t u : TT} {ρ : Ro} {xs : List α} {B : Bool → Prop} (h : EvT t ρ 0 (Is (!xs.isEmpty))) (h' : EvT u ρ 1 B) : EvT (tAnd t u) ρ 1 (fun b => b = true → xs ≠ []) :=
  (en_and h fun _ => h').imp (Nat.le_refl _) fun b z q e => by
    rcases z with ⟨_, z⟩ | ⟨z, _⟩
    · rw [z] at q; cases q
    · rw [e] at z; cases z
def sp__law_fair (T : Txt K mg) : Sp := spF 200 (fun t : Raw × List Str => t.1.1.length < 64 ∧ t.2.length < 64 ∧ (∀ y ∈ homesOf t.1, PyData.strOk y = true) ∧ (∀ y ∈ t.2, PyData.strOk y = true)) (fun _ (x : List Str) => x.length < 200 ∧ ∀ y ∈ x, PyData.strOk y = true) (fun t => [.pen, .v (sh t.1), .v (sh t.2)])
theorem ok__law_fair (T : Txt K mg) : FnOk P w K mg base CX0 3 T.f__law_fair T.fd__law_fair ["pen", "raw", "names"] (sp__law_fair T) := by
  refine okD T.F__law_fair sc__law_fair (fun vs H Q E h => ?_) (fun cdv A outer s H vs Q E hr h => ?_)
  · exact spF_len h fun _ => rfl
  · have hu := hu_of hr
    have hu64 := hr.units
    refine ⟨_, pss_cons (ps_set (i := 3) sc__law_fair.nd rfl (Or.inl rfl) (pe_op op_cat (pe_callTy call_list_of (by rfl) T.b_list (by decide +kernel) (pa_cons (pv 2) pa_nil)) (pe_lc (own := [("home", 4)]) (by rfl) sc__law_fair.nd (pi_list (pe_call (ok__law_homes (P := P) (w := w) (base := base) T) (hr.mono (by decide)) rfl T.mg__law_homes T.F__law_homes.kp (T.b__law_homes) .nil pass0 (pa_cons (pv 1) pa_nil))) (blkOk_by (own := [("home", 4)]) (N := ["pen", "raw", "names", "found", "home", "gone"]) (sc := defScope s__law_fair) (by decide +kernel)) (fun _ _ _ _ _ => pg_name (i := 4) sc__law_fair.nd rfl (Or.inl rfl)) (fun _ _ _ _ _ => pts_one (pt_cmpR op_eq (pe_call (ok__law_draw (P := P) (w := w) (base := base) T) (hr.mono (by decide)) rfl T.mg__law_draw T.F__law_draw.kp (T.b__law_draw) .nil pass0 (pa_cons (pv 0) (pa_cons pe_int pa_nil))) pe_int (nomark _))) (fun _ _ _ _ _ => pv 4))))
      (pss_cons (ps_if (PW.pt (pw_and (pt_cmpR (op_neD hu64) (pv 3) (pe_lstY pa_nil) (nomark _)) (pw_and1 (pt_cmpR op_eq (pe_call (ok__law_draw (P := P) (w := w) (base := base) T) (hr.mono (by decide)) rfl T.mg__law_draw T.F__law_draw.kp (T.b__law_draw) .nil pass0 (pa_cons (pv 0) (pa_cons pe_int pa_nil))) pe_int (nomark _))))) (pss_cons (ps_set (i := 5) sc__law_fair.nd rfl (Or.inr rfl) (pe_ix ix_list (pv 3) (pe_call (ok__law_draw (P := P) (w := w) (base := base) T) (hr.mono (by decide)) rfl T.mg__law_draw T.F__law_draw.kp (T.b__law_draw) .nil pass0 (pa_cons (pv 0) (pa_cons (pe_callB call_len_seq (by rfl) T.b_len PySem.boot_len (pa_cons (pv 3) pa_nil)) pa_nil))) (fun _ _ => rfl)))
      (pss_one (ps_setLc (i := 3) (own := [("home", 4)]) (by rfl) sc__law_fair.nd rfl rfl (sw_true rfl rfl rfl (by decide +kernel)) (pi_list (pv 3)) (blkOk_by (own := [("home", 4)]) (N := ["pen", "raw", "names", "found", "home", "gone"]) (sc := defScope s__law_fair) (by decide +kernel)) (fun _ _ _ _ _ => pg_name (i := 4) sc__law_fair.nd rfl (Or.inl rfl)) (fun _ _ _ _ _ => pts_one (pt_cmpR op_ne (pv 4) (pv 5) (nomark _))) (fun _ _ _ _ _ => pv 4)))) pss_nil)
      (pss_one (ps_ret (pe_step (pv 3) (pe_ix ix_list (pe_lstY (pa_cons pe_int (pa_cons (pe_un un_neg pe_int) pa_nil))) (pe_call (ok__law_draw (P := P) (w := w) (base := base) T) (hr.mono (by decide)) rfl T.mg__law_draw T.F__law_draw.kp (T.b__law_draw) .nil pass0 (pa_cons (pv 0) (pa_cons pe_int pa_nil))) (fun _ _ => rfl)))))), ?_⟩
    clear hu hu64
    have lim : (LIM : Nat) = 2 ^ 58 := rfl
    obtain ⟨B, ⟨raw, nms⟩, ⟨h1, h2, h3, h4⟩, hn, hS, k⟩ := spF_start h ["pen", "raw", "names", "found", "home", "gone"] fun _ => ⟨rfl, rfl⟩
    dsimp only at h1 h2 h3 h4 hS k
    have hl : (sset (homesOf raw)).length ≤ 63 := by
      have a := sset_le (xs := homesOf raw)
      have b : (homesOf raw).length = raw.1.length := List.length_map _
      omega
    have lsz : sizeLine = 16777216 := sizeLine_eq
    have hfin : ∀ (c' : Nat) σ H (ys : List Str) (ρ' : Ro), c' ≤ 190 → StOk B c' σ H ρ' → ρ'[0]? = some (some .pen) → ρ'[3]? = some (some (.v (sh ys))) → ys.length < 200 → (∀ y ∈ ys, PyData.strOk y = true) → tRet (tStep K (tVar 3) (tOp (rIxL K) (tLstY (tCons (tC (V.int 1)) (tCons (tUn (rU fun i => V.int (-i)) (tC (V.int 1))) tNil))) (tCall (sp__law_draw T) [] E0 (tCons (tVar 0) (tCons (tC (V.int 2)) tNil))))) { nx := fun x H' => Q V.non H', rt := Q } σ H := fun c' σ H ys ρ' hc hS e0 e3 yl yo =>
      s_ret hS (en_step (A := Is ys) (B := fun i => i = 1 ∨ i = -1) (ev_var (α := List Str) (x := ys) e3) (Ev.imp (en_ixL (ed_lst (eld_cons ev_int (eld_cons (ed_neg ev_int) (el_nil (α := Int)))) (show 2 ≤ sizeLine by decide)) (ed_draw e0 ev_int ⟨by decide, by decide⟩) (fun xs i e hi => by cases e; exact atI_some hi.1 hi.2)) (Nat.le_refl _) (fun z ⟨xs, i, e1, _, e2⟩ => by
        have m := atI_mem e2
        rw [show xs = _ from e1] at m
        simp at m
        omega)) (fun i h => h)) (by omega) fun v H' x e hx r => k v H' x (e.mono (by omega)) (by
          obtain ⟨xs, i, e1, _, e2⟩ := hx
          rw [e2, show xs = ys from e1]
          exact ⟨by rw [stp_len]; exact yl, fun y m => yo y (stp_mem.mp m)⟩) r
    refine s_seq (s_set hS (en_op (fun i j => i ++ j) (ed_cb (ev_var (α := (List Str)) rfl) rv1_listL) (ev_lcL (m := 64) (P := fun _ _ => True) (E := fun (x : Str) (y : Str) => y = x) (c1 := 1) (c2 := 0) (en_fn (α := List Str) (c := 0) (c1 := 0) (pre := fun raw : Raw => raw.1.length < 64) (post := fun raw => Is (sset (homesOf raw))) raw (ead_v (ev_var (α := Raw) (x := raw) rfl) ea_nil) h1) ?_ (by decide) (ho_of rfl) (fun xs hxs x hx => ⟨_, (tg_name (by decide)), ((et_test (en_op (fun (i j : Int) => decide (i = j)) (ed_draw rfl ev_int ⟨by decide, by decide⟩) ev_int (fun i j hi hj => rv_eqI))).imp (Nat.le_refl _) (fun _ _ => trivial)), ?_⟩)) (fun i j hi hj => rv_cat ?_)) (by omega) fun found hf σ H hS => ?_)
    · (rintro xs rfl; omega)
    · exact (ev_var (α := Str) rfl)
    · (obtain ⟨xs, e, q⟩ := hj; cases hi; cases e; have z := (lcR_sub q).length_le; omega)
    have ff : found.length < 200 ∧ ∀ y ∈ found, PyData.strOk y = true := by
      obtain ⟨a, b, e1, ⟨xs, e2, q⟩, e3⟩ := hf
      rw [show xs = _ from e2] at q
      have sb := lcR_sub q
      have z := sb.length_le
      rw [show found = a ++ b from e3, show a = nms from e1]
      refine ⟨by rw [List.length_append]; omega, fun y m => ?_⟩
      rcases List.mem_append.mp m with m | m
      · exact h4 y m
      · exact h3 y (sset_mem.mp (sb.subset m))
    try dsimp only
    refine s_seq (s_if hS (Ev.pickL (et_nilL (xs := found) (ev_var (α := List Str) (x := found) rfl) (pl_strs ff.2)) (et_test (en_op (fun (i j : Int) => decide (i = j)) (ed_draw rfl ev_int ⟨by decide, by decide⟩) ev_int (fun i j hi hj => rv_eqI)))) (by omega) (fun ht H hS => ?_) (fun ht H hS => ?_))
    · have ne : found ≠ [] := ht rfl
      have pos := List.length_pos_iff.mpr ne
      refine s_seq (s_set hS (en_ixL (ev_var (α := (List Str)) rfl) (ed_draw rfl (ed_cb (ev_var (α := (List Str)) rfl) rv1_lenL) ?_) ?_) (by omega) fun gone hg σ H hS => ?_)
      · exact ⟨by omega, by omega⟩
      · (intro xs i e hi; cases e; exact atI_some hi.1 hi.2)
      refine s_set hS (ed_lcL (ev_var (α := (List Str)) rfl) ?_ (ho_of rfl) (fun x hx => ⟨_, (tg_name (by decide)), (et_test (ed_op (ev_var (α := Str) rfl) (ev_var (α := Str) rfl) (rv_neS))), (ev_var (α := Str) rfl)⟩)) (by omega) fun ys hy σ H hS => ?_
      · (rw [lsz]; omega)
      refine hfin _ _ _ ys _ (by omega) hS rfl rfl ?_ ?_
      · rw [show ys = _ from hy, List.length_map]; exact Nat.lt_of_le_of_lt (List.length_filter_le _ _) ff.1
      · rw [show ys = _ from hy, List.map_id']
        exact fun y m => ff.2 y (List.mem_filter.mp m).1
    exact hfin _ _ _ found _ (by omega) hS rfl rfl ff.1 ff.2
theorem ev_barsD {T : Txt K mg} {ρ : Ro} {d : ShD} {pp : Str × Tp Str} (a5 : ρ[5]? = some (some (.v (sheetSh T d)))) (a7 : ρ[9]? = some (some (.v (sh pp)))) (h : BarsOk d pp .n) :
    Ev (α := Bool) (tCall (sp_bars T) [V.non] E0 (tCons (tVar 5) (tCons (tVar 9) tNil))) ρ 0 (Is (barsV d pp .n)) := by
  have z := en_fnD (α := Bool) (E := E0) (ρ := ρ) (c := 0) (c1 := 0) (rs := [.v (sheetSh T d), .v (sh pp)]) (dvs := [V.non]) (dss := [Sh.non]) (enc := fun t : ShD × (Str × Tp Str) × Fr => [.v (sheetSh T t.1), .v (sh t.2.1), .v (sh t.2.2)]) (pre := fun t : ShD × (Str × Tp Str) × Fr => BarsOk t.1 t.2.1 t.2.2) (post := fun t => Is (barsV t.1 t.2.1 t.2.2)) (d, pp, .n)
    (ead_v (ev_var (α := Sh) a5) (ead_v (ev_var (α := Str × Tp Str) a7) ea_nil)) (fun H => .cons .non .nil) rfl h
  exact z
theorem over_ok {raw : Raw} (h : RawS raw) {ns : Tp Str} {fr : Fr} (nd : ns.l.Nodup) (gl : raw.1.length ≤ 12) (pl : raw.2.length ≤ 5) (r : ∀ x ∈ ns.l, x ∈ homesOf raw) (o : ∀ x ∈ ns.l, PyData.strOk x = true) (l : ns.l.length < 64) : BarsOk (sheetD raw.1 raw.2) (Str.ofString "over", ns) fr :=
  ⟨l, o, fun z => absurd (show Str.ofString "over" = Str.ofString "short" from z) (by decide +kernel), fun _ _ => put_ok h nd gl pl r⟩
theorem over_v {raw : Raw} (h : RawS raw) {ns : Tp Str} {fr : Fr} (r : ∀ x ∈ ns.l, x ∈ homesOf raw) : barsV (sheetD raw.1 raw.2) (Str.ofString "over", ns) fr = lawB raw (Str.ofString "over") ns.l fr.xs := by
  unfold barsV
  rw [if_neg (show ¬ Str.ofString "over" = Str.ofString "short" by decide +kernel)]
  exact over_is h r
def sp_law (T : Txt K mg) : Sp := fun vs H Q _ => sp_law0 K vs H Q (fun _ _ _ => False)
theorem ok_law (T : Txt K mg) : FnOk P w K mg base CX0 11 T.f_law T.fd_law ["script"] (sp_law T) := by
  refine okD T.F_law sc_law (fun vs H Q E h => ?_) (fun cdv A outer s H vs Q E hr h => ?_)
  · obtain ⟨_, _, rfl, _⟩ := h; rfl
  · have hu := hu_of hr
    have hu64 := hr.units
    obtain ⟨ds_bd_bars_3, bd_bars_3⟩ := bd_bars_3 T
    obtain ⟨ds_bd_bars_2, bd_bars_2⟩ := bd_bars_2 T
    refine ⟨_, pss_cons (ps_set (i := 1) sc_law.nd rfl (Or.inr rfl) (pe_call (ok__law_pen (P := P) (w := w) (base := base) T) (hr.mono (by decide)) rfl T.mg__law_pen T.F__law_pen.kp (T.b__law_pen) .nil pass0 (pa_cons (pv 0) pa_nil)))
      (pss_cons (ps_for PassesOwn.never rfl (pi_range1 (by rfl) T.b_range (pa_cons (pe_op op_add pe_int (pe_callB (call_min2 rfl) (by rfl) T.b_min (by decide +kernel) (pa_cons pe_int (pa_cons (pe_callB call_len_seq (by rfl) T.b_len PySem.boot_len (pa_cons (pv 0) pa_nil)) pa_nil)))) pa_nil)) (pg_name (i := 2) sc_law.nd rfl (Or.inl rfl)) (pss_cons (ps_set (i := 3) sc_law.nd rfl (Or.inl rfl) (pe_ix ix_list (pe_lstY (pa_cons pe_int (pa_cons pe_int (pa_cons (pe_op op_pow pe_int pe_int) pa_nil)))) (pe_call (ok__law_draw (P := P) (w := w) (base := base) T) (hr.mono (by decide)) rfl T.mg__law_draw T.F__law_draw.kp (T.b__law_draw) .nil pass0 (pa_cons (pv 1) (pa_cons pe_int pa_nil))) (fun _ _ => rfl)))
      (pss_cons (ps_set (i := 4) sc_law.nd rfl (Or.inl rfl) (pe_call (ok__law_free (P := P) (w := w) (base := base) T) (hr.mono (by decide)) rfl T.mg__law_free T.F__law_free.kp (T.b__law_free) .nil pass0 (pa_cons (pv 1) (pa_cons pe_int (pa_cons pe_int (pa_cons (pv 3) pa_nil))))))
      (pss_cons (ps_if (pt_cmpR op_eq (pe_call (ok__law_draw (P := P) (w := w) (base := base) T) (hr.mono (by decide)) rfl T.mg__law_draw T.F__law_draw.kp (T.b__law_draw) .nil pass0 (pa_cons (pv 1) (pa_cons pe_int pa_nil))) pe_int (nomark _)) (pss_one (ps_set (i := 4) sc_law.nd rfl (Or.inl rfl) (pe_ix ix_tup (pe_call (ok__law_fitted (P := P) (w := w) (base := base) T) (hr.mono (by decide)) rfl T.mg__law_fitted T.F__law_fitted.kp (T.b__law_fitted) .nil pass0 (pa_cons (pv 1) (pa_cons pe_int (pa_cons pe_int (pa_cons (pv 3) pa_nil))))) pe_int (fun _ _ => rfl)))) pss_nil)
      (pss_cons (ps_set (i := 5) sc_law.nd rfl (Or.inl rfl) (pe_call (ok__law_made (P := P) (w := w) (base := base) T) (hr.mono (by decide)) rfl T.mg__law_made T.F__law_made.kp (T.b__law_made) .nil pass0 (pa_cons (pv 4) pa_nil)))
      (pss_one (ps_for PassesOwn.never rfl (pi_range1 (by rfl) T.b_range (pa_cons pe_int pa_nil)) (pg_name (i := 6) sc_law.nd rfl (Or.inl rfl)) (pss_cons (ps_setLc (i := 7) (own := [("home", 8)]) (by rfl) sc_law.nd rfl rfl (sw_true rfl rfl rfl (by decide +kernel)) (pi_list (pe_call (ok__law_homes (P := P) (w := w) (base := base) T) (hr.mono (by decide)) rfl T.mg__law_homes T.F__law_homes.kp (T.b__law_homes) .nil pass0 (pa_cons (pv 4) pa_nil))) (blkOk_by (own := [("home", 8)]) (N := ["script", "pen", "turn", "wide", "raw", "sheet", "again", "names", "home", "paper", "fair", "kept", "found"]) (sc := defScope s_law) (by decide +kernel)) (fun _ _ _ _ _ => pg_name (i := 8) sc_law.nd rfl (Or.inl rfl)) (fun _ _ _ _ _ => pts_one (pt_cmpR op_eq (pe_call (ok__law_draw (P := P) (w := w) (base := base) T) (hr.mono (by decide)) rfl T.mg__law_draw T.F__law_draw.kp (T.b__law_draw) .nil pass0 (pa_cons (pv 1) (pa_cons pe_int pa_nil))) pe_int (nomark _))) (fun _ _ _ _ _ => pv 8))
      (pss_cons (ps_set (i := 9) sc_law.nd rfl (Or.inl rfl) (pe_tupY (pa_cons pe_str (pa_cons (pe_callTy call_tuple_of (by rfl) T.b_tuple (by decide +kernel) (pa_cons (pv 7) pa_nil)) pa_nil))))
      (pss_cons (ps_set (i := 10) sc_law.nd rfl (Or.inl rfl) (pe_call (ok__law_fair (P := P) (w := w) (base := base) T) (hr.mono (by decide)) rfl T.mg__law_fair T.F__law_fair.kp (T.b__law_fair) .nil pass0 (pa_cons (pv 1) (pa_cons (pv 4) (pa_cons (pv 7) pa_nil)))))
      (pss_cons (ps_set (i := 11) sc_law.nd rfl (Or.inl rfl) (pe_callTy call_list_of (by rfl) T.b_list (by decide +kernel) (pa_cons (pv 10) pa_nil)))
      (pss_cons (ps_set (i := 12) sc_law.nd rfl (Or.inl rfl) (pe_call (ok_bars (P := P) (w := w) (base := base) T) (hr.mono (by decide)) rfl T.mg_bars T.F_bars.kp bd_bars_3.2 bd_bars_3.1 pass0 (pa_cons (pv 5) (pa_cons (pv 9) (pa_cons (pe_ix ix_list (pe_lstY (pa_cons (pv 10) (pa_cons (pe_callTy call_tuple_of (by rfl) T.b_tuple (by decide +kernel) (pa_cons (pv 10) pa_nil)) pa_nil))) (pe_call (ok__law_draw (P := P) (w := w) (base := base) T) (hr.mono (by decide)) rfl T.mg__law_draw T.F__law_draw.kp (T.b__law_draw) .nil pass0 (pa_cons (pv 1) (pa_cons pe_int pa_nil))) (fun _ _ => rfl)) pa_nil)))))
      (pss_cons (ps_if (PW.pt (pw_or (pt_not (pt_val (pe_callB call_isi (by rfl) T.b_isinstance (by decide +kernel) (pa_cons (pv 12) (pa_cons (pe_bltn (v := .ty "bool") (by rfl) T.b_bool (by decide +kernel) rfl) pa_nil))))) (pw_or (pt_cmpR op_ne (pv 12) (pe_call (ok__law_bars (P := P) (w := w) (base := base) T) (hr.mono (by decide)) rfl T.mg__law_bars T.F__law_bars.kp (T.b__law_bars) .nil pass0 (pa_cons (pv 4) (pa_cons (pv 9) (pa_cons (pv 11) pa_nil)))) (nomark _)) (pw_or1 (pt_cmpR (op_neD hu64) (pv 10) (pv 11) (nomark _)))))) (pss_one (ps_ret pe_bl)) pss_nil)
      (pss_one (ps_if (pt_cmpR op_ne (pe_call (ok_bars (P := P) (w := w) (base := base) T) (hr.mono (by decide)) rfl T.mg_bars T.F_bars.kp bd_bars_2.2 bd_bars_2.1 pass0 (pa_cons (pv 5) (pa_cons (pv 9) pa_nil))) (pe_call (ok__law_bars (P := P) (w := w) (base := base) T) (hr.mono (by decide)) rfl T.mg__law_bars T.F__law_bars.kp (T.b__law_bars) .nil pass0 (pa_cons (pv 4) (pa_cons (pv 9) (pa_cons (pe_lstY pa_nil) pa_nil)))) (nomark _)) (pss_one (ps_ret pe_bl)) pss_nil)))))))))))))))
      (pss_one (ps_ret pe_bl))), ?_⟩
    have lim : (LIM : Nat) = 2 ^ 58 := rfl
    obtain ⟨a, ns, rfl, hS, hlen, k⟩ := h
    refine ⟨_, rfl, a, ns, rfl, hS, hlen, fun p H0 np s0 P0 => ?_⟩
    refine ⟨_, rfl, a, _, rfl, .inl (s0.seq hS), _, _, rfl, _, _, rfl, rfl, ?_⟩
    rw [List.length_map]
    have hN : (2 + (if (ns.length : Int) < 3 then (ns.length : Int) else 3)) ≤ 5 := by split <;> omega
    refine ⟨_, rfl, by show -(2 ^ 62 : Int) ≤ _; split <;> omega, by show _ < (2 ^ 62 : Int); omega, ?_⟩
    generalize hm : (2 + (if (ns.length : Int) < 3 then (ns.length : Int) else 3)) = m at hN ⊢
    refine for_range (lo := 0) (n := m.toNat) (fun i σ H' => StOk (bs0 H0) (i * 300000) σ H' (none :: some .pen :: List.replicate 11 none)) (law_start P0 (by rfl) (by rfl)) (fun i σ H hi hS => ?_) fun σ H hS => k _
    have hi8 : i < 5 := by omega
    replace hS := hS.set (i := 2) (v := .int (0 + (i : Int))) (s := .int (0 + (i : Int))) (.refl H) (fun _ _ => .int _)
    generalize hsg : σ.set 2 (some (.int (0 + (i : Int)))) = σ1 at hS
    show tSeq _ _ _ (σ.set 2 (some (.int (0 + (i : Int))))) H
    rw [hsg]
    clear hsg σ
    have hBn : (bs0 H0).n = 0 := rfl
    refine s_seq (s_set hS (en_ixL (ed_lst (eld_cons ev_int (eld_cons ev_int (eld_cons (ed_op ev_int ev_int (rv_pow ?_)) (el_nil (α := Int))))) (show 3 ≤ sizeLine by decide)) (ed_draw rfl ev_int ?_) ?_) (by omega) fun wide hw σ H hS => ?_)
    · exact ⟨by decide, by decide, by decide⟩
    · decide
    · (intro xs i e hi; cases e; exact atI_some hi.1 hi.2)
    have hw2 : 1 ≤ wide ∧ wide ≤ 2 ^ 49 := by
      obtain ⟨xs, i, rfl, _, e⟩ := hw
      have := atI_mem e
      simp at this
      rcases this with e | e | e <;> subst e <;> decide
    try dsimp only
    refine s_seq (s_set hS (Ev.imp (A' := fun x : Raw => RawOk 12 5 x) (en_fn (α := Raw) (pre := fun t : Int × Int × Int => 1 ≤ t.1 ∧ t.1 ≤ 20 ∧ 0 ≤ t.2.1 ∧ t.2.1 ≤ 20 ∧ 1 ≤ t.2.2 ∧ t.2.2 ≤ 2 ^ 49) (post := fun t (x : Raw) => RawOk (2 * t.1.toNat) t.2.1.toNat x) (6, 5, wide) (ead_pen rfl (ead_v ev_int (ead_v ev_int (ead_v (ev_var (α := Int) rfl) ea_nil)))) ⟨by dsimp only; omega, by dsimp only; omega, by dsimp only; omega, by dsimp only; omega, hw2.1, hw2.2⟩) (Nat.le_refl _) fun x h => h) (by omega) fun raw0 hr0 σ H hS => ?_)
    try dsimp only
    refine s_ifSet (A := fun x : Raw => RawOk 12 5 x) (x0 := raw0) hS rfl hr0 (et_test (en_op (fun (i j : Int) => decide (i = j)) (ed_draw rfl ev_int ⟨by decide, by decide⟩) ev_int (fun i j hi hj => rv_eqI))) (fun _ => ev_op (A := FitOk 6 5) (B := Is (0 : Int)) (C := fun x : Raw => RawOk 12 5 x) (en_fn (α := Raw × Tale) (pre := fun t : Int × Int × Int => 1 ≤ t.1 ∧ t.1 ≤ 20 ∧ 0 ≤ t.2.1 ∧ t.2.1 ≤ 20 ∧ 1 ≤ t.2.2 ∧ t.2.2 ≤ 2 ^ 49) (post := fun t (x : Raw × Tale) => FitOk t.1.toNat t.2.1.toNat x) (6, 5, wide) (ead_pen rfl (ead_v ev_int (ead_v ev_int (ead_v (ev_var (α := Int) rfl) ea_nil)))) ⟨by dsimp only; omega, by dsimp only; omega, by dsimp only; omega, by dsimp only; omega, hw2.1, hw2.2⟩) ev_int (fun x i hx hi => by cases hi; exact ⟨x.1, hx.raw, rv_ixC rfl rfl⟩)) (by omega) fun raw hro σ H hS => ?_
    have hr := raw_s hro (by decide) (by decide)
    try dsimp only
    refine s_seq (s_set hS (en_fn (α := Sh) (c := 0) (c1 := 0) (pre := fun raw : Raw => raw.1.length < 1000 ∧ raw.2.length < 1000 ∧ PsOk raw.1 raw.2) (post := fun raw => Is (sheetSh T (sheetD raw.1 raw.2))) raw (ead_v (ev_var (α := Raw) rfl) ea_nil) ⟨hr.po.gl, hr.po.pl, hr.po⟩) (by omega) fun sheet hsh σ H hS => ?_)
    cases hsh
    try dsimp only
    refine s_forR (own := [6]) (cc := 300) (m := 12) hS (fun i ρ => ρ[1]? = some (some .pen) ∧ ρ[4]? = some (some (.v (sh raw))) ∧ ρ[5]? = some (some (.v (sheetSh T (sheetD raw.1 raw.2)))) ∧ ρ[8]? = some none ∧ ρ.length = 13) ev_int (by omega) ⟨by decide, by decide⟩ ⟨rfl, rfl, rfl, rfl, rfl⟩ ?_ ?_
    · rintro j ρi hj ⟨h1, h4, h5, h8, hl⟩
      match ρi, h1, h4, h5, h8, hl with
      | [a0, a1, a2, a3, a4, a5, a6, a7, a8, a9, a10, a11, a12], h1, h4, h5, h8, _ =>
        cases h1
        cases h4
        cases h5
        cases h8
        refine ⟨_, tg_name (by decide), rfl, fun σ H hS N hN => ?_⟩
        refine s_seq (s_set hS (ev_lcL (m := 64) (P := fun _ _ => True) (E := fun (x : Str) (y : Str) => y = x) (c1 := 1) (c2 := 0) (en_fn (α := List Str) (c := 0) (c1 := 0) (pre := fun raw : Raw => raw.1.length < 64) (post := fun raw => Is (sset (homesOf raw))) raw (ead_v (ev_var (α := Raw) (x := raw) rfl) ea_nil) hr.gl) ?_ (by decide) (ho_of rfl) (fun xs hxs x hx => ⟨_, (tg_name (by decide)), ((et_test (en_op (fun (i j : Int) => decide (i = j)) (ed_draw rfl ev_int ⟨by decide, by decide⟩) ev_int (fun i j hi hj => rv_eqI))).imp (Nat.le_refl _) (fun _ _ => trivial)), ev_var (α := Str) rfl⟩)) (by omega) fun nms hnm σ H hS => ?_)
        · rintro ts rfl
          have a := sset_le (xs := homesOf raw)
          have b : (homesOf raw).length = raw.1.length := List.length_map _
          have c := hr.gl
          omega
        have hso : ∀ y ∈ homesOf raw, PyData.strOk y = true := fun y m => by
          obtain ⟨g, mg, rfl⟩ := List.mem_map.mp m
          exact hr.ng g mg
        have f1 : nms.length < 64 ∧ nms.Nodup ∧ ∀ x ∈ nms, x ∈ homesOf raw := by
          obtain ⟨ts, e, q⟩ := hnm
          rw [show ts = sset (homesOf raw) from e] at q
          have sb := lcR_sub q
          have a := sset_le (xs := homesOf raw)
          have b : (homesOf raw).length = raw.1.length := List.length_map _
          have c := hr.gl
          have d := sb.length_le
          exact ⟨by omega, sset_nodup.sublist sb, fun x mx => sset_mem.mp (sb.subset mx)⟩
        obtain ⟨nl, nnd, nin⟩ := f1
        have no : ∀ x ∈ nms, PyData.strOk x = true := fun x m => hso x (nin x m)
        try dsimp only
        refine s_seq (s_set hS (ed_pair ev_str (ed_cb (ev_var (α := List Str) (x := nms) rfl) rv1_tupL)) (by omega) fun paper hp σ H hS => ?_)
        cases hp
        try dsimp only
        refine s_seq (s_set hS (en_fn (α := List Str) (pre := fun t : Raw × List Str => t.1.1.length < 64 ∧ t.2.length < 64 ∧ (∀ y ∈ homesOf t.1, PyData.strOk y = true) ∧ (∀ y ∈ t.2, PyData.strOk y = true)) (post := fun _ (x : List Str) => x.length < 200 ∧ ∀ y ∈ x, PyData.strOk y = true) (raw, nms) (ead_pen rfl (ead_v (ev_var (α := Raw) (x := raw) rfl) (ead_v (ev_var (α := List Str) (x := nms) rfl) ea_nil))) ⟨hr.gl, nl, hso, no⟩) (by omega) fun fair hf σ H hS => ?_)
        obtain ⟨fl, fo⟩ := hf
        try dsimp only
        refine s_seq (s_set hS (ed_cb (ev_var (α := List Str) (x := fair) rfl) rv1_listL) (by omega) fun kept hk σ H hS => ?_)
        cases hk
        have bok : ∀ f : Fr, BarsOk (sheetD raw.1 raw.2) (Str.ofString "over", ⟨nms⟩) f := fun f => over_ok hr nnd hro.gl hro.pl nin no nl
        try dsimp only
        refine s_seq (s_set hS (en_fnS (α := Bool) (B := Is (lawB raw (Str.ofString "over") nms fair)) (pre := fun t : ShD × (Str × Tp Str) × Fr => BarsOk t.1 t.2.1 t.2.2) (post := fun t => Is (barsV t.1 t.2.1 t.2.2)) (enc := fun t : ShD × (Str × Tp Str) × Fr => [.v (sheetSh T t.1), .v (sh t.2.1), .v (sh t.2.2)]) (ea_v (ev_var (α := Sh) (x := sheetSh T (sheetD raw.1 raw.2)) rfl) (ea_v (ev_var (α := Str × Tp Str) (x := (Str.ofString "over", ⟨nms⟩)) rfl) (ea_v (Ev.imp (A' := fun f : Fr => f.xs = fair) (en_ixL (α := Fr) (ed_lst (eld_cons (Ev.re (α := Fr) (x := Fr.l fair) (ev_var (α := List Str) (x := fair) rfl) rfl) (eld_cons (Ev.re (α := Fr) (x := Fr.t fair) (ed_cb (ev_var (α := List Str) (x := fair) rfl) (rv1_tupL (K := K))) rfl) (el_nil (α := Fr)))) (show 2 ≤ sizeLine by decide)) (ed_draw rfl ev_int ⟨by decide, by decide⟩) (fun xs i e hi => by cases e; exact atI_some hi.1 hi.2)) (Nat.le_refl _) ?_) ea_nil))) ?_) (by omega) fun found hfd σ H hS => ?_)
        · rintro z ⟨xs, i, e1, _, e2⟩
          have m := atI_mem e2
          rw [show xs = _ from e1] at m
          simp at m
          rcases m with rfl | rfl <;> rfl
        · rintro ss ⟨x, r1, e1, ⟨y, r2, e2, ⟨f, r3, e3, e4, e5⟩, e6⟩, e7⟩
          refine ⟨(sheetD raw.1 raw.2, (Str.ofString "over", ⟨nms⟩), f), ?_, bok f, fun b hb => ?_⟩
          · rw [e7, e6, e5, show r3 = [] from e4, show x = _ from e1, show y = _ from e2]
            rfl
          · rw [show b = barsV _ _ _ from hb, over_v hr nin, e3]
        have e1 : found = lawB raw (Str.ofString "over") nms fair := hfd
        try dsimp only
        have LB : ∀ fr : List Str, fr.length < 1000 → (∀ x ∈ fr, PyData.strOk x = true) → RawN raw ∧ nms.length < 64 ∧ (∀ x ∈ nms, PyData.strOk x = true) ∧ fr.length < 1000 ∧ (∀ x ∈ fr, PyData.strOk x = true) := fun fr a b => ⟨hr.rn, nl, no, a, b⟩
        refine s_seq (s_if hS (et_or (et_not (et_b (ed_isiB (b := true) (ev_var (α := Bool) (x := found) rfl) (by rfl)))) (fun _ => et_or (et_test (ed_op (ev_var (α := Bool) (x := found) rfl) (en_fn (α := Bool) (c := 0) (c1 := 0) (pre := fun t : Raw × (Str × Tp Str) × List Str => RawN t.1 ∧ t.2.1.2.l.length < 64 ∧ (∀ x ∈ t.2.1.2.l, PyData.strOk x = true) ∧ t.2.2.length < 1000 ∧ (∀ x ∈ t.2.2, PyData.strOk x = true)) (post := fun t => Is (lawB t.1 t.2.1.1 t.2.1.2.l t.2.2)) (raw, (Str.ofString "over", ⟨nms⟩), fair) (ead_v (ev_var (α := Raw) rfl) (ead_v (ev_var (α := Str × Tp Str) rfl) (ead_v (ev_var (α := List Str) rfl) ea_nil))) (LB fair (Nat.lt_trans fl (by decide)) fo)) rv_neB)) (fun _ => et_test (ed_op (ev_var (α := List Str) (x := fair) rfl) (ev_var (α := List Str) (x := fair) rfl) (rv_neD 8 (by decide) (pl_strs fo) (pl_strs fo)))))) (by omega) (fun ht H hS => ?_) (fun ht H hS => ?_))
        · exfalso
          have z : true = _ := ht
          simp [e1] at z
        clear ht
        try dsimp only [tNext]
        refine s_if hS (et_test (ed_op (ev_barsD (d := sheetD raw.1 raw.2) (pp := (Str.ofString "over", ⟨nms⟩)) rfl rfl (bok .n)) (en_fn (α := Bool) (c := 0) (c1 := 0) (pre := fun t : Raw × (Str × Tp Str) × List Str => RawN t.1 ∧ t.2.1.2.l.length < 64 ∧ (∀ x ∈ t.2.1.2.l, PyData.strOk x = true) ∧ t.2.2.length < 1000 ∧ (∀ x ∈ t.2.2, PyData.strOk x = true)) (post := fun t => Is (lawB t.1 t.2.1.1 t.2.1.2.l t.2.2)) (raw, (Str.ofString "over", ⟨nms⟩), []) (ead_v (ev_var (α := Raw) rfl) (ead_v (ev_var (α := Str × Tp Str) rfl) (ead_v (ed_lst (el_nil (α := Str)) (show 0 ≤ sizeLine by decide)) ea_nil))) (LB [] (by decide) (fun x m => by cases m))) rv_neB)) (by omega) (fun ht H hS => ?_) (fun ht H hS => ?_)
        · exfalso
          have z : true = !decide (barsV (sheetD raw.1 raw.2) (Str.ofString "over", ⟨nms⟩) .n = lawB raw (Str.ofString "over") nms []) := ht
          have q : barsV (sheetD raw.1 raw.2) (Str.ofString "over", ⟨nms⟩) .n = lawB raw (Str.ofString "over") nms [] := over_v hr nin
          rw [decide_eq_true q] at z
          cases z
        exact hN σ H _ ⟨rfl, rfl, rfl, rfl, rfl⟩ (hS.up (by omega))
    exact fun ρ2 J σ H hS => (hS.up (by omega)).toPen J.2.2.2.2 J.1
end
theorem all_mk {l : PySem.W.OpenLaw} {w : World} {K : PySem.W.Frag} {h : Heap} {mg : Str → Option Value} {fa C_Span C_Sheet f__law_pen f__law_draw f__law_names f__law_titles f__law_makers f__law_span f__law_around f__law_fitted f_Span_init f_Span_eq f_Span_plus f_copied f_Sheetadd_give f_Sheetadd_maker f_Sheetadd_piece f_Sheet_init f__law_homes f__law_got f_Sheet_homes f_Sheet_pieces f_Sheetask_home f_Sheetask_piece f_Sheet_got f_Sheet_yarn f_Sheet_makers f__law_made f_Sheet_waste f_Sheet_made_by f_rise_in f_want_more f_must_put f_put_more f_bars f__law_free f__law_waste f__law_bars f__law_fair f_law : Addr} (X : K.In h) (G : h.Ns mainGlobals mg) (hfa : mg "law" = some (.ref fa))
    {oc__law_pen kV__law_pen dc__law_pen pm__law_pen cd__law_pen ct__law_pen : Value} {od__law_pen an__law_pen : Option Addr} {sl__law_pen : Array (Option Value)}
    {oc__law_draw kV__law_draw dc__law_draw pm__law_draw cd__law_draw ct__law_draw : Value} {od__law_draw an__law_draw : Option Addr} {sl__law_draw : Array (Option Value)}
    {oc__law_names kV__law_names dc__law_names pm__law_names cd__law_names ct__law_names : Value} {od__law_names an__law_names : Option Addr} {sl__law_names : Array (Option Value)}
    {oc__law_titles kV__law_titles dc__law_titles pm__law_titles cd__law_titles ct__law_titles : Value} {od__law_titles an__law_titles : Option Addr} {sl__law_titles : Array (Option Value)}
    {oc__law_makers kV__law_makers dc__law_makers pm__law_makers cd__law_makers ct__law_makers : Value} {od__law_makers an__law_makers : Option Addr} {sl__law_makers : Array (Option Value)}
    {oc__law_span kV__law_span dc__law_span pm__law_span cd__law_span ct__law_span : Value} {od__law_span an__law_span : Option Addr} {sl__law_span : Array (Option Value)}
    {oc__law_around kV__law_around dc__law_around pm__law_around cd__law_around ct__law_around : Value} {od__law_around an__law_around : Option Addr} {sl__law_around : Array (Option Value)}
    {oc__law_fitted kV__law_fitted dc__law_fitted pm__law_fitted cd__law_fitted ct__law_fitted : Value} {od__law_fitted an__law_fitted : Option Addr} {sl__law_fitted : Array (Option Value)}
    {oc_Span_init kV_Span_init dc_Span_init pm_Span_init cd_Span_init ct_Span_init : Value} {od_Span_init an_Span_init : Option Addr} {sl_Span_init : Array (Option Value)}
    {T_Span_init : Addr} {ocT_Span_init : Value} {odT_Span_init : Option Addr} {nT_Span_init : Nat} {slT_Span_init : Array (Option Value)}
    {oc_Span_eq kV_Span_eq dc_Span_eq pm_Span_eq cd_Span_eq ct_Span_eq : Value} {od_Span_eq an_Span_eq : Option Addr} {sl_Span_eq : Array (Option Value)}
    {oc_Span_plus kV_Span_plus dc_Span_plus pm_Span_plus cd_Span_plus ct_Span_plus : Value} {od_Span_plus an_Span_plus : Option Addr} {sl_Span_plus : Array (Option Value)}
    {oc_copied kV_copied dc_copied pm_copied cd_copied ct_copied : Value} {od_copied an_copied : Option Addr} {sl_copied : Array (Option Value)}
    {oc_Sheetadd_give kV_Sheetadd_give dc_Sheetadd_give pm_Sheetadd_give cd_Sheetadd_give ct_Sheetadd_give : Value} {od_Sheetadd_give an_Sheetadd_give : Option Addr} {sl_Sheetadd_give : Array (Option Value)}
    {oc_Sheetadd_maker kV_Sheetadd_maker dc_Sheetadd_maker pm_Sheetadd_maker cd_Sheetadd_maker ct_Sheetadd_maker : Value} {od_Sheetadd_maker an_Sheetadd_maker : Option Addr} {sl_Sheetadd_maker : Array (Option Value)}
    {oc_Sheetadd_piece kV_Sheetadd_piece dc_Sheetadd_piece pm_Sheetadd_piece cd_Sheetadd_piece ct_Sheetadd_piece : Value} {od_Sheetadd_piece an_Sheetadd_piece : Option Addr} {sl_Sheetadd_piece : Array (Option Value)}
    {oc_Sheet_init kV_Sheet_init dc_Sheet_init pm_Sheet_init cd_Sheet_init ct_Sheet_init : Value} {od_Sheet_init an_Sheet_init : Option Addr} {sl_Sheet_init : Array (Option Value)}
    {T_Sheet_init : Addr} {ocT_Sheet_init : Value} {odT_Sheet_init : Option Addr} {nT_Sheet_init : Nat} {slT_Sheet_init : Array (Option Value)}
    {oc__law_homes kV__law_homes dc__law_homes pm__law_homes cd__law_homes ct__law_homes : Value} {od__law_homes an__law_homes : Option Addr} {sl__law_homes : Array (Option Value)}
    {oc__law_got kV__law_got dc__law_got pm__law_got cd__law_got ct__law_got : Value} {od__law_got an__law_got : Option Addr} {sl__law_got : Array (Option Value)}
    {oc_Sheet_homes kV_Sheet_homes dc_Sheet_homes pm_Sheet_homes cd_Sheet_homes ct_Sheet_homes : Value} {od_Sheet_homes an_Sheet_homes : Option Addr} {sl_Sheet_homes : Array (Option Value)}
    {oc_Sheet_pieces kV_Sheet_pieces dc_Sheet_pieces pm_Sheet_pieces cd_Sheet_pieces ct_Sheet_pieces : Value} {od_Sheet_pieces an_Sheet_pieces : Option Addr} {sl_Sheet_pieces : Array (Option Value)}
    {oc_Sheetask_home kV_Sheetask_home dc_Sheetask_home pm_Sheetask_home cd_Sheetask_home ct_Sheetask_home : Value} {od_Sheetask_home an_Sheetask_home : Option Addr} {sl_Sheetask_home : Array (Option Value)}
    {oc_Sheetask_piece kV_Sheetask_piece dc_Sheetask_piece pm_Sheetask_piece cd_Sheetask_piece ct_Sheetask_piece : Value} {od_Sheetask_piece an_Sheetask_piece : Option Addr} {sl_Sheetask_piece : Array (Option Value)}
    {oc_Sheet_got kV_Sheet_got dc_Sheet_got pm_Sheet_got cd_Sheet_got ct_Sheet_got : Value} {od_Sheet_got an_Sheet_got : Option Addr} {sl_Sheet_got : Array (Option Value)}
    {oc_Sheet_yarn kV_Sheet_yarn dc_Sheet_yarn pm_Sheet_yarn cd_Sheet_yarn ct_Sheet_yarn : Value} {od_Sheet_yarn an_Sheet_yarn : Option Addr} {sl_Sheet_yarn : Array (Option Value)}
    {oc_Sheet_makers kV_Sheet_makers dc_Sheet_makers pm_Sheet_makers cd_Sheet_makers ct_Sheet_makers : Value} {od_Sheet_makers an_Sheet_makers : Option Addr} {sl_Sheet_makers : Array (Option Value)}
    {oc__law_made kV__law_made dc__law_made pm__law_made cd__law_made ct__law_made : Value} {od__law_made an__law_made : Option Addr} {sl__law_made : Array (Option Value)}
    {oc_Sheet_waste kV_Sheet_waste dc_Sheet_waste pm_Sheet_waste cd_Sheet_waste ct_Sheet_waste : Value} {od_Sheet_waste an_Sheet_waste : Option Addr} {sl_Sheet_waste : Array (Option Value)}
    {oc_Sheet_made_by kV_Sheet_made_by dc_Sheet_made_by pm_Sheet_made_by cd_Sheet_made_by ct_Sheet_made_by : Value} {od_Sheet_made_by an_Sheet_made_by : Option Addr} {sl_Sheet_made_by : Array (Option Value)}
    {oc_rise_in kV_rise_in dc_rise_in pm_rise_in cd_rise_in ct_rise_in : Value} {od_rise_in an_rise_in : Option Addr} {sl_rise_in : Array (Option Value)}
    {oc_want_more kV_want_more dc_want_more pm_want_more cd_want_more ct_want_more : Value} {od_want_more an_want_more : Option Addr} {sl_want_more : Array (Option Value)}
    {oc_must_put kV_must_put dc_must_put pm_must_put cd_must_put ct_must_put : Value} {od_must_put an_must_put : Option Addr} {sl_must_put : Array (Option Value)}
    {oc_put_more kV_put_more dc_put_more pm_put_more cd_put_more ct_put_more : Value} {od_put_more an_put_more : Option Addr} {sl_put_more : Array (Option Value)}
    {oc_bars kV_bars dc_bars pm_bars cd_bars ct_bars : Value} {od_bars an_bars : Option Addr} {sl_bars : Array (Option Value)}
    {T_bars : Addr} {ocT_bars : Value} {odT_bars : Option Addr} {nT_bars : Nat} {slT_bars : Array (Option Value)}
    {oc__law_free kV__law_free dc__law_free pm__law_free cd__law_free ct__law_free : Value} {od__law_free an__law_free : Option Addr} {sl__law_free : Array (Option Value)}
    {oc__law_waste kV__law_waste dc__law_waste pm__law_waste cd__law_waste ct__law_waste : Value} {od__law_waste an__law_waste : Option Addr} {sl__law_waste : Array (Option Value)}
    {oc__law_bars kV__law_bars dc__law_bars pm__law_bars cd__law_bars ct__law_bars : Value} {od__law_bars an__law_bars : Option Addr} {sl__law_bars : Array (Option Value)}
    {oc__law_fair kV__law_fair dc__law_fair pm__law_fair cd__law_fair ct__law_fair : Value} {od__law_fair an__law_fair : Option Addr} {sl__law_fair : Array (Option Value)}
    {oc_law kV_law dc_law pm_law cd_law ct_law : Value} {od_law an_law : Option Addr} {sl_law : Array (Option Value)}
    (aC_Span : PySem.W.nsIn K mainGlobals "Span" = some (some (.ref C_Span)))
    (pg_Span : PySem.W.plainGet K C_Span Str.empty = true)
    (hd_Span : PySem.W.hasDictIn K C_Span = true)
    (po_Span : PySem.W.plainOver K C_Span = true)
    (sa_Span : PySem.W.findIn K (.ref C_Span) "__setattr__" = some (some (.builtin "object.__setattr__")))
    (na_Span_least : PySem.W.findIn K (.ref C_Span) "least" = some none)
    (na_Span_most : PySem.W.findIn K (.ref C_Span) "most" = some none)
    (mks_Span : PySem.W.makesIn K C_Span = true)
    (kc_Span : PySem.W.keepIn K (.ref C_Span) = true)
    (ne_Span : PySem.W.findIn K (.ref C_Span) "__ne__" = some (some (.builtin "object.__ne__")))
    (ha_Span : PySem.W.findIn K (.ref C_Span) "__class__" = some (some (.builtin "object.__class__")))
    (mo_Span : PySem.W.mroIn K C_Span (.type "object") = some true)
    (nF_Span_own : PySem.W.notFirst K C_Span (.ref C_Span) = true)
    (ic_Span : PySem.W.isClsIn K C_Span = true)
    (ty_Span : PySem.W.typeIn K (.ref C_Span) = some (.type "type"))
    (aC_Sheet : PySem.W.nsIn K mainGlobals "Sheet" = some (some (.ref C_Sheet)))
    (pg_Sheet : PySem.W.plainGet K C_Sheet Str.empty = true)
    (hd_Sheet : PySem.W.hasDictIn K C_Sheet = true)
    (po_Sheet : PySem.W.plainOver K C_Sheet = true)
    (sa_Sheet : PySem.W.findIn K (.ref C_Sheet) "__setattr__" = some (some (.builtin "object.__setattr__")))
    (na_Sheet__got : PySem.W.findIn K (.ref C_Sheet) "_got" = some none)
    (na_Sheet__waste : PySem.W.findIn K (.ref C_Sheet) "_waste" = some none)
    (na_Sheet__yarn : PySem.W.findIn K (.ref C_Sheet) "_yarn" = some none)
    (na_Sheet__makers : PySem.W.findIn K (.ref C_Sheet) "_makers" = some none)
    (na_Sheet__made_by : PySem.W.findIn K (.ref C_Sheet) "_made_by" = some none)
    (mks_Sheet : PySem.W.makesIn K C_Sheet = true)
    (kc_Sheet : PySem.W.keepIn K (.ref C_Sheet) = true)
    (ha_Sheet : PySem.W.findIn K (.ref C_Sheet) "__class__" = some (some (.builtin "object.__class__")))
    (mo_Sheet : PySem.W.mroIn K C_Sheet (.type "object") = some true)
    (nF_Sheet_own : PySem.W.notFirst K C_Sheet (.ref C_Sheet) = true)
    (ic_Sheet : PySem.W.isClsIn K C_Sheet = true)
    (ty_Sheet : PySem.W.typeIn K (.ref C_Sheet) = some (.type "type"))
    (hn : PySem.W.specialIn K (.builtin "object.__class__") "__get__" = some (some (.builtin "getset_descriptor.__get__")))
    (ht : PySem.W.takesIn K (.builtin "object.__class__") = some true)
    (a__law_pen : PySem.W.nsIn K mainGlobals "_law_pen" = some (some (.ref f__law_pen)))
    (l__law_pen : K.lookup f__law_pen = some ⟨oc__law_pen, od__law_pen, .func (PySem.W.fnOf "_law_pen" "_law_pen" (defArgs s__law_pen) (defBody s__law_pen) (defScope s__law_pen) .none kV__law_pen dc__law_pen pm__law_pen an__law_pen cd__law_pen ct__law_pen), sl__law_pen⟩)
    (c__law_pen : PySem.W.codeIn K cd__law_pen "_law_pen" = true)
    (k__law_pen : PySem.W.keepIn K (.ref f__law_pen) = true)
    (a__law_draw : PySem.W.nsIn K mainGlobals "_law_draw" = some (some (.ref f__law_draw)))
    (l__law_draw : K.lookup f__law_draw = some ⟨oc__law_draw, od__law_draw, .func (PySem.W.fnOf "_law_draw" "_law_draw" (defArgs s__law_draw) (defBody s__law_draw) (defScope s__law_draw) .none kV__law_draw dc__law_draw pm__law_draw an__law_draw cd__law_draw ct__law_draw), sl__law_draw⟩)
    (c__law_draw : PySem.W.codeIn K cd__law_draw "_law_draw" = true)
    (k__law_draw : PySem.W.keepIn K (.ref f__law_draw) = true)
    (a__law_names : PySem.W.nsIn K mainGlobals "_law_names" = some (some (.ref f__law_names)))
    (l__law_names : K.lookup f__law_names = some ⟨oc__law_names, od__law_names, .func (PySem.W.fnOf "_law_names" "_law_names" (defArgs s__law_names) (defBody s__law_names) (defScope s__law_names) .none kV__law_names dc__law_names pm__law_names an__law_names cd__law_names ct__law_names), sl__law_names⟩)
    (c__law_names : PySem.W.codeIn K cd__law_names "_law_names" = true)
    (k__law_names : PySem.W.keepIn K (.ref f__law_names) = true)
    (a__law_titles : PySem.W.nsIn K mainGlobals "_law_titles" = some (some (.ref f__law_titles)))
    (l__law_titles : K.lookup f__law_titles = some ⟨oc__law_titles, od__law_titles, .func (PySem.W.fnOf "_law_titles" "_law_titles" (defArgs s__law_titles) (defBody s__law_titles) (defScope s__law_titles) .none kV__law_titles dc__law_titles pm__law_titles an__law_titles cd__law_titles ct__law_titles), sl__law_titles⟩)
    (c__law_titles : PySem.W.codeIn K cd__law_titles "_law_titles" = true)
    (k__law_titles : PySem.W.keepIn K (.ref f__law_titles) = true)
    (a__law_makers : PySem.W.nsIn K mainGlobals "_law_makers" = some (some (.ref f__law_makers)))
    (l__law_makers : K.lookup f__law_makers = some ⟨oc__law_makers, od__law_makers, .func (PySem.W.fnOf "_law_makers" "_law_makers" (defArgs s__law_makers) (defBody s__law_makers) (defScope s__law_makers) .none kV__law_makers dc__law_makers pm__law_makers an__law_makers cd__law_makers ct__law_makers), sl__law_makers⟩)
    (c__law_makers : PySem.W.codeIn K cd__law_makers "_law_makers" = true)
    (k__law_makers : PySem.W.keepIn K (.ref f__law_makers) = true)
    (a__law_span : PySem.W.nsIn K mainGlobals "_law_span" = some (some (.ref f__law_span)))
    (l__law_span : K.lookup f__law_span = some ⟨oc__law_span, od__law_span, .func (PySem.W.fnOf "_law_span" "_law_span" (defArgs s__law_span) (defBody s__law_span) (defScope s__law_span) .none kV__law_span dc__law_span pm__law_span an__law_span cd__law_span ct__law_span), sl__law_span⟩)
    (c__law_span : PySem.W.codeIn K cd__law_span "_law_span" = true)
    (k__law_span : PySem.W.keepIn K (.ref f__law_span) = true)
    (a__law_around : PySem.W.nsIn K mainGlobals "_law_around" = some (some (.ref f__law_around)))
    (l__law_around : K.lookup f__law_around = some ⟨oc__law_around, od__law_around, .func (PySem.W.fnOf "_law_around" "_law_around" (defArgs s__law_around) (defBody s__law_around) (defScope s__law_around) .none kV__law_around dc__law_around pm__law_around an__law_around cd__law_around ct__law_around), sl__law_around⟩)
    (c__law_around : PySem.W.codeIn K cd__law_around "_law_around" = true)
    (k__law_around : PySem.W.keepIn K (.ref f__law_around) = true)
    (a__law_fitted : PySem.W.nsIn K mainGlobals "_law_fitted" = some (some (.ref f__law_fitted)))
    (l__law_fitted : K.lookup f__law_fitted = some ⟨oc__law_fitted, od__law_fitted, .func (PySem.W.fnOf "_law_fitted" "_law_fitted" (defArgs s__law_fitted) (defBody s__law_fitted) (defScope s__law_fitted) .none kV__law_fitted dc__law_fitted pm__law_fitted an__law_fitted cd__law_fitted ct__law_fitted), sl__law_fitted⟩)
    (c__law_fitted : PySem.W.codeIn K cd__law_fitted "_law_fitted" = true)
    (k__law_fitted : PySem.W.keepIn K (.ref f__law_fitted) = true)
    (a_Span_init : PySem.W.findIn K (.ref C_Span) "__init__" = some (some (.ref f_Span_init)))
    (i_Span_init : PySem.W.isFn K (.ref f_Span_init) = true)
    (l_Span_init : K.lookup f_Span_init = some ⟨oc_Span_init, od_Span_init, .func (PySem.W.fnOf "__init__" "Span.__init__" (defArgs s_Span_init) (defBody s_Span_init) (defScope s_Span_init) (.ref T_Span_init) kV_Span_init dc_Span_init pm_Span_init an_Span_init cd_Span_init ct_Span_init), sl_Span_init⟩)
    (c_Span_init : PySem.W.codeIn K cd_Span_init "Span.__init__" = true)
    (k_Span_init : PySem.W.keepIn K (.ref f_Span_init) = true)
    (lT_Span_init : K.lookup T_Span_init = some ⟨ocT_Span_init, odT_Span_init, .seq (List.toArray [Value.none]) nT_Span_init, slT_Span_init⟩)
    (a_Span_eq : PySem.W.findIn K (.ref C_Span) "__eq__" = some (some (.ref f_Span_eq)))
    (i_Span_eq : PySem.W.isFn K (.ref f_Span_eq) = true)
    (l_Span_eq : K.lookup f_Span_eq = some ⟨oc_Span_eq, od_Span_eq, .func (PySem.W.fnOf "__eq__" "Span.__eq__" (defArgs s_Span_eq) (defBody s_Span_eq) (defScope s_Span_eq) .none kV_Span_eq dc_Span_eq pm_Span_eq an_Span_eq cd_Span_eq ct_Span_eq), sl_Span_eq⟩)
    (c_Span_eq : PySem.W.codeIn K cd_Span_eq "Span.__eq__" = true)
    (k_Span_eq : PySem.W.keepIn K (.ref f_Span_eq) = true)
    (a_Span_plus : PySem.W.findIn K (.ref C_Span) "plus" = some (some (.ref f_Span_plus)))
    (i_Span_plus : PySem.W.isFn K (.ref f_Span_plus) = true)
    (l_Span_plus : K.lookup f_Span_plus = some ⟨oc_Span_plus, od_Span_plus, .func (PySem.W.fnOf "plus" "Span.plus" (defArgs s_Span_plus) (defBody s_Span_plus) (defScope s_Span_plus) .none kV_Span_plus dc_Span_plus pm_Span_plus an_Span_plus cd_Span_plus ct_Span_plus), sl_Span_plus⟩)
    (c_Span_plus : PySem.W.codeIn K cd_Span_plus "Span.plus" = true)
    (k_Span_plus : PySem.W.keepIn K (.ref f_Span_plus) = true)
    (a_copied : PySem.W.nsIn K mainGlobals "copied" = some (some (.ref f_copied)))
    (l_copied : K.lookup f_copied = some ⟨oc_copied, od_copied, .func (PySem.W.fnOf "copied" "copied" (defArgs s_copied) (defBody s_copied) (defScope s_copied) .none kV_copied dc_copied pm_copied an_copied cd_copied ct_copied), sl_copied⟩)
    (c_copied : PySem.W.codeIn K cd_copied "copied" = true)
    (k_copied : PySem.W.keepIn K (.ref f_copied) = true)
    (a_Sheetadd_give : PySem.W.findIn K (.ref C_Sheet) "_add_give" = some (some (.ref f_Sheetadd_give)))
    (i_Sheetadd_give : PySem.W.isFn K (.ref f_Sheetadd_give) = true)
    (l_Sheetadd_give : K.lookup f_Sheetadd_give = some ⟨oc_Sheetadd_give, od_Sheetadd_give, .func (PySem.W.fnOf "_add_give" "Sheet._add_give" (defArgs s_Sheetadd_give) (defBody s_Sheetadd_give) (defScope s_Sheetadd_give) .none kV_Sheetadd_give dc_Sheetadd_give pm_Sheetadd_give an_Sheetadd_give cd_Sheetadd_give ct_Sheetadd_give), sl_Sheetadd_give⟩)
    (c_Sheetadd_give : PySem.W.codeIn K cd_Sheetadd_give "Sheet._add_give" = true)
    (k_Sheetadd_give : PySem.W.keepIn K (.ref f_Sheetadd_give) = true)
    (a_Sheetadd_maker : PySem.W.findIn K (.ref C_Sheet) "_add_maker" = some (some (.ref f_Sheetadd_maker)))
    (i_Sheetadd_maker : PySem.W.isFn K (.ref f_Sheetadd_maker) = true)
    (l_Sheetadd_maker : K.lookup f_Sheetadd_maker = some ⟨oc_Sheetadd_maker, od_Sheetadd_maker, .func (PySem.W.fnOf "_add_maker" "Sheet._add_maker" (defArgs s_Sheetadd_maker) (defBody s_Sheetadd_maker) (defScope s_Sheetadd_maker) .none kV_Sheetadd_maker dc_Sheetadd_maker pm_Sheetadd_maker an_Sheetadd_maker cd_Sheetadd_maker ct_Sheetadd_maker), sl_Sheetadd_maker⟩)
    (c_Sheetadd_maker : PySem.W.codeIn K cd_Sheetadd_maker "Sheet._add_maker" = true)
    (k_Sheetadd_maker : PySem.W.keepIn K (.ref f_Sheetadd_maker) = true)
    (a_Sheetadd_piece : PySem.W.findIn K (.ref C_Sheet) "_add_piece" = some (some (.ref f_Sheetadd_piece)))
    (i_Sheetadd_piece : PySem.W.isFn K (.ref f_Sheetadd_piece) = true)
    (l_Sheetadd_piece : K.lookup f_Sheetadd_piece = some ⟨oc_Sheetadd_piece, od_Sheetadd_piece, .func (PySem.W.fnOf "_add_piece" "Sheet._add_piece" (defArgs s_Sheetadd_piece) (defBody s_Sheetadd_piece) (defScope s_Sheetadd_piece) .none kV_Sheetadd_piece dc_Sheetadd_piece pm_Sheetadd_piece an_Sheetadd_piece cd_Sheetadd_piece ct_Sheetadd_piece), sl_Sheetadd_piece⟩)
    (c_Sheetadd_piece : PySem.W.codeIn K cd_Sheetadd_piece "Sheet._add_piece" = true)
    (k_Sheetadd_piece : PySem.W.keepIn K (.ref f_Sheetadd_piece) = true)
    (a_Sheet_init : PySem.W.findIn K (.ref C_Sheet) "__init__" = some (some (.ref f_Sheet_init)))
    (i_Sheet_init : PySem.W.isFn K (.ref f_Sheet_init) = true)
    (l_Sheet_init : K.lookup f_Sheet_init = some ⟨oc_Sheet_init, od_Sheet_init, .func (PySem.W.fnOf "__init__" "Sheet.__init__" (defArgs s_Sheet_init) (defBody s_Sheet_init) (defScope s_Sheet_init) (.ref T_Sheet_init) kV_Sheet_init dc_Sheet_init pm_Sheet_init an_Sheet_init cd_Sheet_init ct_Sheet_init), sl_Sheet_init⟩)
    (c_Sheet_init : PySem.W.codeIn K cd_Sheet_init "Sheet.__init__" = true)
    (k_Sheet_init : PySem.W.keepIn K (.ref f_Sheet_init) = true)
    (lT_Sheet_init : K.lookup T_Sheet_init = some ⟨ocT_Sheet_init, odT_Sheet_init, .seq (List.toArray [Value.none, Value.none]) nT_Sheet_init, slT_Sheet_init⟩)
    (a__law_homes : PySem.W.nsIn K mainGlobals "_law_homes" = some (some (.ref f__law_homes)))
    (l__law_homes : K.lookup f__law_homes = some ⟨oc__law_homes, od__law_homes, .func (PySem.W.fnOf "_law_homes" "_law_homes" (defArgs s__law_homes) (defBody s__law_homes) (defScope s__law_homes) .none kV__law_homes dc__law_homes pm__law_homes an__law_homes cd__law_homes ct__law_homes), sl__law_homes⟩)
    (c__law_homes : PySem.W.codeIn K cd__law_homes "_law_homes" = true)
    (k__law_homes : PySem.W.keepIn K (.ref f__law_homes) = true)
    (a__law_got : PySem.W.nsIn K mainGlobals "_law_got" = some (some (.ref f__law_got)))
    (l__law_got : K.lookup f__law_got = some ⟨oc__law_got, od__law_got, .func (PySem.W.fnOf "_law_got" "_law_got" (defArgs s__law_got) (defBody s__law_got) (defScope s__law_got) .none kV__law_got dc__law_got pm__law_got an__law_got cd__law_got ct__law_got), sl__law_got⟩)
    (c__law_got : PySem.W.codeIn K cd__law_got "_law_got" = true)
    (k__law_got : PySem.W.keepIn K (.ref f__law_got) = true)
    (a_Sheet_homes : PySem.W.findIn K (.ref C_Sheet) "homes" = some (some (.ref f_Sheet_homes)))
    (i_Sheet_homes : PySem.W.isFn K (.ref f_Sheet_homes) = true)
    (l_Sheet_homes : K.lookup f_Sheet_homes = some ⟨oc_Sheet_homes, od_Sheet_homes, .func (PySem.W.fnOf "homes" "Sheet.homes" (defArgs s_Sheet_homes) (defBody s_Sheet_homes) (defScope s_Sheet_homes) .none kV_Sheet_homes dc_Sheet_homes pm_Sheet_homes an_Sheet_homes cd_Sheet_homes ct_Sheet_homes), sl_Sheet_homes⟩)
    (c_Sheet_homes : PySem.W.codeIn K cd_Sheet_homes "Sheet.homes" = true)
    (k_Sheet_homes : PySem.W.keepIn K (.ref f_Sheet_homes) = true)
    (a_Sheet_pieces : PySem.W.findIn K (.ref C_Sheet) "pieces" = some (some (.ref f_Sheet_pieces)))
    (i_Sheet_pieces : PySem.W.isFn K (.ref f_Sheet_pieces) = true)
    (l_Sheet_pieces : K.lookup f_Sheet_pieces = some ⟨oc_Sheet_pieces, od_Sheet_pieces, .func (PySem.W.fnOf "pieces" "Sheet.pieces" (defArgs s_Sheet_pieces) (defBody s_Sheet_pieces) (defScope s_Sheet_pieces) .none kV_Sheet_pieces dc_Sheet_pieces pm_Sheet_pieces an_Sheet_pieces cd_Sheet_pieces ct_Sheet_pieces), sl_Sheet_pieces⟩)
    (c_Sheet_pieces : PySem.W.codeIn K cd_Sheet_pieces "Sheet.pieces" = true)
    (k_Sheet_pieces : PySem.W.keepIn K (.ref f_Sheet_pieces) = true)
    (a_Sheetask_home : PySem.W.findIn K (.ref C_Sheet) "_ask_home" = some (some (.ref f_Sheetask_home)))
    (i_Sheetask_home : PySem.W.isFn K (.ref f_Sheetask_home) = true)
    (l_Sheetask_home : K.lookup f_Sheetask_home = some ⟨oc_Sheetask_home, od_Sheetask_home, .func (PySem.W.fnOf "_ask_home" "Sheet._ask_home" (defArgs s_Sheetask_home) (defBody s_Sheetask_home) (defScope s_Sheetask_home) .none kV_Sheetask_home dc_Sheetask_home pm_Sheetask_home an_Sheetask_home cd_Sheetask_home ct_Sheetask_home), sl_Sheetask_home⟩)
    (c_Sheetask_home : PySem.W.codeIn K cd_Sheetask_home "Sheet._ask_home" = true)
    (k_Sheetask_home : PySem.W.keepIn K (.ref f_Sheetask_home) = true)
    (a_Sheetask_piece : PySem.W.findIn K (.ref C_Sheet) "_ask_piece" = some (some (.ref f_Sheetask_piece)))
    (i_Sheetask_piece : PySem.W.isFn K (.ref f_Sheetask_piece) = true)
    (l_Sheetask_piece : K.lookup f_Sheetask_piece = some ⟨oc_Sheetask_piece, od_Sheetask_piece, .func (PySem.W.fnOf "_ask_piece" "Sheet._ask_piece" (defArgs s_Sheetask_piece) (defBody s_Sheetask_piece) (defScope s_Sheetask_piece) .none kV_Sheetask_piece dc_Sheetask_piece pm_Sheetask_piece an_Sheetask_piece cd_Sheetask_piece ct_Sheetask_piece), sl_Sheetask_piece⟩)
    (c_Sheetask_piece : PySem.W.codeIn K cd_Sheetask_piece "Sheet._ask_piece" = true)
    (k_Sheetask_piece : PySem.W.keepIn K (.ref f_Sheetask_piece) = true)
    (a_Sheet_got : PySem.W.findIn K (.ref C_Sheet) "got" = some (some (.ref f_Sheet_got)))
    (i_Sheet_got : PySem.W.isFn K (.ref f_Sheet_got) = true)
    (l_Sheet_got : K.lookup f_Sheet_got = some ⟨oc_Sheet_got, od_Sheet_got, .func (PySem.W.fnOf "got" "Sheet.got" (defArgs s_Sheet_got) (defBody s_Sheet_got) (defScope s_Sheet_got) .none kV_Sheet_got dc_Sheet_got pm_Sheet_got an_Sheet_got cd_Sheet_got ct_Sheet_got), sl_Sheet_got⟩)
    (c_Sheet_got : PySem.W.codeIn K cd_Sheet_got "Sheet.got" = true)
    (k_Sheet_got : PySem.W.keepIn K (.ref f_Sheet_got) = true)
    (a_Sheet_yarn : PySem.W.findIn K (.ref C_Sheet) "yarn" = some (some (.ref f_Sheet_yarn)))
    (i_Sheet_yarn : PySem.W.isFn K (.ref f_Sheet_yarn) = true)
    (l_Sheet_yarn : K.lookup f_Sheet_yarn = some ⟨oc_Sheet_yarn, od_Sheet_yarn, .func (PySem.W.fnOf "yarn" "Sheet.yarn" (defArgs s_Sheet_yarn) (defBody s_Sheet_yarn) (defScope s_Sheet_yarn) .none kV_Sheet_yarn dc_Sheet_yarn pm_Sheet_yarn an_Sheet_yarn cd_Sheet_yarn ct_Sheet_yarn), sl_Sheet_yarn⟩)
    (c_Sheet_yarn : PySem.W.codeIn K cd_Sheet_yarn "Sheet.yarn" = true)
    (k_Sheet_yarn : PySem.W.keepIn K (.ref f_Sheet_yarn) = true)
    (a_Sheet_makers : PySem.W.findIn K (.ref C_Sheet) "makers" = some (some (.ref f_Sheet_makers)))
    (i_Sheet_makers : PySem.W.isFn K (.ref f_Sheet_makers) = true)
    (l_Sheet_makers : K.lookup f_Sheet_makers = some ⟨oc_Sheet_makers, od_Sheet_makers, .func (PySem.W.fnOf "makers" "Sheet.makers" (defArgs s_Sheet_makers) (defBody s_Sheet_makers) (defScope s_Sheet_makers) .none kV_Sheet_makers dc_Sheet_makers pm_Sheet_makers an_Sheet_makers cd_Sheet_makers ct_Sheet_makers), sl_Sheet_makers⟩)
    (c_Sheet_makers : PySem.W.codeIn K cd_Sheet_makers "Sheet.makers" = true)
    (k_Sheet_makers : PySem.W.keepIn K (.ref f_Sheet_makers) = true)
    (a__law_made : PySem.W.nsIn K mainGlobals "_law_made" = some (some (.ref f__law_made)))
    (l__law_made : K.lookup f__law_made = some ⟨oc__law_made, od__law_made, .func (PySem.W.fnOf "_law_made" "_law_made" (defArgs s__law_made) (defBody s__law_made) (defScope s__law_made) .none kV__law_made dc__law_made pm__law_made an__law_made cd__law_made ct__law_made), sl__law_made⟩)
    (c__law_made : PySem.W.codeIn K cd__law_made "_law_made" = true)
    (k__law_made : PySem.W.keepIn K (.ref f__law_made) = true)
    (a_Sheet_waste : PySem.W.findIn K (.ref C_Sheet) "waste" = some (some (.ref f_Sheet_waste)))
    (i_Sheet_waste : PySem.W.isFn K (.ref f_Sheet_waste) = true)
    (l_Sheet_waste : K.lookup f_Sheet_waste = some ⟨oc_Sheet_waste, od_Sheet_waste, .func (PySem.W.fnOf "waste" "Sheet.waste" (defArgs s_Sheet_waste) (defBody s_Sheet_waste) (defScope s_Sheet_waste) .none kV_Sheet_waste dc_Sheet_waste pm_Sheet_waste an_Sheet_waste cd_Sheet_waste ct_Sheet_waste), sl_Sheet_waste⟩)
    (c_Sheet_waste : PySem.W.codeIn K cd_Sheet_waste "Sheet.waste" = true)
    (k_Sheet_waste : PySem.W.keepIn K (.ref f_Sheet_waste) = true)
    (a_Sheet_made_by : PySem.W.findIn K (.ref C_Sheet) "made_by" = some (some (.ref f_Sheet_made_by)))
    (i_Sheet_made_by : PySem.W.isFn K (.ref f_Sheet_made_by) = true)
    (l_Sheet_made_by : K.lookup f_Sheet_made_by = some ⟨oc_Sheet_made_by, od_Sheet_made_by, .func (PySem.W.fnOf "made_by" "Sheet.made_by" (defArgs s_Sheet_made_by) (defBody s_Sheet_made_by) (defScope s_Sheet_made_by) .none kV_Sheet_made_by dc_Sheet_made_by pm_Sheet_made_by an_Sheet_made_by cd_Sheet_made_by ct_Sheet_made_by), sl_Sheet_made_by⟩)
    (c_Sheet_made_by : PySem.W.codeIn K cd_Sheet_made_by "Sheet.made_by" = true)
    (k_Sheet_made_by : PySem.W.keepIn K (.ref f_Sheet_made_by) = true)
    (a_rise_in : PySem.W.nsIn K mainGlobals "rise_in" = some (some (.ref f_rise_in)))
    (l_rise_in : K.lookup f_rise_in = some ⟨oc_rise_in, od_rise_in, .func (PySem.W.fnOf "rise_in" "rise_in" (defArgs s_rise_in) (defBody s_rise_in) (defScope s_rise_in) .none kV_rise_in dc_rise_in pm_rise_in an_rise_in cd_rise_in ct_rise_in), sl_rise_in⟩)
    (c_rise_in : PySem.W.codeIn K cd_rise_in "rise_in" = true)
    (k_rise_in : PySem.W.keepIn K (.ref f_rise_in) = true)
    (a_want_more : PySem.W.nsIn K mainGlobals "want_more" = some (some (.ref f_want_more)))
    (l_want_more : K.lookup f_want_more = some ⟨oc_want_more, od_want_more, .func (PySem.W.fnOf "want_more" "want_more" (defArgs s_want_more) (defBody s_want_more) (defScope s_want_more) .none kV_want_more dc_want_more pm_want_more an_want_more cd_want_more ct_want_more), sl_want_more⟩)
    (c_want_more : PySem.W.codeIn K cd_want_more "want_more" = true)
    (k_want_more : PySem.W.keepIn K (.ref f_want_more) = true)
    (a_must_put : PySem.W.nsIn K mainGlobals "must_put" = some (some (.ref f_must_put)))
    (l_must_put : K.lookup f_must_put = some ⟨oc_must_put, od_must_put, .func (PySem.W.fnOf "must_put" "must_put" (defArgs s_must_put) (defBody s_must_put) (defScope s_must_put) .none kV_must_put dc_must_put pm_must_put an_must_put cd_must_put ct_must_put), sl_must_put⟩)
    (c_must_put : PySem.W.codeIn K cd_must_put "must_put" = true)
    (k_must_put : PySem.W.keepIn K (.ref f_must_put) = true)
    (a_put_more : PySem.W.nsIn K mainGlobals "put_more" = some (some (.ref f_put_more)))
    (l_put_more : K.lookup f_put_more = some ⟨oc_put_more, od_put_more, .func (PySem.W.fnOf "put_more" "put_more" (defArgs s_put_more) (defBody s_put_more) (defScope s_put_more) .none kV_put_more dc_put_more pm_put_more an_put_more cd_put_more ct_put_more), sl_put_more⟩)
    (c_put_more : PySem.W.codeIn K cd_put_more "put_more" = true)
    (k_put_more : PySem.W.keepIn K (.ref f_put_more) = true)
    (a_bars : PySem.W.nsIn K mainGlobals "bars" = some (some (.ref f_bars)))
    (l_bars : K.lookup f_bars = some ⟨oc_bars, od_bars, .func (PySem.W.fnOf "bars" "bars" (defArgs s_bars) (defBody s_bars) (defScope s_bars) (.ref T_bars) kV_bars dc_bars pm_bars an_bars cd_bars ct_bars), sl_bars⟩)
    (c_bars : PySem.W.codeIn K cd_bars "bars" = true)
    (k_bars : PySem.W.keepIn K (.ref f_bars) = true)
    (lT_bars : K.lookup T_bars = some ⟨ocT_bars, odT_bars, .seq (List.toArray [Value.none]) nT_bars, slT_bars⟩)
    (a__law_free : PySem.W.nsIn K mainGlobals "_law_free" = some (some (.ref f__law_free)))
    (l__law_free : K.lookup f__law_free = some ⟨oc__law_free, od__law_free, .func (PySem.W.fnOf "_law_free" "_law_free" (defArgs s__law_free) (defBody s__law_free) (defScope s__law_free) .none kV__law_free dc__law_free pm__law_free an__law_free cd__law_free ct__law_free), sl__law_free⟩)
    (c__law_free : PySem.W.codeIn K cd__law_free "_law_free" = true)
    (k__law_free : PySem.W.keepIn K (.ref f__law_free) = true)
    (a__law_waste : PySem.W.nsIn K mainGlobals "_law_waste" = some (some (.ref f__law_waste)))
    (l__law_waste : K.lookup f__law_waste = some ⟨oc__law_waste, od__law_waste, .func (PySem.W.fnOf "_law_waste" "_law_waste" (defArgs s__law_waste) (defBody s__law_waste) (defScope s__law_waste) .none kV__law_waste dc__law_waste pm__law_waste an__law_waste cd__law_waste ct__law_waste), sl__law_waste⟩)
    (c__law_waste : PySem.W.codeIn K cd__law_waste "_law_waste" = true)
    (k__law_waste : PySem.W.keepIn K (.ref f__law_waste) = true)
    (a__law_bars : PySem.W.nsIn K mainGlobals "_law_bars" = some (some (.ref f__law_bars)))
    (l__law_bars : K.lookup f__law_bars = some ⟨oc__law_bars, od__law_bars, .func (PySem.W.fnOf "_law_bars" "_law_bars" (defArgs s__law_bars) (defBody s__law_bars) (defScope s__law_bars) .none kV__law_bars dc__law_bars pm__law_bars an__law_bars cd__law_bars ct__law_bars), sl__law_bars⟩)
    (c__law_bars : PySem.W.codeIn K cd__law_bars "_law_bars" = true)
    (k__law_bars : PySem.W.keepIn K (.ref f__law_bars) = true)
    (a__law_fair : PySem.W.nsIn K mainGlobals "_law_fair" = some (some (.ref f__law_fair)))
    (l__law_fair : K.lookup f__law_fair = some ⟨oc__law_fair, od__law_fair, .func (PySem.W.fnOf "_law_fair" "_law_fair" (defArgs s__law_fair) (defBody s__law_fair) (defScope s__law_fair) .none kV__law_fair dc__law_fair pm__law_fair an__law_fair cd__law_fair ct__law_fair), sl__law_fair⟩)
    (c__law_fair : PySem.W.codeIn K cd__law_fair "_law_fair" = true)
    (k__law_fair : PySem.W.keepIn K (.ref f__law_fair) = true)
    (a_law : PySem.W.nsIn K mainGlobals "law" = some (some (.ref f_law)))
    (l_law : K.lookup f_law = some ⟨oc_law, od_law, .func (PySem.W.fnOf "law" "law" (defArgs s_law) (defBody s_law) (defScope s_law) .none kV_law dc_law pm_law an_law cd_law ct_law), sl_law⟩)
    (c_law : PySem.W.codeIn K cd_law "law" = true)
    (k_law : PySem.W.keepIn K (.ref f_law) = true)
    (z_abs : PySem.W.nsIn K mainGlobals "abs" = some none)
    (z_bool : PySem.W.nsIn K mainGlobals "bool" = some none)
    (z_isinstance : PySem.W.nsIn K mainGlobals "isinstance" = some none)
    (z_len : PySem.W.nsIn K mainGlobals "len" = some none)
    (z_list : PySem.W.nsIn K mainGlobals "list" = some none)
    (z_max : PySem.W.nsIn K mainGlobals "max" = some none)
    (z_min : PySem.W.nsIn K mainGlobals "min" = some none)
    (z_range : PySem.W.nsIn K mainGlobals "range" = some none)
    (z_set : PySem.W.nsIn K mainGlobals "set" = some none)
    (z_sorted : PySem.W.nsIn K mainGlobals "sorted" = some none)
    (z_sum : PySem.W.nsIn K mainGlobals "sum" = some none)
    (z_tuple : PySem.W.nsIn K mainGlobals "tuple" = some none)
    : ∃ fd : FuncData, (∀ (s : Shared) (v : Value), BindsTo s fd ⟨[v], []⟩ [("script", v)]) ∧ ∀ base : Heap, K.In base → base.Ns mainGlobals mg → FnOk l.prog w K mg base CX0 11 fa fd ["script"] (sp_law0 K) := by
  have e : fa = f_law := by
    have z := hfa.symm.trans (PySem.W.mg_of X G a_law)
    cases z
    rfl
  have T : ∃ T : Txt K mg, T.f_law = fa ∧ ∀ (s : Shared) (v : Value), BindsTo s T.fd_law ⟨[v], []⟩ [("script", v)] := by
    refine ⟨{ C_Span := C_Span, C_Sheet := C_Sheet, f__law_pen := f__law_pen, f__law_draw := f__law_draw, f__law_names := f__law_names, f__law_titles := f__law_titles, f__law_makers := f__law_makers, f__law_span := f__law_span, f__law_around := f__law_around, f__law_fitted := f__law_fitted, f_Span_init := f_Span_init, f_Span_eq := f_Span_eq, f_Span_plus := f_Span_plus, f_copied := f_copied, f_Sheetadd_give := f_Sheetadd_give, f_Sheetadd_maker := f_Sheetadd_maker, f_Sheetadd_piece := f_Sheetadd_piece, f_Sheet_init := f_Sheet_init, f__law_homes := f__law_homes, f__law_got := f__law_got, f_Sheet_homes := f_Sheet_homes, f_Sheet_pieces := f_Sheet_pieces, f_Sheetask_home := f_Sheetask_home, f_Sheetask_piece := f_Sheetask_piece, f_Sheet_got := f_Sheet_got, f_Sheet_yarn := f_Sheet_yarn, f_Sheet_makers := f_Sheet_makers, f__law_made := f__law_made, f_Sheet_waste := f_Sheet_waste, f_Sheet_made_by := f_Sheet_made_by, f_rise_in := f_rise_in, f_want_more := f_want_more, f_must_put := f_must_put, f_put_more := f_put_more, f_bars := f_bars, f__law_free := f__law_free, f__law_waste := f__law_waste, f__law_bars := f__law_bars, f__law_fair := f__law_fair, f_law := f_law, fd__law_pen := _, fd__law_draw := _, fd__law_names := _, fd__law_titles := _, fd__law_makers := _, fd__law_span := _, fd__law_around := _, fd__law_fitted := _, fd_Span_init := _, fd_Span_eq := _, fd_Span_plus := _, fd_copied := _, fd_Sheetadd_give := _, fd_Sheetadd_maker := _, fd_Sheetadd_piece := _, fd_Sheet_init := _, fd__law_homes := _, fd__law_got := _, fd_Sheet_homes := _, fd_Sheet_pieces := _, fd_Sheetask_home := _, fd_Sheetask_piece := _, fd_Sheet_got := _, fd_Sheet_yarn := _, fd_Sheet_makers := _, fd__law_made := _, fd_Sheet_waste := _, fd_Sheet_made_by := _, fd_rise_in := _, fd_want_more := _, fd_must_put := _, fd_put_more := _, fd_bars := _, fd__law_free := _, fd__law_waste := _, fd__law_bars := _, fd__law_fair := _, fd_law := _, mgc_Span := PySem.W.mg_of X G aC_Span, cl_Span := ⟨pg_Span, hd_Span, po_Span, sa_Span⟩, na_Span_least := na_Span_least, na_Span_most := na_Span_most, mk_Span := ⟨mks_Span, a_Span_init, i_Span_init, kc_Span⟩, ne_Span := ne_Span, ha_Span := ha_Span, mo_Span := mo_Span, nF_Span_own := nF_Span_own, ki_Span_own := if_pos (beq_self_eq_true _), mgc_Sheet := PySem.W.mg_of X G aC_Sheet, cl_Sheet := ⟨pg_Sheet, hd_Sheet, po_Sheet, sa_Sheet⟩, na_Sheet__got := na_Sheet__got, na_Sheet__waste := na_Sheet__waste, na_Sheet__yarn := na_Sheet__yarn, na_Sheet__makers := na_Sheet__makers, na_Sheet__made_by := na_Sheet__made_by, mk_Sheet := ⟨mks_Sheet, a_Sheet_init, i_Sheet_init, kc_Sheet⟩, ha_Sheet := ha_Sheet, mo_Sheet := mo_Sheet, nF_Sheet_own := nF_Sheet_own, ki_Sheet_own := if_pos (beq_self_eq_true _), hn := hn, ht := ht, mg__law_pen := PySem.W.mg_of X G a__law_pen, F__law_pen := ⟨⟨_, _, _, _, _, _, _, _, _, _, rfl, l__law_pen, c__law_pen, .inl ⟨rfl, rfl⟩, .inl rfl⟩, k__law_pen⟩, mg__law_draw := PySem.W.mg_of X G a__law_draw, F__law_draw := ⟨⟨_, _, _, _, _, _, _, _, _, _, rfl, l__law_draw, c__law_draw, .inl ⟨rfl, rfl⟩, .inl rfl⟩, k__law_draw⟩, mg__law_names := PySem.W.mg_of X G a__law_names, F__law_names := ⟨⟨_, _, _, _, _, _, _, _, _, _, rfl, l__law_names, c__law_names, .inl ⟨rfl, rfl⟩, .inl rfl⟩, k__law_names⟩, mg__law_titles := PySem.W.mg_of X G a__law_titles, F__law_titles := ⟨⟨_, _, _, _, _, _, _, _, _, _, rfl, l__law_titles, c__law_titles, .inl ⟨rfl, rfl⟩, .inl rfl⟩, k__law_titles⟩, mg__law_makers := PySem.W.mg_of X G a__law_makers, F__law_makers := ⟨⟨_, _, _, _, _, _, _, _, _, _, rfl, l__law_makers, c__law_makers, .inl ⟨rfl, rfl⟩, .inl rfl⟩, k__law_makers⟩, mg__law_span := PySem.W.mg_of X G a__law_span, F__law_span := ⟨⟨_, _, _, _, _, _, _, _, _, _, rfl, l__law_span, c__law_span, .inl ⟨rfl, rfl⟩, .inl rfl⟩, k__law_span⟩, mg__law_around := PySem.W.mg_of X G a__law_around, F__law_around := ⟨⟨_, _, _, _, _, _, _, _, _, _, rfl, l__law_around, c__law_around, .inl ⟨rfl, rfl⟩, .inl rfl⟩, k__law_around⟩, mg__law_fitted := PySem.W.mg_of X G a__law_fitted, F__law_fitted := ⟨⟨_, _, _, _, _, _, _, _, _, _, rfl, l__law_fitted, c__law_fitted, .inl ⟨rfl, rfl⟩, .inl rfl⟩, k__law_fitted⟩, m_Span_init := ⟨a_Span_init, i_Span_init, k_Span_init⟩, F_Span_init := ⟨⟨_, _, _, _, _, _, _, _, _, _, rfl, l_Span_init, c_Span_init, .inr ⟨by simp, T_Span_init, _, [Value.none], _, rfl, lT_Span_init, rfl, .cons rfl .nil⟩, .inl rfl⟩, k_Span_init⟩, m_Span_eq := ⟨a_Span_eq, i_Span_eq, k_Span_eq⟩, F_Span_eq := ⟨⟨_, _, _, _, _, _, _, _, _, _, rfl, l_Span_eq, c_Span_eq, .inl ⟨rfl, rfl⟩, .inl rfl⟩, k_Span_eq⟩, m_Span_plus := ⟨a_Span_plus, i_Span_plus, k_Span_plus⟩, F_Span_plus := ⟨⟨_, _, _, _, _, _, _, _, _, _, rfl, l_Span_plus, c_Span_plus, .inl ⟨rfl, rfl⟩, .inl rfl⟩, k_Span_plus⟩, mg_copied := PySem.W.mg_of X G a_copied, F_copied := ⟨⟨_, _, _, _, _, _, _, _, _, _, rfl, l_copied, c_copied, .inl ⟨rfl, rfl⟩, .inl rfl⟩, k_copied⟩, m_Sheetadd_give := ⟨a_Sheetadd_give, i_Sheetadd_give, k_Sheetadd_give⟩, F_Sheetadd_give := ⟨⟨_, _, _, _, _, _, _, _, _, _, rfl, l_Sheetadd_give, c_Sheetadd_give, .inl ⟨rfl, rfl⟩, .inl rfl⟩, k_Sheetadd_give⟩, m_Sheetadd_maker := ⟨a_Sheetadd_maker, i_Sheetadd_maker, k_Sheetadd_maker⟩, F_Sheetadd_maker := ⟨⟨_, _, _, _, _, _, _, _, _, _, rfl, l_Sheetadd_maker, c_Sheetadd_maker, .inl ⟨rfl, rfl⟩, .inl rfl⟩, k_Sheetadd_maker⟩, m_Sheetadd_piece := ⟨a_Sheetadd_piece, i_Sheetadd_piece, k_Sheetadd_piece⟩, F_Sheetadd_piece := ⟨⟨_, _, _, _, _, _, _, _, _, _, rfl, l_Sheetadd_piece, c_Sheetadd_piece, .inl ⟨rfl, rfl⟩, .inl rfl⟩, k_Sheetadd_piece⟩, m_Sheet_init := ⟨a_Sheet_init, i_Sheet_init, k_Sheet_init⟩, F_Sheet_init := ⟨⟨_, _, _, _, _, _, _, _, _, _, rfl, l_Sheet_init, c_Sheet_init, .inr ⟨by simp, T_Sheet_init, _, [Value.none, Value.none], _, rfl, lT_Sheet_init, rfl, .cons rfl (.cons rfl .nil)⟩, .inl rfl⟩, k_Sheet_init⟩, mg__law_homes := PySem.W.mg_of X G a__law_homes, F__law_homes := ⟨⟨_, _, _, _, _, _, _, _, _, _, rfl, l__law_homes, c__law_homes, .inl ⟨rfl, rfl⟩, .inl rfl⟩, k__law_homes⟩, mg__law_got := PySem.W.mg_of X G a__law_got, F__law_got := ⟨⟨_, _, _, _, _, _, _, _, _, _, rfl, l__law_got, c__law_got, .inl ⟨rfl, rfl⟩, .inl rfl⟩, k__law_got⟩, m_Sheet_homes := ⟨a_Sheet_homes, i_Sheet_homes, k_Sheet_homes⟩, F_Sheet_homes := ⟨⟨_, _, _, _, _, _, _, _, _, _, rfl, l_Sheet_homes, c_Sheet_homes, .inl ⟨rfl, rfl⟩, .inl rfl⟩, k_Sheet_homes⟩, m_Sheet_pieces := ⟨a_Sheet_pieces, i_Sheet_pieces, k_Sheet_pieces⟩, F_Sheet_pieces := ⟨⟨_, _, _, _, _, _, _, _, _, _, rfl, l_Sheet_pieces, c_Sheet_pieces, .inl ⟨rfl, rfl⟩, .inl rfl⟩, k_Sheet_pieces⟩, m_Sheetask_home := ⟨a_Sheetask_home, i_Sheetask_home, k_Sheetask_home⟩, F_Sheetask_home := ⟨⟨_, _, _, _, _, _, _, _, _, _, rfl, l_Sheetask_home, c_Sheetask_home, .inl ⟨rfl, rfl⟩, .inl rfl⟩, k_Sheetask_home⟩, m_Sheetask_piece := ⟨a_Sheetask_piece, i_Sheetask_piece, k_Sheetask_piece⟩, F_Sheetask_piece := ⟨⟨_, _, _, _, _, _, _, _, _, _, rfl, l_Sheetask_piece, c_Sheetask_piece, .inl ⟨rfl, rfl⟩, .inl rfl⟩, k_Sheetask_piece⟩, m_Sheet_got := ⟨a_Sheet_got, i_Sheet_got, k_Sheet_got⟩, F_Sheet_got := ⟨⟨_, _, _, _, _, _, _, _, _, _, rfl, l_Sheet_got, c_Sheet_got, .inl ⟨rfl, rfl⟩, .inl rfl⟩, k_Sheet_got⟩, m_Sheet_yarn := ⟨a_Sheet_yarn, i_Sheet_yarn, k_Sheet_yarn⟩, F_Sheet_yarn := ⟨⟨_, _, _, _, _, _, _, _, _, _, rfl, l_Sheet_yarn, c_Sheet_yarn, .inl ⟨rfl, rfl⟩, .inl rfl⟩, k_Sheet_yarn⟩, m_Sheet_makers := ⟨a_Sheet_makers, i_Sheet_makers, k_Sheet_makers⟩, F_Sheet_makers := ⟨⟨_, _, _, _, _, _, _, _, _, _, rfl, l_Sheet_makers, c_Sheet_makers, .inl ⟨rfl, rfl⟩, .inl rfl⟩, k_Sheet_makers⟩, mg__law_made := PySem.W.mg_of X G a__law_made, F__law_made := ⟨⟨_, _, _, _, _, _, _, _, _, _, rfl, l__law_made, c__law_made, .inl ⟨rfl, rfl⟩, .inl rfl⟩, k__law_made⟩, m_Sheet_waste := ⟨a_Sheet_waste, i_Sheet_waste, k_Sheet_waste⟩, F_Sheet_waste := ⟨⟨_, _, _, _, _, _, _, _, _, _, rfl, l_Sheet_waste, c_Sheet_waste, .inl ⟨rfl, rfl⟩, .inl rfl⟩, k_Sheet_waste⟩, m_Sheet_made_by := ⟨a_Sheet_made_by, i_Sheet_made_by, k_Sheet_made_by⟩, F_Sheet_made_by := ⟨⟨_, _, _, _, _, _, _, _, _, _, rfl, l_Sheet_made_by, c_Sheet_made_by, .inl ⟨rfl, rfl⟩, .inl rfl⟩, k_Sheet_made_by⟩, mg_rise_in := PySem.W.mg_of X G a_rise_in, F_rise_in := ⟨⟨_, _, _, _, _, _, _, _, _, _, rfl, l_rise_in, c_rise_in, .inl ⟨rfl, rfl⟩, .inl rfl⟩, k_rise_in⟩, mg_want_more := PySem.W.mg_of X G a_want_more, F_want_more := ⟨⟨_, _, _, _, _, _, _, _, _, _, rfl, l_want_more, c_want_more, .inl ⟨rfl, rfl⟩, .inl rfl⟩, k_want_more⟩, mg_must_put := PySem.W.mg_of X G a_must_put, F_must_put := ⟨⟨_, _, _, _, _, _, _, _, _, _, rfl, l_must_put, c_must_put, .inl ⟨rfl, rfl⟩, .inl rfl⟩, k_must_put⟩, mg_put_more := PySem.W.mg_of X G a_put_more, F_put_more := ⟨⟨_, _, _, _, _, _, _, _, _, _, rfl, l_put_more, c_put_more, .inl ⟨rfl, rfl⟩, .inl rfl⟩, k_put_more⟩, mg_bars := PySem.W.mg_of X G a_bars, F_bars := ⟨⟨_, _, _, _, _, _, _, _, _, _, rfl, l_bars, c_bars, .inr ⟨by simp, T_bars, _, [Value.none], _, rfl, lT_bars, rfl, .cons rfl .nil⟩, .inl rfl⟩, k_bars⟩, mg__law_free := PySem.W.mg_of X G a__law_free, F__law_free := ⟨⟨_, _, _, _, _, _, _, _, _, _, rfl, l__law_free, c__law_free, .inl ⟨rfl, rfl⟩, .inl rfl⟩, k__law_free⟩, mg__law_waste := PySem.W.mg_of X G a__law_waste, F__law_waste := ⟨⟨_, _, _, _, _, _, _, _, _, _, rfl, l__law_waste, c__law_waste, .inl ⟨rfl, rfl⟩, .inl rfl⟩, k__law_waste⟩, mg__law_bars := PySem.W.mg_of X G a__law_bars, F__law_bars := ⟨⟨_, _, _, _, _, _, _, _, _, _, rfl, l__law_bars, c__law_bars, .inl ⟨rfl, rfl⟩, .inl rfl⟩, k__law_bars⟩, mg__law_fair := PySem.W.mg_of X G a__law_fair, F__law_fair := ⟨⟨_, _, _, _, _, _, _, _, _, _, rfl, l__law_fair, c__law_fair, .inl ⟨rfl, rfl⟩, .inl rfl⟩, k__law_fair⟩, mg_law := PySem.W.mg_of X G a_law, F_law := ⟨⟨_, _, _, _, _, _, _, _, _, _, rfl, l_law, c_law, .inl ⟨rfl, rfl⟩, .inl rfl⟩, k_law⟩, b_abs := PySem.W.mg_none_of X G z_abs, b_bool := PySem.W.mg_none_of X G z_bool, b_isinstance := PySem.W.mg_none_of X G z_isinstance, b_len := PySem.W.mg_none_of X G z_len, b_list := PySem.W.mg_none_of X G z_list, b_max := PySem.W.mg_none_of X G z_max, b_min := PySem.W.mg_none_of X G z_min, b_range := PySem.W.mg_none_of X G z_range, b_set := PySem.W.mg_none_of X G z_set, b_sorted := PySem.W.mg_none_of X G z_sorted, b_sum := PySem.W.mg_none_of X G z_sum, b_tuple := PySem.W.mg_none_of X G z_tuple }, e.symm, fun s v => .of_eq rfl⟩
  obtain ⟨T, rfl, hb⟩ := T
  exact ⟨T.fd_law, hb, fun base _ _ => ok_law T⟩
theorem walk {l : PySem.W.OpenLaw} {q : Program} {loose : List Str} {XP : (Str → Option Value) → Heap → Prop} {YP : World → Heap → Prop} {d : DefRec} {K : Params → PySem.W.Frag} (hn : l.most = some 63) (hdf : d.params.defaults = [])
    (hY : ∀ (w : World) (h : Heap), YP w h → (K w.params).In h)
    (F : ∀ (w : World) (mg : Str → Option Value) (fa : Addr) (h : Heap), (K w.params).In h → h.Ns mainGlobals mg → mg d.name = some (.ref fa) →
      ∃ fd : FuncData, (∀ (s : Shared) (u : Value), BindsTo s fd ⟨[u], []⟩ [("script", u)]) ∧ ∀ base : Heap, (K w.params).In base → base.Ns mainGlobals mg → FnOk l.prog w (K w.params) mg base CX0 11 fa fd ["script"] (sp_law0 (K w.params))) :
    PySem.W.WalkO q loose XP YP l.row.toRowW d [] (fun f vs => PySem.call f vs) :=
  L2.walk_of (n := 63) (k := 11) (x := "script") (CX := fun _ => CX0) (sp := fun w => sp_law0 (K w.params)) hn (by decide) hdf ⟨rfl, by decide, by decide⟩ hY F (fun _ _ a ns hl _ hS => ⟨a, ns, rfl, hS, hl, fun _ => rfl⟩) fun _ _ _ _ _ z => z
end Law
open PySem PySem.W PyProof.Rows
set_option maxRecDepth 100000 in
set_option maxHeartbeats 0 in
theorem PySem.Challenge.cw_yarnback_k21_homes_that_are_over_holds : PySem.Challenge.rw_yarnback_k21_homes_that_are_over.Holds := by
  w_on; o_law; k_head; (case hw => w_witness2)
  k_fill
  refine Law.walk (l := PySem.Challenge.rw_yarnback_k21_homes_that_are_over) rfl rfl (fun w h Y => PySem.W.kIn_of Y) ?F
  case F =>
    intro w mg fa h KX G hmg
    refine' Law.all_mk KX G hmg ?aC_Span ?pg_Span ?hd_Span ?po_Span ?sa_Span ?na_Span_least ?na_Span_most ?mks_Span ?kc_Span ?ne_Span ?ha_Span ?mo_Span ?nF_Span_own ?ic_Span ?ty_Span ?aC_Sheet ?pg_Sheet ?hd_Sheet ?po_Sheet ?sa_Sheet ?na_Sheet__got ?na_Sheet__waste ?na_Sheet__yarn ?na_Sheet__makers ?na_Sheet__made_by ?mks_Sheet ?kc_Sheet ?ha_Sheet ?mo_Sheet ?nF_Sheet_own ?ic_Sheet ?ty_Sheet ?hn ?ht ?a__law_pen ?l__law_pen ?c__law_pen ?k__law_pen ?a__law_draw ?l__law_draw ?c__law_draw ?k__law_draw ?a__law_names ?l__law_names ?c__law_names ?k__law_names ?a__law_titles ?l__law_titles ?c__law_titles ?k__law_titles ?a__law_makers ?l__law_makers ?c__law_makers ?k__law_makers ?a__law_span ?l__law_span ?c__law_span ?k__law_span ?a__law_around ?l__law_around ?c__law_around ?k__law_around ?a__law_fitted ?l__law_fitted ?c__law_fitted ?k__law_fitted ?a_Span_init ?i_Span_init ?l_Span_init ?c_Span_init ?k_Span_init ?lT_Span_init ?a_Span_eq ?i_Span_eq ?l_Span_eq ?c_Span_eq ?k_Span_eq ?a_Span_plus ?i_Span_plus ?l_Span_plus ?c_Span_plus ?k_Span_plus ?a_copied ?l_copied ?c_copied ?k_copied ?a_Sheetadd_give ?i_Sheetadd_give ?l_Sheetadd_give ?c_Sheetadd_give ?k_Sheetadd_give ?a_Sheetadd_maker ?i_Sheetadd_maker ?l_Sheetadd_maker ?c_Sheetadd_maker ?k_Sheetadd_maker ?a_Sheetadd_piece ?i_Sheetadd_piece ?l_Sheetadd_piece ?c_Sheetadd_piece ?k_Sheetadd_piece ?a_Sheet_init ?i_Sheet_init ?l_Sheet_init ?c_Sheet_init ?k_Sheet_init ?lT_Sheet_init ?a__law_homes ?l__law_homes ?c__law_homes ?k__law_homes ?a__law_got ?l__law_got ?c__law_got ?k__law_got ?a_Sheet_homes ?i_Sheet_homes ?l_Sheet_homes ?c_Sheet_homes ?k_Sheet_homes ?a_Sheet_pieces ?i_Sheet_pieces ?l_Sheet_pieces ?c_Sheet_pieces ?k_Sheet_pieces ?a_Sheetask_home ?i_Sheetask_home ?l_Sheetask_home ?c_Sheetask_home ?k_Sheetask_home ?a_Sheetask_piece ?i_Sheetask_piece ?l_Sheetask_piece ?c_Sheetask_piece ?k_Sheetask_piece ?a_Sheet_got ?i_Sheet_got ?l_Sheet_got ?c_Sheet_got ?k_Sheet_got ?a_Sheet_yarn ?i_Sheet_yarn ?l_Sheet_yarn ?c_Sheet_yarn ?k_Sheet_yarn ?a_Sheet_makers ?i_Sheet_makers ?l_Sheet_makers ?c_Sheet_makers ?k_Sheet_makers ?a__law_made ?l__law_made ?c__law_made ?k__law_made ?a_Sheet_waste ?i_Sheet_waste ?l_Sheet_waste ?c_Sheet_waste ?k_Sheet_waste ?a_Sheet_made_by ?i_Sheet_made_by ?l_Sheet_made_by ?c_Sheet_made_by ?k_Sheet_made_by ?a_rise_in ?l_rise_in ?c_rise_in ?k_rise_in ?a_want_more ?l_want_more ?c_want_more ?k_want_more ?a_must_put ?l_must_put ?c_must_put ?k_must_put ?a_put_more ?l_put_more ?c_put_more ?k_put_more ?a_bars ?l_bars ?c_bars ?k_bars ?lT_bars ?a__law_free ?l__law_free ?c__law_free ?k__law_free ?a__law_waste ?l__law_waste ?c__law_waste ?k__law_waste ?a__law_bars ?l__law_bars ?c__law_bars ?k__law_bars ?a__law_fair ?l__law_fair ?c__law_fair ?k__law_fair ?a_law ?l_law ?c_law ?k_law ?z_abs ?z_bool ?z_isinstance ?z_len ?z_list ?z_max ?z_min ?z_range ?z_set ?z_sorted ?z_sum ?z_tuple
    (case aC_Span => k_is)
    (case pg_Span => k_is)
    (case hd_Span => k_is)
    (case po_Span => k_is)
    (case sa_Span => k_is)
    (case na_Span_least => k_is)
    (case na_Span_most => k_is)
    (case mks_Span => k_is)
    (case kc_Span => k_is)
    (case ne_Span => k_is)
    (case ha_Span => k_is)
    (case mo_Span => k_is)
    (case nF_Span_own => k_is)
    (case ic_Span => k_is)
    (case ty_Span => k_is)
    (case aC_Sheet => k_is)
    (case pg_Sheet => k_is)
    (case hd_Sheet => k_is)
    (case po_Sheet => k_is)
    (case sa_Sheet => k_is)
    (case na_Sheet__got => k_is)
    (case na_Sheet__waste => k_is)
    (case na_Sheet__yarn => k_is)
    (case na_Sheet__makers => k_is)
    (case na_Sheet__made_by => k_is)
    (case mks_Sheet => k_is)
    (case kc_Sheet => k_is)
    (case ha_Sheet => k_is)
    (case mo_Sheet => k_is)
    (case nF_Sheet_own => k_is)
    (case ic_Sheet => k_is)
    (case ty_Sheet => k_is)
    (case hn => k_is)
    (case ht => k_is)
    (case a__law_pen => k_is)
    (case l__law_pen => k_is)
    (case c__law_pen => k_is)
    (case k__law_pen => k_is)
    (case a__law_draw => k_is)
    (case l__law_draw => k_is)
    (case c__law_draw => k_is)
    (case k__law_draw => k_is)
    (case a__law_names => k_is)
    (case l__law_names => k_is)
    (case c__law_names => k_is)
    (case k__law_names => k_is)
    (case a__law_titles => k_is)
    (case l__law_titles => k_is)
    (case c__law_titles => k_is)
    (case k__law_titles => k_is)
    (case a__law_makers => k_is)
    (case l__law_makers => k_is)
    (case c__law_makers => k_is)
    (case k__law_makers => k_is)
    (case a__law_span => k_is)
    (case l__law_span => k_is)
    (case c__law_span => k_is)
    (case k__law_span => k_is)
    (case a__law_around => k_is)
    (case l__law_around => k_is)
    (case c__law_around => k_is)
    (case k__law_around => k_is)
    (case a__law_fitted => k_is)
    (case l__law_fitted => k_is)
    (case c__law_fitted => k_is)
    (case k__law_fitted => k_is)
    (case a_Span_init => k_is)
    (case i_Span_init => k_is)
    (case l_Span_init => k_is)
    (case c_Span_init => k_is)
    (case k_Span_init => k_is)
    (case lT_Span_init => k_is)
    (case a_Span_eq => k_is)
    (case i_Span_eq => k_is)
    (case l_Span_eq => k_is)
    (case c_Span_eq => k_is)
    (case k_Span_eq => k_is)
    (case a_Span_plus => k_is)
    (case i_Span_plus => k_is)
    (case l_Span_plus => k_is)
    (case c_Span_plus => k_is)
    (case k_Span_plus => k_is)
    (case a_copied => k_is)
    (case l_copied => k_is)
    (case c_copied => k_is)
    (case k_copied => k_is)
    (case a_Sheetadd_give => k_is)
    (case i_Sheetadd_give => k_is)
    (case l_Sheetadd_give => k_is)
    (case c_Sheetadd_give => k_is)
    (case k_Sheetadd_give => k_is)
    (case a_Sheetadd_maker => k_is)
    (case i_Sheetadd_maker => k_is)
    (case l_Sheetadd_maker => k_is)
    (case c_Sheetadd_maker => k_is)
    (case k_Sheetadd_maker => k_is)
    (case a_Sheetadd_piece => k_is)
    (case i_Sheetadd_piece => k_is)
    (case l_Sheetadd_piece => k_is)
    (case c_Sheetadd_piece => k_is)
    (case k_Sheetadd_piece => k_is)
    (case a_Sheet_init => k_is)
    (case i_Sheet_init => k_is)
    (case l_Sheet_init => k_is)
    (case c_Sheet_init => k_is)
    (case k_Sheet_init => k_is)
    (case lT_Sheet_init => k_is)
    (case a__law_homes => k_is)
    (case l__law_homes => k_is)
    (case c__law_homes => k_is)
    (case k__law_homes => k_is)
    (case a__law_got => k_is)
    (case l__law_got => k_is)
    (case c__law_got => k_is)
    (case k__law_got => k_is)
    (case a_Sheet_homes => k_is)
    (case i_Sheet_homes => k_is)
    (case l_Sheet_homes => k_is)
    (case c_Sheet_homes => k_is)
    (case k_Sheet_homes => k_is)
    (case a_Sheet_pieces => k_is)
    (case i_Sheet_pieces => k_is)
    (case l_Sheet_pieces => k_is)
    (case c_Sheet_pieces => k_is)
    (case k_Sheet_pieces => k_is)
    (case a_Sheetask_home => k_is)
    (case i_Sheetask_home => k_is)
    (case l_Sheetask_home => k_is)
    (case c_Sheetask_home => k_is)
    (case k_Sheetask_home => k_is)
    (case a_Sheetask_piece => k_is)
    (case i_Sheetask_piece => k_is)
    (case l_Sheetask_piece => k_is)
    (case c_Sheetask_piece => k_is)
    (case k_Sheetask_piece => k_is)
    (case a_Sheet_got => k_is)
    (case i_Sheet_got => k_is)
    (case l_Sheet_got => k_is)
    (case c_Sheet_got => k_is)
    (case k_Sheet_got => k_is)
    (case a_Sheet_yarn => k_is)
    (case i_Sheet_yarn => k_is)
    (case l_Sheet_yarn => k_is)
    (case c_Sheet_yarn => k_is)
    (case k_Sheet_yarn => k_is)
    (case a_Sheet_makers => k_is)
    (case i_Sheet_makers => k_is)
    (case l_Sheet_makers => k_is)
    (case c_Sheet_makers => k_is)
    (case k_Sheet_makers => k_is)
    (case a__law_made => k_is)
    (case l__law_made => k_is)
    (case c__law_made => k_is)
    (case k__law_made => k_is)
    (case a_Sheet_waste => k_is)
    (case i_Sheet_waste => k_is)
    (case l_Sheet_waste => k_is)
    (case c_Sheet_waste => k_is)
    (case k_Sheet_waste => k_is)
    (case a_Sheet_made_by => k_is)
    (case i_Sheet_made_by => k_is)
    (case l_Sheet_made_by => k_is)
    (case c_Sheet_made_by => k_is)
    (case k_Sheet_made_by => k_is)
    (case a_rise_in => k_is)
    (case l_rise_in => k_is)
    (case c_rise_in => k_is)
    (case k_rise_in => k_is)
    (case a_want_more => k_is)
    (case l_want_more => k_is)
    (case c_want_more => k_is)
    (case k_want_more => k_is)
    (case a_must_put => k_is)
    (case l_must_put => k_is)
    (case c_must_put => k_is)
    (case k_must_put => k_is)
    (case a_put_more => k_is)
    (case l_put_more => k_is)
    (case c_put_more => k_is)
    (case k_put_more => k_is)
    (case a_bars => k_is)
    (case l_bars => k_is)
    (case c_bars => k_is)
    (case k_bars => k_is)
    (case lT_bars => k_is)
    (case a__law_free => k_is)
    (case l__law_free => k_is)
    (case c__law_free => k_is)
    (case k__law_free => k_is)
    (case a__law_waste => k_is)
    (case l__law_waste => k_is)
    (case c__law_waste => k_is)
    (case k__law_waste => k_is)
    (case a__law_bars => k_is)
    (case l__law_bars => k_is)
    (case c__law_bars => k_is)
    (case k__law_bars => k_is)
    (case a__law_fair => k_is)
    (case l__law_fair => k_is)
    (case c__law_fair => k_is)
    (case k__law_fair => k_is)
    (case a_law => k_is)
    (case l_law => k_is)
    (case c_law => k_is)
    (case k_law => k_is)
    (case z_abs => k_is)
    (case z_bool => k_is)
    (case z_isinstance => k_is)
    (case z_len => k_is)
    (case z_list => k_is)
    (case z_max => k_is)
    (case z_min => k_is)
    (case z_range => k_is)
    (case z_set => k_is)
    (case z_sorted => k_is)
    (case z_sum => k_is)
    (case z_tuple => k_is)
