import PyProof.Rows.All
import Wide.All
import OpenK.AllK
import Wide.FinOn
import HandS.ForMost
import HandS.Defaults
import HandS.MakeKw
import HandS.MakeKwOnly
import HandS.Wide
import HandS.Flow
import HandS.Style
import HandS.IsInst
import HandS.StrMore
import HandS.Codes
import KE.KCallOwn
import KE.KFmtOwn
import PySem.Challenge.RW_yarnback_k05_weighings_and_oil
set_option Elab.async false
set_option linter.all false
set_option maxRecDepth 100000
set_option maxHeartbeats 4000000
namespace Yarn
open PySem PySem.Spec PyProof.Rows L2

/-! ### closing a reading upwards: what holds of a continuation holds of a weaker one -/
def clA (t : TA) : TA := fun σ H K => ∃ K0, t σ H K0 ∧ ∀ xs H1, K0 xs H1 → K xs H1
def clE (t : TE) : TE := fun σ H K => ∃ K0, t σ H K0 ∧ ∀ x H1, K0 x H1 → K x H1
section
variable {X : Cx}
theorem PA.cl {es : List Expr} {t : TA} (h : PA X es t) : PA X es (clA t) := ⟨fun pos pins s σ H Q I q => by
  obtain ⟨K0, q0, m⟩ := q
  exact thn (h.run pos pins s σ H K0 I q0) fun us s1 ⟨vs, H1, I1, r, z⟩ => ⟨vs, H1, I1, r, m _ _ z⟩⟩
theorem PK.cl {ks : List Keyword} {t : TA} (h : PK X ks t) : PK X ks (clA t) := ⟨fun pos pins s σ H Q I q => by
  obtain ⟨K0, q0, m⟩ := q
  exact thn (h.run pos pins s σ H K0 I q0) fun us s1 ⟨vs, H1, I1, r, z⟩ => ⟨vs, H1, I1, r, m _ _ z⟩⟩
theorem PE.cl {e : Expr} {t : TE} (h : PE X e t) : PE X e (clE t) := ⟨fun pins s σ H Q I q => by
  obtain ⟨K0, q0, m⟩ := q
  exact thn (h.run pins s σ H K0 I q0) fun u s1 ⟨x, H1, I1, r, z⟩ => ⟨x, H1, I1, r, m _ _ z⟩⟩
theorem PE.weak {e : Expr} {t t' : TE} (h : PE X e t) (m : ∀ σ H Q, t' σ H Q → t σ H Q) : PE X e t' := ⟨fun pins s σ H Q I q => h.run pins s σ H Q I (m σ H Q q)⟩
theorem PS.weak {e : Stmt} {t t' : TS} (h : PS X e t) (m : ∀ D σ H, t' D σ H → t D σ H) : PS X e t' := ⟨fun pins s σ H D I q => h.run pins s σ H D I (m D σ H q)⟩
end

/-! ### what a step keeps -/
/-- all but the object at p -/
def But (p : Addr) (H H' : Hp) : Prop := ∀ a o, a ≠ p → H a = some o → H' a = some o
theorem But.trans {p : Addr} {H H1 H2 : Hp} (a : But p H H1) (b : But p H1 H2) : But p H H2 := fun c o h e => b c o h (a c o h e)
theorem same_but {p : Addr} {H H1 : Hp} (a : Same H H1) : But p H H1 := fun c o _ e => a c o e
theorem same_upd {H : Hp} {p : Addr} {o : HO} (h : H p = none) : Same H (upd H p o) := fun a u e => by rw [upd_ne (ne_of_none e h)]; exact e
theorem but_upd {H : Hp} {p : Addr} {o : HO} : But p H (upd H p o) := fun a u h e => by rw [upd_ne h]; exact e
/-- an object is made at x (new), and then filled -/
theorem same_new {H H1 H2 : Hp} {x : Addr} (n : H x = none) (s : Same H H1) (b : But x H1 H2) : Same H H2 := fun a o e => b a o (ne_of_none e n) (s a o e)

/-! ### displays, by what the heap behind them keeps -/
def tLstY (t : TA) : TE := fun σ H Q => t σ H fun xs H1 => xs.length ≤ sizeLine ∧ ∀ p H2, H1 p = none → Same H1 H2 → H2 p = some (.lst xs) → Q (.ref p) H2
def tTupY (t : TA) : TE := fun σ H Q => t σ H fun xs H1 => xs.length ≤ sizeLine ∧ ∀ p H2, H1 p = none → Same H1 H2 → H2 p = some (.tup xs) → Q (.ref p) H2
section
variable {X : Cx} {es : List Expr} {t : TA} {pos : Pos}
theorem pe_lstY (h : PA X es t) : PE X (.List es pos) (tLstY t) :=
  PE.weak (pe_lst (PA.cl h)) fun σ H Q q => ⟨_, q, fun xs H1 z => ⟨z.1, fun p hp => z.2 p _ hp (same_upd hp) upd_same⟩⟩
theorem pe_tupY {x1} (h : PA X es t) : PE X (.Tuple es x1 pos) (tTupY t) :=
  PE.weak (pe_tup (PA.cl h)) fun σ H Q q => ⟨_, q, fun xs H1 z => ⟨z.1, fun p hp => z.2 p _ hp (same_upd hp) upd_same⟩⟩
end

/-! ### a slice of a list -/
def rSlLY (K : PySem.W.Frag) : V → Option Int → Option Int → Hp → VK → Prop := fun x lo hi H Q => ∃ a xs, x = .ref a ∧ SqL K H a xs ∧ ∀ p H2, H p = none → Same H H2 → H2 p = some (.lst (cutV xs lo hi)) → Q (.ref p) H2

/-! ### an instance is made -/
def tMakeY (C : Addr) (sp : Sp) (dvs : List V) (E : XK) (t : TA) : TE := fun σ H Q => t σ H fun vs H1 => ∀ x dx H2, H1 x = none → dx ≠ x → Same H1 H2 → H2 x = some (.ins C dx []) →
  sp (.ref x :: (vs ++ dvs)) H2 (fun v H3 => v = .non ∧ Q (.ref x) H3) E
def tMakeNY (C : Addr) (n m : Nat) (sp : Sp) (gV : List V → List V → List V) (E : XK) (t tk : TA) : TE := fun σ H Q => t σ H fun vs H1 => tk σ H1 fun zs H2 => vs.length = n ∧ zs.length = m ∧
  ∀ x dx H3, H2 x = none → dx ≠ x → Same H2 H3 → H3 x = some (.ins C dx []) → sp (gV (.ref x :: vs) zs) H3 (fun v H4 => v = .non ∧ Q (.ref x) H4) E
section
variable {X : Cx} {CX : CXT} {k n : Nat} {f C : Addr} {fd : FuncData} {ps ks : List Str} {sp : Sp} {E : XK} {dvs : List V} {ds : List Value} {x : Str} {p pos : Pos} {e : Expr} {es : List Expr} {kws : List Keyword} {t tk : TA} {g : List Value → List Value → List Value} {gV : List V → List V → List V}
theorem same_made {H : Hp} {x dx : Addr} (hx : H x = none) (hd : H dx = none) (ne : dx ≠ x) : Same H (upd (upd H dx (.own x)) x (.ins C dx [])) := fun a o z => by
  rw [upd_ne (ne_of_none z hx), upd_ne (ne_of_none z hd)]
  exact z
theorem pe_makeY (M : Mk X.K C f) (F : FnOk X.prog X.w X.K X.mg X.base CX k f fd ps sp) (hr : Room (k + 1) X.A) (hg : Gl X x) (hm : X.mg x = some (.ref C)) (hb : Binds X.K fd ps ds) (hd : Vals dvs ds) (hx : Passes CX X E) (ha : PA X (e :: es) t)
    (hdb : (x == ("__debug__" : Str)) = false := by decide)
    (he : starEach (e :: es) X.env = (false, eval e X.env) :: starEach es X.env := by rfl) (hpl : (backTo pos (starEach es X.env)).any (·.1) = false := by rfl) :
    PE X (.Call (.Name x p) (e :: es) [] pos) (tMakeY C sp dvs E t) :=
  PE.weak (pe_make M F hr hg hm hb hd hx (PA.cl ha) hdb he hpl) fun σ H Q q => ⟨_, q, fun vs H1 z y dy h1 h2 h3 => z y dy _ h1 h3 (same_made h1 h2 h3) upd_same⟩
theorem pe_makeY0 (M : Mk X.K C f) (F : FnOk X.prog X.w X.K X.mg X.base CX k f fd ps sp) (hr : Room (k + 1) X.A) (hg : Gl X x) (hm : X.mg x = some (.ref C)) (hb : Binds X.K fd ps ds) (hd : Vals dvs ds) (hx : Passes CX X E)
    (hdb : (x == ("__debug__" : Str)) = false := by decide) :
    PE X (.Call (.Name x p) [] [] pos) (tMakeY C sp dvs E tNil) :=
  PE.weak (pe_make0 M F hr hg hm hb hd hx hdb) fun σ H Q q => fun y dy h1 h2 h3 => q y dy _ h1 h3 (same_made h1 h2 h3) upd_same
theorem pe_makeNY (M : Mk X.K C f) (F : FnOk X.prog X.w X.K X.mg X.base CX k f fd ps sp) (hr : Room (k + 1) X.A) (hg : Gl X x) (hm : X.mg x = some (.ref C)) (hb : KBn X.K fd ps (n + 1) ks g gV) (hx : Passes CX X E)
    (ha : PA X (e :: es) t) (hkw : PK X kws tk) (hall : (backToKw pos (keywordEach kws X.env)).all (·.1.isSome) = true := by rfl) (hks : (backToKw pos (keywordEach kws X.env)).filterMap (·.1) = ks := by rfl)
    (hdb : (x == ("__debug__" : Str)) = false := by decide) (he : starEach (e :: es) X.env = (false, eval e X.env) :: starEach es X.env := by rfl)
    (hpl : ((backTo pos (starEach (e :: es) X.env)).any (·.1) || (backToKw pos (keywordEach kws X.env)).any (·.1.isNone)) = false := by rfl) :
    PE X (.Call (.Name x p) (e :: es) kws pos) (tMakeNY C n ks.length sp gV E t tk) :=
  PE.weak (pe_makeN M F hr hg hm hb hx (PA.cl ha) (PK.cl hkw) hall hks hdb he hpl) fun σ H Q q =>
    ⟨_, q, fun vs H1 z => ⟨_, z, fun zs H2 ⟨l1, l2, w⟩ => ⟨l1, l2, fun y dy h1 h2 h3 => w y dy _ h1 h3 (same_made h1 h2 h3) upd_same⟩⟩⟩
theorem pe_makeKY (M : Mk X.K C f) (F : FnOk X.prog X.w X.K X.mg X.base CX k f fd ps sp) (hr : Room (k + 1) X.A) (hg : Gl X x) (hm : X.mg x = some (.ref C)) (hb : KBn X.K fd ps 1 ks g gV) (hx : Passes CX X E) (hkw : PK X kws tk)
    (hall : (backToKw pos (keywordEach kws X.env)).all (·.1.isSome) = true := by rfl) (hks : (backToKw pos (keywordEach kws X.env)).filterMap (·.1) = ks := by rfl) (hdb : (x == ("__debug__" : Str)) = false := by decide)
    (hpl : ((backTo pos (starEach [] X.env)).any (·.1) || (backToKw pos (keywordEach kws X.env)).any (·.1.isNone)) = false := by rfl) :
    PE X (.Call (.Name x p) [] kws pos) (tMakeNY C 0 ks.length sp gV E tNil tk) :=
  PE.weak (pe_makeK0 M F hr hg hm hb hx (PK.cl hkw) hall hks hdb hpl) fun σ H Q q =>
    ⟨_, q, fun zs H2 ⟨l1, l2, w⟩ => ⟨l1, l2, fun y dy h1 h2 h3 => w y dy _ h1 h3 (same_made h1 h2 h3) upd_same⟩⟩
end

/-! ### a field is stored -/
def sFldY (K : PySem.W.Frag) (ta tv : TE) (f : Str) : TS := fun D σ H => tv σ H fun y H1 => ta σ H1 fun x H2 => ∃ a C dx fs, x = .ref a ∧ H2 a = some (.ins C dx fs) ∧ Cls K C ∧ NoAttr K C f ∧ fs.length < 1000 ∧
  ∀ H3, But a H2 H3 → H3 a = some (.ins C dx (putF f y fs)) → D.nx σ H3
theorem ps_fldY {X : Cx} {o value : Expr} {f : Str} {pos pos' : Pos} {ta tv : TE} (ha : PE X o ta) (hv : PE X value tv) (hs : swapsWith value (some (.Attribute o f pos')) pos.line X.env = pure false) :
    PS X (.Assign [.Attribute o f pos'] value pos) (sFldY X.K ta tv f) :=
  PS.weak (ps_fld (PE.cl ha) (PE.cl hv) hs) fun D σ H q => ⟨_, q, fun y H1 z => ⟨_, z, fun x H2 ⟨a, C, dx, fs, e, h, c, n, l, w⟩ => ⟨a, C, dx, fs, e, h, c, n, l, w _ but_upd upd_same⟩⟩⟩
end Yarn

set_option Elab.async false
set_option linter.all false
set_option maxRecDepth 100000
set_option maxHeartbeats 4000000
namespace Yarn
open PySem PySem.Spec PyProof.Rows L2

section
variable {X : Cx} {CX : CXT} {pins : List (Addr × Obj)} {σ : L2.St} {H : Hp} {s : Shared} {C f : Addr} {fd : FuncData} {ps : List Str} {sp : Sp} {E : XK} {n : Nat}
/-- a def of the text runs somewhere below the running body -/
theorem at_fn {A : Around} {Q : VK} {us : List Value} {vs : List V} (F : FnOk X.prog X.w X.K X.mg X.base CX n f fd ps sp) (hr : Room n A) (e0 : Env0 X.prog X.w X.K X.mg X.base A X.stack s H)
    (hb : Binds X.K fd ps []) (hx : Passes CX X E) (I : Inv X pins σ H s) (r : Vals vs us) (h : sp vs H Q E) :
    wpAny (model X.prog X.w) A (call (.ref f) us) (EP X pins σ Q) X.xe s := by
  have hl := F.len _ _ _ _ h
  have hb' : BindsTo s fd ⟨us, []⟩ (ps.zip us) := by
    have z := hb s us I.kIn (by rw [List.append_nil, ← r.length]; exact hl)
    rw [List.append_nil] at z
    exact z
  refine wpAny_call (codeAny_mono (F.run A X.stack s H ⟨us, []⟩ us vs Q E hr e0 hb' r h) fun r s' hq => ?_)
  cases r with
  | error e => exact hx pins σ H s e s' I hq
  | ok fl =>
    cases fl with
    | ret u => exact I.after hq
    | next => exact hq.elim
    | brk => exact hq.elim
    | cont => exact hq.elim
theorem room_in1 {A : Around} (h : Room (n + 1) A) : Room n A.in1 := h.in1

/-! ### == and != by an own __eq__ -/
/-- the class of a value as it is looked up -/
inductive ClOf (H : Hp) : V → Value → Prop where
  | non : ClOf H .non (.type "NoneType")
  | bl (b : Bool) : ClOf H (.bl b) (.type "bool")
  | int (i : Int) : ClOf H (.int i) (.type "int")
  | str (x : Str) : ClOf H (.str x) (.type "str")
  | tup {a : Addr} {xs : List V} (e : H a = some (.tup xs)) : ClOf H (.ref a) (.type "tuple")
  | lst {a : Addr} {xs : List V} (e : H a = some (.lst xs)) : ClOf H (.ref a) (.type "list")
  | ins {a C dx : Addr} {fs : List (Str × V)} (e : H a = some (.ins C dx fs)) : ClOf H (.ref a) (.ref C)
theorem looks_cls {M : Model} {h : Heap} {a : Addr} {o : Obj} (e : h.get? a = some o) : PySem.W.Looks M h (typeOf (.ref a)) o.cls := fun A Q E s k q => wpAny_typeOf_ref (k _ _ e) q
theorem ClOf.looks {M : Model} {y : V} {u t : Value} (I : Inv X pins σ H s) (r : RelV y u) (c : ClOf H y t) : PySem.W.Looks M s.heap (typeOf u) t := by
  cases c with
  | non => cases (show u = Value.none from r); exact PySem.W.Looks.of_pure rfl
  | bl b => cases (show u = Value.bool b from r); exact PySem.W.Looks.of_pure rfl
  | int i => obtain ⟨t, q⟩ := (show ∃ t, u = Value.int i t from r); cases q; exact PySem.W.Looks.of_pure rfl
  | str x => obtain ⟨t, q⟩ := (show ∃ t, u = Value.str x t from r); cases q; exact PySem.W.Looks.of_pure rfl
  | @tup a xs ea =>
    cases (show u = Value.ref a from r)
    obtain ⟨_, _, _, o, h1, h2, _⟩ := (show ObjOk X.prog X.w H s.heap a (.tup xs) from I.hok a _ ea)
    rw [← h2]
    exact looks_cls h1
  | @lst a xs ea =>
    cases (show u = Value.ref a from r)
    obtain ⟨_, _, m, _, h1⟩ := (show ObjOk X.prog X.w H s.heap a (.lst xs) from I.hok a _ ea)
    exact looks_cls h1
  | @ins a C dx fs ea =>
    cases (show u = Value.ref a from r)
    obtain ⟨mA, O, _⟩ := ins_get I.hok ea
    obtain ⟨od, J, _⟩ := O.look
    exact J.type
/-- x == y, x an instance of the class at C -/
def rEqO (K : PySem.W.Frag) (C : Addr) (sp : Sp) (E : XK) : R2 := fun x y H Q => ∃ a dx fs tb, x = .ref a ∧ H a = some (.ins C dx fs) ∧ ClOf H y tb ∧ PySem.W.notFirst K C tb = true ∧ sp [x, y] H Q E
theorem back_cmp {P : Value → Shared → Prop} {z : V} {v : Value} {s' : Shared} (r : RelV z v) (h : P v s') : PySem.W.CmpBack P v s' := by
  cases z with
  | non => cases (show v = Value.none from r); exact h
  | bl b => cases (show v = Value.bool b from r); exact h
  | int i => obtain ⟨t, e⟩ := (show ∃ t, v = Value.int i t from r); cases e; exact h
  | str x => obtain ⟨t, e⟩ := (show ∃ t, v = Value.str x t from r); cases e; exact h
  | byt x => obtain ⟨t, e⟩ := (show ∃ t, v = Value.bytes x t from r); cases e; exact h
  | flt x => obtain ⟨t, e⟩ := (show ∃ t, v = Value.float x t from r); cases e; exact h
  | ref a => cases (show v = Value.ref a from r); exact h
  | ty m => cases (show v = Value.type m from r); exact h
theorem op_eqO (F : FnOk X.prog X.w X.K X.mg X.base CX n f fd ps sp) (hr : Room n X.A) (hs : PySem.W.findIn X.K (.ref C) "__eq__" = some (some (.ref f))) (hf : PySem.W.isFn X.K (.ref f) = true) (hb : Binds X.K fd ps [])
    (hx : Passes CX X E) : OpR X (compareOp .Eq) (rEqO X.K C sp E) := by
  intro pins s σ H x y v u Q I rx ry h
  obtain ⟨a, dx, fs, tb, rfl, ea, hc, hn, q⟩ := h
  cases (show v = Value.ref a from rx)
  obtain ⟨mA, O, _⟩ := ins_get I.hok ea
  obtain ⟨od, J, _⟩ := O.look
  obtain ⟨m, hF⟩ := I.fr
  show wpAny (model X.prog X.w) X.A (richCompare .Eq (.ref a) u) (EP X pins σ Q) X.xe s
  refine PySem.W.cmp_K (op := .Eq) (tb := tb) hr.units0 hF I.ok.mod.kin J (hc.looks I ry) hn hs hf (thn (at_fn F hr I.env0 hb hx I (.cons rx (.cons ry .nil)) q) fun w s' z => ?_)
  obtain ⟨z', H', I', rz, qz⟩ := z
  exact back_cmp rz ⟨z', H', I', rz, qz⟩

theorem ifBound_B {M : Model} {A : Around} {E : Value → Shared → Prop} {K : PySem.W.Frag} {x : Addr} {ox : Obj} {od : Option Obj} {name : Str} {id : String} {args : List Value} {Q : Option Value → Shared → Prop} (Xk : K.In s.heap) (I : PySem.W.InstAt s.heap x ox C od)
    (hs : PySem.W.findIn K (.ref C) name = some (some (.builtin id))) (hb : ∀ self, bindSpecial (.builtin id) self = pure (.builtin id, [self]))
    (h : wpAny M A (call (.builtin id) (.ref x :: args)) (fun v => Q (some v)) E s) : wpAny M A (callSpecialIfBound? (.ref x) name args) Q E s := by
  simp only [callSpecialIfBound?, bindSpecialIfBound?]
  have L1 := (PySem.W.looks_findIn (M := M) Xk hs)
  refine wpAny_holding (wpAny_bind (wpAny_bind (wpAny_bind (I.type.here (L1.here ?_)))))
  refine wpAny_bind (wpAny_askSetting (wpAny_ite ?_))
  have fin : wpAny M A (call (.builtin id) ([.ref x] ++ args) >>= fun v => pure (some v)) Q E s := wpAny_bind (wpAny_mono h (fun v s' z => wpAny_pure z) fun _ _ z => z)
  split
  · exact wpAny_bind ((PySem.W.Looks.of_pure (hb _)).here (wpAny_pure (by exact fin)))
  · exact wpAny_tryCatch (wpAny_bind ((PySem.W.Looks.of_pure (hb _)).here (wpAny_pure (by exact fin))))

/-- object.__ne__ over an own __eq__ that gives a truth -/
theorem objNe_own {prog : Program} {w : World} {A : Around} {E : Value → Shared → Prop} {K : PySem.W.Frag} {x : Addr} {b : Value} {ox : Obj} {od : Option Obj} {Q : Value → Shared → Prop} (hu : A.in1.units < cLine) (Xk : K.In s.heap) (I : PySem.W.InstAt s.heap x ox C od)
    (hm : PySem.W.mroIn K C (.type "object") = some true) (hr : PySem.W.findIn K (.ref C) "__eq__" = some (some (.ref f))) (hf : PySem.W.isFn K (.ref f) = true)
    (h : wpAny (model prog w) A.in1 (call (.ref f) [.ref x, b]) (fun v s' => ∃ k, v = .bool k ∧ Q (.bool (!k)) s') E s) : wpAny (model prog w) A (call (.builtin "object.__ne__") [.ref x, b]) Q E s := by
  refine wpAny_call (codeAny_call_builtin PySem.F.slot_object_ne.plain PySem.F.cmpEntry_ne (PySem.W.check_slot (i := "object.__ne__") (owner := "object") (n := "__ne__") PySem.F.cmpKind_ne PySem.F.cmpSplit_ne (I.type.andThen (PySem.W.looks_mroIn Xk hm)) (PySem.F.cmpArgs_ne _ _) ?_))
  unfold Builtin.«object.__ne__»
  refine wpAny_bind (m := slotArgs "__ne__" 1 _) (wpAny_pure ?_)
  refine wpAny_bind (m := cRoomFor _ _) (wpAny_cRoomFor hu ?_)
  refine wpAny_bind (m := callSpecialIfBound? (.ref x) (Str.ofString "__eq__") _) (PySem.W.ifBound_K Xk I hr hf (wpAny_mono h (fun r s' hq => ?_) fun _ _ y => y))
  obtain ⟨k, e, q⟩ := hq
  subst e
  refine wpAny_bind (wpAny_truthy_bool ?_)
  exact wpAny_pure q

/-- x != y by object.__ne__ -/
def rNeO (K : PySem.W.Frag) (C : Addr) (sp : Sp) (E : XK) : R2 := fun x y H Q => ∃ a dx fs tb, x = .ref a ∧ H a = some (.ins C dx fs) ∧ ClOf H y tb ∧ PySem.W.notFirst K C tb = true ∧ sp [x, y] H (fun v H' => ∃ k, v = .bl k ∧ Q (.bl (!k)) H') E
theorem cmp_ne_own {prog : Program} {w : World} {A : Around} {E : Value → Shared → Prop} {K : PySem.W.Frag} {x : Addr} {b tb : Value} {ox : Obj} {od : Option Obj} {Q : Value → Shared → Prop} (hu : A.units < cLine) (hu2 : A.in1.units < cLine) (Xk : K.In s.heap) (I : PySem.W.InstAt s.heap x ox C od)
    (hl : PySem.W.Looks (model prog w) s.heap (typeOf b) tb) (hn : PySem.W.notFirst K C tb = true)
    (hm : PySem.W.mroIn K C (.type "object") = some true) (hne : PySem.W.findIn K (.ref C) "__ne__" = some (some (.builtin "object.__ne__"))) (hr : PySem.W.findIn K (.ref C) "__eq__" = some (some (.ref f))) (hf : PySem.W.isFn K (.ref f) = true)
    (h : wpAny (model prog w) A.in1 (call (.ref f) [.ref x, b]) (fun v s' => ∃ k, v = .bool k ∧ Q (.bool (!k)) s') E s) : wpAny (model prog w) A (richCompare .NotEq (.ref x) b) Q E s := by
  have one : wpAny (model prog w) A (tryCompare (.ref x) (cmpInfo .NotEq).2.1 b) (fun r s' => ∃ v, r = some v ∧ Q v s') E s := by
    show wpAny (model prog w) A (tryCompare (.ref x) "__ne__" b) _ E s
    unfold tryCompare
    refine wpAny_bind (ifBound_B Xk I hne PySem.F.slot_object_ne.bind (objNe_own hu2 Xk I hm hr hf (wpAny_mono h (fun v s' hv => ?_) fun _ _ e => e)))
    obtain ⟨k, e, q⟩ := hv
    exact ⟨k, e, wpAny_pure ⟨_, rfl, q⟩⟩
  unfold richCompare
  simp only [oneThing_ref]
  refine wpAny_holding (wpAny_bind (wpAny_cRoomFor hu ?_))
  refine wpAny_bind (I.type.here (wpAny_bind (hl.here ?_)))
  have tail : ∀ t : Sem Value, wpAny (model prog w) A (tryCompare (.ref x) (cmpInfo .NotEq).2.1 b >>= fun r => match r with | some v => pure v | none => t) Q E s := fun t => by
    refine wpAny_bind (wpAny_mono one (fun r s' z => ?_) fun _ _ e => e)
    obtain ⟨v, rfl, hq⟩ := z
    exact wpAny_pure hq
  split
  · rename_i q
    have e : PySem.W.subIn K tb (.ref C) = some false := by
      rcases Bool.or_eq_true_iff.mp hn with e | e
      · rw [beq_iff_eq.mp e] at q
        simp at q
      · exact beq_iff_eq.mp e
    refine wpAny_bind ((PySem.W.looks_subIn Xk e).here ?_)
    simp only [Bool.false_eq_true, if_false]
    refine wpAny_bind (wpAny_mono one (fun r s' z => ?_) fun _ _ e => e)
    obtain ⟨v, rfl, hq⟩ := z
    exact wpAny_pure hq
  · refine wpAny_bind (wpAny_pure ?_)
    simp only [Bool.false_eq_true, if_false]
    refine wpAny_bind (wpAny_mono one (fun r s' z => ?_) fun _ _ e => e)
    obtain ⟨v, rfl, hq⟩ := z
    exact wpAny_pure hq
theorem op_neO (F : FnOk X.prog X.w X.K X.mg X.base CX n f fd ps sp) (hr : Room (n + 1) X.A) (hs : PySem.W.findIn X.K (.ref C) "__eq__" = some (some (.ref f))) (hf : PySem.W.isFn X.K (.ref f) = true)
    (hne : PySem.W.findIn X.K (.ref C) "__ne__" = some (some (.builtin "object.__ne__"))) (hm : PySem.W.mroIn X.K C (.type "object") = some true) (hb : Binds X.K fd ps [])
    (hx : Passes CX X E) : OpR X (compareOp .NotEq) (rNeO X.K C sp E) := by
  intro pins s σ H x y v u Q I rx ry h
  obtain ⟨a, dx, fs, tb, rfl, ea, hc, hn, q⟩ := h
  cases (show v = Value.ref a from rx)
  obtain ⟨mA, O, _⟩ := ins_get I.hok ea
  obtain ⟨od, J, _⟩ := O.look
  show wpAny (model X.prog X.w) X.A (richCompare .NotEq (.ref a) u) (EP X pins σ Q) X.xe s
  refine cmp_ne_own (tb := tb) hr.units0 hr.in1.units0 I.kIn J (hc.looks I ry) hn hm hne hs hf (thn (at_fn F hr.in1 I.env0.in1 hb hx I (.cons rx (.cons ry .nil)) q) fun w s' z => ?_)
  obtain ⟨z', H', I', rz, k, e, qz⟩ := z
  subst e
  cases (show w = Value.bool k from rz)
  exact ⟨k, rfl, .bl (!k), H', I', rfl, qz⟩

/-! ### str(x), repr(x), len(x) of an instance -/
def rStrO (C : Addr) (sp : Sp) (E : XK) : List V → Hp → VK → Prop := fun xs H Q => ∃ a dx fs, xs = [.ref a] ∧ H a = some (.ins C dx fs) ∧ sp [.ref a] H (fun v H' => ∃ z, v = .str z ∧ Q v H') E
theorem call_strO (F : FnOk X.prog X.w X.K X.mg X.base CX n f fd ps sp) (hr : Room (n + 2) X.A) (hs : PySem.W.findIn X.K (.ref C) "__str__" = some (some (.ref f))) (hf : PySem.W.isFn X.K (.ref f) = true) (hb : Binds X.K fd ps [])
    (hx : Passes CX X E) : CallR X (.type "str") (rStrO C sp E) := by
  intro pins s σ H xs us Q I r h
  obtain ⟨a, dx, fs, rfl, ea, q⟩ := h
  obtain ⟨u, rfl, ru⟩ := vals1 r
  cases (show u = Value.ref a from ru)
  obtain ⟨mA, O, _⟩ := ins_get I.hok ea
  obtain ⟨od, J, _⟩ := O.look
  have hr1 : Room (n + 1) X.A.in1 := hr.in1
  refine PySem.W.kso_call hr1.in1.units0 I.kIn J hs hf (thn (at_fn F hr1.in1 I.env0.in1.in1 hb hx I (vs := [.ref a]) (us := [.ref a]) (.cons rfl .nil) q) fun w s' z => ?_)
  obtain ⟨z', H', I', rz, y, e, qz⟩ := z
  subst e
  obtain ⟨t, e⟩ := (show ∃ t, w = Value.str y t from rz)
  cases e
  exact ⟨.str y, H', I', ⟨t, rfl⟩, qz⟩
theorem call_reprO (F : FnOk X.prog X.w X.K X.mg X.base CX n f fd ps sp) (hr : Room (n + 1) X.A) (hs : PySem.W.findIn X.K (.ref C) "__repr__" = some (some (.ref f))) (hf : PySem.W.isFn X.K (.ref f) = true) (hb : Binds X.K fd ps [])
    (hx : Passes CX X E) : CallR X (.builtin "repr") (rStrO C sp E) := by
  intro pins s σ H xs us Q I r h
  obtain ⟨a, dx, fs, rfl, ea, q⟩ := h
  obtain ⟨u, rfl, ru⟩ := vals1 r
  cases (show u = Value.ref a from ru)
  obtain ⟨mA, O, _⟩ := ins_get I.hok ea
  obtain ⟨od, J, _⟩ := O.look
  obtain ⟨m, hF⟩ := I.fr
  refine PySem.W.repr_K hr.in1.units0 hF I.ok.mod.kin J hs hf (thn (at_fn F hr.in1 I.env0.in1 hb hx I (vs := [.ref a]) (us := [.ref a]) (.cons rfl .nil) q) fun w s' z => ?_)
  obtain ⟨z', H', I', rz, y, e, qz⟩ := z
  subst e
  obtain ⟨t, e⟩ := (show ∃ t, w = Value.str y t from rz)
  cases e
  exact ⟨.str y, H', I', ⟨t, rfl⟩, qz⟩
def rLenO (C : Addr) (sp : Sp) (E : XK) : List V → Hp → VK → Prop := fun xs H Q => ∃ a dx fs, xs = [.ref a] ∧ H a = some (.ins C dx fs) ∧ sp [.ref a] H (fun v H' => ∃ i, v = .int i ∧ 0 ≤ i ∧ i < 2 ^ 63 ∧ Q v H') E
theorem call_lenO (F : FnOk X.prog X.w X.K X.mg X.base CX n f fd ps sp) (hr : Room (n + 1) X.A) (hs : PySem.W.findIn X.K (.ref C) "__len__" = some (some (.ref f))) (hf : PySem.W.isFn X.K (.ref f) = true) (hb : Binds X.K fd ps [])
    (hx : Passes CX X E) : CallR X (.builtin "len") (rLenO C sp E) := by
  intro pins s σ H xs us Q I r h
  obtain ⟨a, dx, fs, rfl, ea, q⟩ := h
  obtain ⟨u, rfl, ru⟩ := vals1 r
  cases (show u = Value.ref a from ru)
  obtain ⟨mA, O, _⟩ := ins_get I.hok ea
  obtain ⟨od, J, _⟩ := O.look
  obtain ⟨m, hF⟩ := I.fr
  refine PySem.W.len_K hF I.ok.mod.kin J hs hf (thn (at_fn F hr.in1 I.env0.in1 hb hx I (vs := [.ref a]) (us := [.ref a]) (.cons rfl .nil) q) fun w s' z => ?_)
  obtain ⟨z', H', I', rz, i, e, h0, h1, qz⟩ := z
  subst e
  obtain ⟨t, e⟩ := (show ∃ t, w = Value.int i t from rz)
  cases e
  exact ⟨⟨h0, h1⟩, .int i, H', I'.tok _, ⟨_, rfl⟩, qz⟩
end

/-! ### o.m(k = v, ..) -/
def tMethN (C : Addr) (m : Str) (n mm : Nat) (sp : Sp) (gV : List V → List V → List V) (E : XK) (ta : TE) (t tk : TA) : TE := fun σ H Q => ta σ H fun x H1 => ∃ a dx fs, x = .ref a ∧ H1 a = some (.ins C dx fs) ∧ fs.lookup m = none ∧
  t σ H1 fun vs H2 => tk σ H2 fun zs H3 => vs.length = n ∧ zs.length = mm ∧ sp (gV (x :: vs) zs) H3 Q E
section
variable {X : Cx} {CX : CXT} {k n : Nat} {f C : Addr} {fd : FuncData} {ps ks : List Str} {sp : Sp} {E : XK} {m : Str} {pos apos : Pos} {o : Expr} {kws : List Keyword} {ta : TE} {t tk : TA} {g : List Value → List Value → List Value} {gV : List V → List V → List V}
theorem pe_methN0 {pl : Sem Bool} (he : PE X o ta) (c : Cls X.K C) (hm : Meth X.K C m f) (F : FnOk X.prog X.w X.K X.mg X.base CX k f fd ps sp) (hr : Room k X.A) (hb : KBn X.K fd ps 1 ks g gV) (hx : Passes CX X E) (hkw : PK X kws tk)
    (hall : (backToKw pos (keywordEach kws X.env)).all (·.1.isSome) = true := by rfl) (hks : (backToKw pos (keywordEach kws X.env)).filterMap (·.1) = ks := by rfl)
    (hpl : ((backTo pos (starEach [] X.env)).any (·.1) || (backToKw pos (keywordEach kws X.env)).any (·.1.isNone)) = false := by rfl)
    (ht : eval (.Call (.Attribute o m apos) [] kws pos) X.env = (do
      let ov ← eval o X.env
      standAt apos.atName
      let (f, first) ← holding [ov] (getMethod ov m pl)
      callWith pos f first (backTo pos (starEach [] X.env)) (backToKw pos (keywordEach kws X.env))) := by rfl) :
    PE X (.Call (.Attribute o m apos) [] kws pos) (tMethN C m 0 ks.length sp gV E ta tNil tk) := by
  refine ⟨fun pins s σ H Q I h => ?_⟩
  refine PySem.W.methodCall_KW (pl := pl) (thn (he.run pins s σ H _ I h) fun u s1 ⟨x, H1, I1, rx, a, dx, fs, ex, ea, l, q⟩ => ?_) ht
  subst ex
  obtain rfl : u = Value.ref a := rx
  refine getmeth_ok I1 ea c hm l ?_
  refine PySem.W.callWith_KW0 (first := [.ref a]) (h₀ := X.base) I.ok.mod.kin hm.kp hall ?_ hpl
  refine thn (hkw.run pos pins s1 σ H1 _ I1 q) fun ws s2 ⟨zs, H2, I2, rz, l1, l2, q2⟩ => ⟨I2.kIn, ?_⟩
  rw [hks]
  exact run_fnN (n := 1) (us := [.ref a]) (vs := [.ref a]) F hr hb hx I2 (.cons rfl .nil) rz rfl l2 q2
end
end Yarn

set_option Elab.async false
set_option linter.all false
set_option maxRecDepth 100000
set_option maxHeartbeats 4000000
namespace Yarn
open PySem PySem.Spec PyProof.Rows L2

/-! ### a def that lets nothing out, whatever its defaults -/
theorem okD {P : Program} {w : World} {K : PySem.W.Frag} {mg : Str → Option Value} {base : Heap} {x qual : Str} {params : Arguments} {body : List Stmt} {scope : Scope} {dvs : List V} {kws : List (Str × V)} {f : Addr} {fd : FuncData}
    {N ps : List Str} {k : Nat} {sp : Sp} (F : FunD K x qual params body scope dvs kws f fd) (S : FnScope N ps scope) (len : ∀ vs H Q E, sp vs H Q E → vs.length = ps.length)
    (hbody : ∀ (cdv : Value) (A : Around) (outer : List Env) (s : Shared) (H : Hp) (vs : List V) (Q : VK) (E : XK), Room k (A.deeper (envOfC qual scope s.heap.objs.size f cdv)) → sp vs H Q E →
      ∃ t, PSs (cxOf CX0 P w K mg base N qual scope f cdv A outer s H E).nox body t ∧ t { nx := fun _ H' => Q .non H', rt := Q } (start N vs) H) : FnOk P w K mg base CX0 (k + 1) f fd ps sp :=
  F.ok S len fun cdv A outer s H vs Q E hr h => let ⟨t, h1, q⟩ := hbody cdv A outer s H vs Q E hr h; ⟨t, h1.nox, q⟩

/-! ### what stays but for dicts -/
def NotD : HO → Prop
  | .dK _ => False
  | _ => True
def Kp (H H' : Hp) : Prop := ∀ a o, NotD o → H a = some o → H' a = some o
theorem Kp.refl (H : Hp) : Kp H H := fun _ _ _ h => h
theorem Kp.trans {H H1 H2 : Hp} (a : Kp H H1) (b : Kp H1 H2) : Kp H H2 := fun c o n h => b c o n (a c o n h)
theorem same_kp {H H' : Hp} (s : Same H H') : Kp H H' := fun a o _ h => s a o h
theorem Kp.ins {H H' : Hp} {a C dx : Addr} {fs : List (Str × V)} (k : Kp H H') (h : H a = some (.ins C dx fs)) : H' a = some (.ins C dx fs) := k a _ trivial h
theorem Kp.tup {H H' : Hp} {a : Addr} {xs : List V} (k : Kp H H') (h : H a = some (.tup xs)) : H' a = some (.tup xs) := k a _ trivial h
theorem Kp.lst {H H' : Hp} {a : Addr} {xs : List V} (k : Kp H H') (h : H a = some (.lst xs)) : H' a = some (.lst xs) := k a _ trivial h
theorem Kp.seqL {K : PySem.W.Frag} {H H' : Hp} {a : Addr} {xs : List V} (k : Kp H H') (h : SqL K H a xs) : SqL K H' a xs := by
  rcases h with (h | ⟨o, h⟩) | h
  · exact .inl (.inl (k.lst h))
  · exact .inl (.inr ⟨o, k a _ trivial h⟩)
  · exact .inr h
theorem Kp.seqT {K : PySem.W.Frag} {H H' : Hp} {a : Addr} {xs : List V} (k : Kp H H') (h : SqT K H a xs) : SqT K H' a xs := by
  rcases h with (h | ⟨o, h⟩) | h
  · exact .inl (.inl (k.tup h))
  · exact .inl (.inr ⟨o, k a _ trivial h⟩)
  · exact .inr h

/-! ### the pen: a dict of a list of numbers, a place, what is left -/
def penD (c : Addr) (a l : Int) : List (Key × V) := [(.inr "cells", .ref c), (.inr "at", .int a), (.inr "left", .int l)]
theorem s_ca : ¬ (("cells" : Str) = "at") := by decide +kernel
theorem s_cl : ¬ (("cells" : Str) = "left") := by decide +kernel
theorem s_al : ¬ (("at" : Str) = "left") := by decide +kernel
theorem inr_ne {x y : Str} (h : ¬ x = y) : ¬ (Sum.inr x : Key) = Sum.inr y := fun z => h (Sum.inr.inj z)
theorem pen_cells (c : Addr) (a l : Int) : valV (penD c a l) (.inr "cells") = some (.ref c) := valV_pos rfl
theorem pen_at (c : Addr) (a l : Int) : valV (penD c a l) (.inr "at") = some (.int a) := (valV_neg (inr_ne s_ca)).trans (valV_pos rfl)
theorem pen_left (c : Addr) (a l : Int) : valV (penD c a l) (.inr "left") = some (.int l) := (valV_neg (inr_ne s_cl)).trans ((valV_neg (inr_ne s_al)).trans (valV_pos rfl))
theorem put_at (c : Addr) (a l x : Int) : putK (penD c a l) (.inr "at") (.int x) = penD c x l := by
  simp [putK, penD, s_ca, Ne.symm s_al]
theorem put_left (c : Addr) (a l x : Int) : putK (penD c a l) (.inr "left") (.int x) = penD c a x := by
  simp [putK, penD, s_cl, s_al]
theorem pen_merge (c : Addr) : mergeK [] (penD c 0 0) = penD c 0 0 := by
  simp [mergeK, putK, penD, s_ca, s_cl, s_al]
structure Pen (H : Hp) (p : Addr) (n : Int) : Prop where
  ex : ∃ (c : Addr) (ns : List Int) (a l : Int), H p = some (.dK (penD c a l)) ∧ H c = some (.lst (ns.map V.int)) ∧ ns.length ≤ 63 ∧ 0 ≤ a ∧ a ≤ n ∧ 0 ≤ l
theorem Pen.same {H H' : Hp} {p : Addr} {n : Int} (s : Same H H') (P : Pen H p n) : Pen H' p n := by
  obtain ⟨c, ns, a, l, h1, h2, r⟩ := P.ex
  exact ⟨c, ns, a, l, s _ _ h1, s _ _ h2, r⟩
theorem Pen.mono {H : Hp} {p : Addr} {n m : Int} (P : Pen H p n) (h : n ≤ m) : Pen H p m := by
  obtain ⟨c, ns, a, l, h1, h2, h3, h4, h5, h6⟩ := P.ex
  exact ⟨c, ns, a, l, h1, h2, h3, h4, by omega, h6⟩
theorem Pen.kp {H H' : Hp} {p : Addr} {n : Int} (P : Pen H p n) (b : But p H H') : Kp H H' := fun a o no h => b a o (fun e => by
  obtain ⟨c, ns, x, l, h1, _⟩ := P.ex
  subst e
  rw [h] at h1
  cases h1
  exact no) h
/-- a draw: some number below m, the pen one further -/
def spDraw : Sp := fun vs H Q _ => ∃ (p : Addr) (m n : Int), vs = [.ref p, .int m] ∧ Pen H p n ∧ n ≤ 2 ^ 60 ∧ 0 < m ∧ m ≤ 2 ^ 60 ∧
  ∀ (d : Int) (H' : Hp), 0 ≤ d → d < m → Pen H' p (n + 1) → But p H H' → Kp H H' → Q (.int d) H'
/-- a number: small, or of up to fifteen figures -/
def spNumber : Sp := fun vs H Q _ => ∃ (p : Addr) (n : Int), vs = [.ref p] ∧ Pen H p n ∧ n ≤ 2 ^ 59 ∧
  ∀ (d : Int) (H' : Hp), 0 ≤ d → d < 10 ^ 15 → Pen H' p (n + 4) → But p H H' → Kp H H' → Q (.int d) H'
/-- the pen is made -/
def spPen (K : PySem.W.Frag) : Sp := fun vs H Q _ => ∃ (a : Addr) (ns : List Int), vs = [.ref a] ∧ SqL K H a (ns.map V.int) ∧ ns.length ≤ 63 ∧
  ∀ (p : Addr) (H' : Hp), H p = none → Same H H' → Pen H' p 0 → Q (.ref p) H'
/-- a law's: a list of at most 63 ints is handed in, True comes out -/
def sp_law0 (K : PySem.W.Frag) : Sp := fun vs H Q _ => ∃ (a : Addr) (ns : List Int), vs = [.ref a] ∧ SqL K H a (ns.map V.int) ∧ ns.length ≤ 63 ∧ ∀ H', Q (.bl true) H'

/-! ### // by a positive divisor of any size in use -/
theorem div_ok {i j : Int} (h : 0 < j) (hb : j ≤ 2 ^ 200) : CDivW i j := wide_div (b := 201) h (by omega) (by decide) (by decide)
theorem op_fdivY {X : Cx} : OpR X (binaryOp .FloorDiv) (rI (fun _ j => 0 < j ∧ j ≤ 2 ^ 200) fun i j => .int (i / j)) := by
  intro pins s σ H x y v u Q I rx ry h
  obtain ⟨i, j, e1, e2, ⟨h1, h2⟩, q⟩ := h
  exact op_fdivW pins s σ H x y v u Q I rx ry ⟨i, j, e1, e2, div_ok h1 h2, q⟩
/-! ### small helps for readings -/
theorem list_nonempty_ne (xs : List Int) : (!PyData.eqv (.list (xs.map PyData.int)) (.list [])) = !xs.isEmpty := by
  cases xs with
  | nil => rfl
  | cons a r => rfl
theorem ints_can : ∀ ns : List Int, PyData.canLayAll0 (ns.map PyData.int) = true
  | [] => by simp [PyData.canLayAll0]
  | n :: ns => by simp [PyData.canLayAll0, PyData.canLay0, ints_can ns]
theorem ints_depth : ∀ ns : List Int, PyData.depthAll (ns.map PyData.int) = 0
  | [] => by simp [PyData.depthAll]
  | n :: ns => by simp [PyData.depthAll, PyData.depth, ints_depth ns]
theorem shaped_ints (ns : List Int) : SeqAt.shaped (.list (ns.map PyData.int)) = true := by
  simp [SeqAt.shaped, PyData.canLay0, ints_can, PyData.depth, ints_depth]
theorem shaped_nil : SeqAt.shaped (.list []) = true := shaped_ints []
theorem dp_ints {K : PySem.W.Frag} {H : Hp} : ∀ ns : List Int, DpAll K H (ns.map V.int) (ns.map PyData.int)
  | [] => .nil
  | n :: ns => .cons (.int n) (dp_ints ns)
theorem atI_int {xs : List V} {ns : List Int} (e : xs = ns.map V.int) {i : Int} (h0 : 0 ≤ i) (h1 : i < ns.length) : ∃ z, atI xs i = some (.int z) := by
  subst e
  obtain ⟨j, rfl⟩ : ∃ j : Nat, i = j := ⟨i.toNat, by omega⟩
  have hj : j < ns.length := by omega
  refine ⟨ns[j], atI_nat ?_⟩
  rw [List.getElem?_map, List.getElem?_eq_getElem hj] <;> rfl
end Yarn
namespace Yarn
open PySem PySem.Spec PyProof.Rows L2
/-! ### splitting on a test -/
theorem iteD {p A B : Prop} [Decidable p] (h1 : p → A) (h2 : ¬ p → B) : if decide p = true then A else B := by
  by_cases h : p
  · rw [if_pos (decide_eq_true h)]
    exact h1 h
  · rw [if_neg (by rw [decide_eq_false h]; exact Bool.false_ne_true)]
    exact h2 h
theorem iteND {p A B : Prop} [Decidable p] (h1 : ¬ p → A) (h2 : p → B) : if (!decide p) = true then A else B := by
  by_cases h : p
  · rw [decide_eq_true h]
    exact iteF (h2 h)
  · rw [decide_eq_false h]
    exact iteT (h1 h)
theorem iteEI {a b : Int} {A B : Prop} (h1 : a = b → A) (h2 : ¬ a = b → B) : if decide (V.int a = V.int b) = true then A else B :=
  iteD (fun h => h1 (V.int.inj h)) fun h => h2 fun e => h (congrArg V.int e)
theorem iteNI {a b : Int} {A B : Prop} (h1 : ¬ a = b → A) (h2 : a = b → B) : if (!decide (V.int a = V.int b)) = true then A else B :=
  iteND (fun h => h1 fun e => h (congrArg V.int e)) fun h => h2 (V.int.inj h)
theorem iteB {b : Bool} {A B : Prop} (h1 : b = true → A) (h2 : b = false → B) : if b = true then A else B := by
  cases b
  · exact iteF (h2 rfl)
  · exact iteT (h1 rfl)
theorem iteNB {b : Bool} {A B : Prop} (h1 : b = false → A) (h2 : b = true → B) : if (!b) = true then A else B := by
  cases b
  · exact iteT (h1 rfl)
  · exact iteF (h2 rfl)
theorem iteNe {ns : List Int} {A B : Prop} (h1 : ns ≠ [] → A) (h2 : ns = [] → B) : if (!PyData.eqv (.list (ns.map PyData.int)) (.list [])) = true then A else B := by
  rw [list_nonempty_ne]
  cases ns with
  | nil => exact iteF (h2 rfl)
  | cons a r => exact iteT (h1 (by simp))
theorem absI (i : Int) : 0 ≤ (if i < 0 then -i else i) := by split <;> omega
theorem cut_ints (ns : List Int) (lo hi : Option Int) : ∃ ms : List Int, cutV (ns.map V.int) lo hi = ms.map V.int ∧ ms.length ≤ ns.length := by
  refine ⟨(ns.drop (HT.sIx (ns.map V.int).length 0 lo)).take (HT.sIx (ns.map V.int).length (ns.map V.int).length hi - HT.sIx (ns.map V.int).length 0 lo), ?_, ?_⟩
  · unfold cutV
    rw [List.map_take, List.map_drop]
  · rw [List.length_take, List.length_drop]
    omega
theorem get_int {ns : List Int} {i : Nat} {x : V} (h : (ns.map V.int)[i]? = some x) : ∃ n, ns[i]? = some n ∧ x = .int n := by
  rw [List.getElem?_map] at h
  cases e : ns[i]? with
  | none => rw [e] at h; cases h
  | some n => rw [e] at h; exact ⟨n, rfl, (Option.some.inj h).symm⟩
theorem take_more {α : Type} : ∀ {l : List α} {i : Nat} {x : α}, l[i]? = some x → l.take (i + 1) = l.take i ++ [x]
  | [], i, x, h => by simp at h
  | a :: l, 0, x, h => by
    have e : a = x := Option.some.inj h
    subst e
    rfl
  | a :: l, i + 1, x, h => by
    have ih := take_more (l := l) (i := i) (x := x) h
    show a :: l.take (i + 1) = a :: l.take i ++ [x]
    rw [ih]
    rfl
end Yarn
namespace Yarn
open PySem PySem.Spec PyProof.Rows L2
theorem atI_all {xs : List V} {P : V → Prop} {i : Int} (h : ∀ x ∈ xs, P x) (h0 : 0 ≤ i) (h1 : i < xs.length) : ∃ v, atI xs i = some v ∧ P v := by
  obtain ⟨j, rfl⟩ : ∃ j : Nat, i = j := ⟨i.toNat, by omega⟩
  have hj : j < xs.length := by omega
  exact ⟨xs[j], atI_nat (List.getElem?_eq_getElem hj), h _ (List.getElem_mem hj)⟩
end Yarn
namespace Yarn
open PySem PySem.Spec PyProof.Rows L2
theorem iteSp {a b c d : Int} {A B : Prop} (h1 : a = b) (h2 : c = d) (h : B) : if (!(decide (a = b) && decide (c = d))) = true then A else B := by
  rw [decide_eq_true h1, decide_eq_true h2]
  exact iteF h
theorem bothT {a b c d : Int} (h1 : a = b) (h2 : c = d) : (decide (a = b) && decide (c = d)) = true := by rw [decide_eq_true h1, decide_eq_true h2] <;> rfl
end Yarn
namespace Yarn
open PySem PySem.Spec PyProof.Rows L2
theorem kit_own {K : PySem.W.Frag} {t : String} {C : Addr} {b : Bool} (h1 : PySem.W.isClsIn K C = true) (h2 : PySem.W.typeIn K (.ref C) = some (.type "type")) (h3 : PySem.W.subIn K (.type t) (.ref C) = some b) :
    PySem.W.kitOne K (.type t) (.ref C) = some b := by
  have hne : (Value.type t == Value.ref C) = false := Bool.eq_false_iff.mpr fun q => by cases beq_iff_eq.mp q
  unfold PySem.W.kitOne
  rw [hne]
  have h1' : (PySem.W.clsIn K C).isSome = true := h1
  simp [PySem.W.kitCls, h1', h2, h3]
end Yarn

set_option Elab.async false
set_option linter.all false
set_option maxRecDepth 100000
set_option maxHeartbeats 4000000
namespace Law
open PySem PySem.Spec PyProof.Rows L2 Yarn
def top (i : Nat) : Stmt := PySem.Challenge.pw_yarnback_k05_weighings_and_oil.main.body.getD i (.Pass ⟨0, 0, 0, 0⟩)
abbrev s__law_pen : Stmt := top 7
abbrev s__law_draw : Stmt := top 8
abbrev s__law_number : Stmt := top 9
abbrev s_Span_init : Stmt := inClass (top 3) 0
abbrev s_Span_eq : Stmt := inClass (top 3) 1
abbrev s_Span_widened : Stmt := inClass (top 3) 7
abbrev s_weighed : Stmt := top 4
abbrev s_yarn_in : Stmt := top 5
abbrev s__law_can : Stmt := top 10
abbrev s__law_right : Stmt := top 11
abbrev s_law : Stmt := top 12
theorem sc__law_pen : FnScope ["script", "cell"] ["script"] (defScope s__law_pen) := ⟨rfl, rfl, rfl, by decide +kernel, rfl, by decide +kernel, by decide +kernel⟩
theorem sc__law_draw : FnScope ["pen", "many", "digit", "at", "cell", "number", "again"] ["pen", "many"] (defScope s__law_draw) := ⟨rfl, rfl, rfl, by decide +kernel, rfl, by decide +kernel, by decide +kernel⟩
theorem sc__law_number : FnScope ["pen"] ["pen"] (defScope s__law_number) := ⟨rfl, rfl, rfl, by decide +kernel, rfl, by decide +kernel, by decide +kernel⟩
theorem sc_Span_init : FnScope ["self", "least", "most"] ["self", "least", "most"] (defScope s_Span_init) := ⟨rfl, rfl, rfl, by decide +kernel, rfl, by decide +kernel, by decide +kernel⟩
theorem sc_Span_eq : FnScope ["self", "other"] ["self", "other"] (defScope s_Span_eq) := ⟨rfl, rfl, rfl, by decide +kernel, rfl, by decide +kernel, by decide +kernel⟩
theorem sc_Span_widened : FnScope ["self", "by"] ["self", "by"] (defScope s_Span_widened) := ⟨rfl, rfl, rfl, by decide +kernel, rfl, by decide +kernel, by decide +kernel⟩
theorem sc_weighed : FnScope ["drams", "slack"] ["drams", "slack"] (defScope s_weighed) := ⟨rfl, rfl, rfl, by decide +kernel, rfl, by decide +kernel, by decide +kernel⟩
theorem sc_yarn_in : FnScope ["cloth", "oil", "parts", "lightest", "heaviest", "least", "most"] ["cloth", "oil"] (defScope s_yarn_in) := ⟨rfl, rfl, rfl, by decide +kernel, rfl, by decide +kernel, by decide +kernel⟩
theorem sc__law_can : FnScope ["yarn", "cloth", "a_oil", "least", "most"] ["yarn", "cloth", "a_oil"] (defScope s__law_can) := ⟨rfl, rfl, rfl, by decide +kernel, rfl, by decide +kernel, by decide +kernel⟩
theorem sc__law_right : FnScope ["cloth", "a_oil", "found", "some", "yarn", "low"] ["cloth", "a_oil", "found"] (defScope s__law_right) := ⟨rfl, rfl, rfl, by decide +kernel, rfl, by decide +kernel, by decide +kernel⟩
theorem sc_law : FnScope ["script", "pen", "turn", "drams", "a_slack", "cloth", "least", "a_oil", "ends"] ["script"] (defScope s_law) := ⟨rfl, rfl, rfl, by decide +kernel, rfl, by decide +kernel, by decide +kernel⟩
theorem nf_Span_least_most : ¬ (("least" : Str) = "most") := by decide +kernel
theorem nf_Span_most_least : ¬ (("most" : Str) = "least") := by decide +kernel
def fs_Span (v_least v_most : V) : List (Str × V) := putF "most" v_most (putF "least" v_least ([]))
theorem fs_Span_least (v_least v_most : V) : (fs_Span v_least v_most).lookup ("least" : Str) = some v_least := by
  unfold fs_Span
  rw [lookup_putF, if_neg nf_Span_least_most]
  rw [lookup_putF, if_pos rfl]
theorem fs_Span_most (v_least v_most : V) : (fs_Span v_least v_most).lookup ("most" : Str) = some v_most := by
  unfold fs_Span
  rw [lookup_putF, if_pos rfl]
theorem fs_Span_no (v_least v_most : V) {m : Str} (h_least : ¬ m = "least") (h_most : ¬ m = "most") : (fs_Span v_least v_most).lookup m = none := by
  unfold fs_Span
  rw [lookup_putF, if_neg h_most, lookup_putF, if_neg h_least]
  all_goals rfl
structure Txt (K : PySem.W.Frag) (mg : Str → Option Value) where
  C_Span : Addr
  f__law_pen : Addr
  fd__law_pen : FuncData
  f__law_draw : Addr
  fd__law_draw : FuncData
  f__law_number : Addr
  fd__law_number : FuncData
  f_Span_init : Addr
  fd_Span_init : FuncData
  f_Span_eq : Addr
  fd_Span_eq : FuncData
  f_Span_widened : Addr
  fd_Span_widened : FuncData
  f_weighed : Addr
  fd_weighed : FuncData
  f_yarn_in : Addr
  fd_yarn_in : FuncData
  f__law_can : Addr
  fd__law_can : FuncData
  f__law_right : Addr
  fd__law_right : FuncData
  f_law : Addr
  fd_law : FuncData
  mgc_Span : mg "Span" = some (.ref C_Span)
  cl_Span : Cls K C_Span
  na_Span_least : NoAttr K C_Span "least"
  na_Span_most : NoAttr K C_Span "most"
  mk_Span : Mk K C_Span f_Span_init
  ne_Span : PySem.W.findIn K (.ref C_Span) "__ne__" = some (some (.builtin "object.__ne__"))
  ha_Span : PySem.W.findIn K (.ref C_Span) "__class__" = some (some (.builtin "object.__class__"))
  mo_Span : PySem.W.mroIn K C_Span (.type "object") = some true
  nF_Span_own : PySem.W.notFirst K C_Span (.ref C_Span) = true
  nF_Span_NoneType : PySem.W.notFirst K C_Span (.type "NoneType") = true
  ki_Span_own : PySem.W.kitOne K (.ref C_Span) (.ref C_Span) = some true
  ki_Span_NoneType : PySem.W.kitOne K (.type "NoneType") (.ref C_Span) = some false
  hn : PySem.W.specialIn K (.builtin "object.__class__") "__get__" = some (some (.builtin "getset_descriptor.__get__"))
  ht : PySem.W.takesIn K (.builtin "object.__class__") = some true
  mg__law_pen : mg "_law_pen" = some (.ref f__law_pen)
  F__law_pen : FunD K "_law_pen" "_law_pen" (defArgs s__law_pen) (defBody s__law_pen) (defScope s__law_pen) [] [] f__law_pen fd__law_pen
  mg__law_draw : mg "_law_draw" = some (.ref f__law_draw)
  F__law_draw : FunD K "_law_draw" "_law_draw" (defArgs s__law_draw) (defBody s__law_draw) (defScope s__law_draw) [] [] f__law_draw fd__law_draw
  mg__law_number : mg "_law_number" = some (.ref f__law_number)
  F__law_number : FunD K "_law_number" "_law_number" (defArgs s__law_number) (defBody s__law_number) (defScope s__law_number) [] [] f__law_number fd__law_number
  m_Span_init : Meth K C_Span "__init__" f_Span_init
  F_Span_init : FunD K "__init__" "Span.__init__" (defArgs s_Span_init) (defBody s_Span_init) (defScope s_Span_init) [.non] [] f_Span_init fd_Span_init
  m_Span_eq : Meth K C_Span "__eq__" f_Span_eq
  F_Span_eq : FunD K "__eq__" "Span.__eq__" (defArgs s_Span_eq) (defBody s_Span_eq) (defScope s_Span_eq) [] [] f_Span_eq fd_Span_eq
  m_Span_widened : Meth K C_Span "widened" f_Span_widened
  F_Span_widened : FunD K "widened" "Span.widened" (defArgs s_Span_widened) (defBody s_Span_widened) (defScope s_Span_widened) [.int 1] [] f_Span_widened fd_Span_widened
  mg_weighed : mg "weighed" = some (.ref f_weighed)
  F_weighed : FunD K "weighed" "weighed" (defArgs s_weighed) (defBody s_weighed) (defScope s_weighed) [.int 0] [] f_weighed fd_weighed
  mg_yarn_in : mg "yarn_in" = some (.ref f_yarn_in)
  F_yarn_in : FunD K "yarn_in" "yarn_in" (defArgs s_yarn_in) (defBody s_yarn_in) (defScope s_yarn_in) [.non] [] f_yarn_in fd_yarn_in
  mg__law_can : mg "_law_can" = some (.ref f__law_can)
  F__law_can : FunD K "_law_can" "_law_can" (defArgs s__law_can) (defBody s__law_can) (defScope s__law_can) [] [] f__law_can fd__law_can
  mg__law_right : mg "_law_right" = some (.ref f__law_right)
  F__law_right : FunD K "_law_right" "_law_right" (defArgs s__law_right) (defBody s__law_right) (defScope s__law_right) [] [] f__law_right fd__law_right
  mg_law : mg "law" = some (.ref f_law)
  F_law : FunD K "law" "law" (defArgs s_law) (defBody s_law) (defScope s_law) [] [] f_law fd_law
  b_abs : mg "abs" = none
  b_isinstance : mg "isinstance" = none
  b_len : mg "len" = none
  b_max : mg "max" = none
  b_min : mg "min" = none
  b_range : mg "range" = none
  g_HUNDRED : ∃ u, mg "HUNDRED" = some u ∧ RelV (.int 100) u
section
variable {P : Program} {w : World} {K : PySem.W.Frag} {mg : Str → Option Value} {base : Heap}
theorem Txt.b__law_pen (T : Txt K mg) : Binds K T.fd__law_pen ["script"] [] := T.F__law_pen.bindsN (ps := ["script"]) fun _ _ _ _ _ _ us hl => match us, hl with | [_], _ => rfl
theorem Txt.b__law_draw (T : Txt K mg) : Binds K T.fd__law_draw ["pen", "many"] [] := T.F__law_draw.bindsN (ps := ["pen", "many"]) fun _ _ _ _ _ _ us hl => match us, hl with | [_, _], _ => rfl
theorem Txt.b__law_number (T : Txt K mg) : Binds K T.fd__law_number ["pen"] [] := T.F__law_number.bindsN (ps := ["pen"]) fun _ _ _ _ _ _ us hl => match us, hl with | [_], _ => rfl
theorem Txt.b_Span_eq (T : Txt K mg) : Binds K T.fd_Span_eq ["self", "other"] [] := T.F_Span_eq.bindsN (ps := ["self", "other"]) fun _ _ _ _ _ _ us hl => match us, hl with | [_, _], _ => rfl
theorem Txt.b__law_can (T : Txt K mg) : Binds K T.fd__law_can ["yarn", "cloth", "a_oil"] [] := T.F__law_can.bindsN (ps := ["yarn", "cloth", "a_oil"]) fun _ _ _ _ _ _ us hl => match us, hl with | [_, _, _], _ => rfl
theorem Txt.b__law_right (T : Txt K mg) : Binds K T.fd__law_right ["cloth", "a_oil", "found"] [] := T.F__law_right.bindsN (ps := ["cloth", "a_oil", "found"]) fun _ _ _ _ _ _ us hl => match us, hl with | [_, _, _], _ => rfl
theorem Txt.b_law (T : Txt K mg) : Binds K T.fd_law ["script"] [] := T.F_law.bindsN (ps := ["script"]) fun _ _ _ _ _ _ us hl => match us, hl with | [_], _ => rfl
theorem bd_Span_init_2 (T : Txt K mg) : ∃ ds, Vals [] ds ∧ Binds K T.fd_Span_init ["self", "least", "most"] ds := T.F_Span_init.binds1 (ps := ["self", "least", "most"]) 3 1 (by simp) rfl fun _ _ _ _ _ _ _ us its hl hi => match us, hl, its, hi with | [_, _, _], _, [_], _ => ⟨_, rfl, rfl⟩
theorem bd_Span_widened_1 (T : Txt K mg) : ∃ ds, Vals [] ds ∧ Binds K T.fd_Span_widened ["self", "by"] ds := T.F_Span_widened.binds1 (ps := ["self", "by"]) 2 1 (by simp) rfl fun _ _ _ _ _ _ _ us its hl hi => match us, hl, its, hi with | [_, _], _, [_], _ => ⟨_, rfl, rfl⟩
theorem bd_Span_init_1 (T : Txt K mg) : ∃ ds, Vals [.non] ds ∧ Binds K T.fd_Span_init ["self", "least", "most"] ds := T.F_Span_init.binds1 (ps := ["self", "least", "most"]) 2 0 (by simp) rfl fun _ _ _ _ _ _ _ us its hl hi => match us, hl, its, hi with | [_, _], _, [_], _ => ⟨_, rfl, rfl⟩
theorem bd_weighed_2 (T : Txt K mg) : ∃ ds, Vals [] ds ∧ Binds K T.fd_weighed ["drams", "slack"] ds := T.F_weighed.binds1 (ps := ["drams", "slack"]) 2 1 (by simp) rfl fun _ _ _ _ _ _ _ us its hl hi => match us, hl, its, hi with | [_, _], _, [_], _ => ⟨_, rfl, rfl⟩
def g_bd_weighed_1_slack {α : Type} (us its ws : List α) : List α := (us.drop 0).take 1 ++ ((ws.drop 0).take 1)
theorem bd_weighed_1_slack (T : Txt K mg) : ∃ its : List Value, KBn K T.fd_weighed ["drams", "slack"] 1 ["slack"] (fun us ws => g_bd_weighed_1_slack us its ws) (fun vs zs => g_bd_weighed_1_slack vs [.int 0] zs) :=
  T.F_weighed.kbindsD (ps := ["drams", "slack"]) 1 ["slack"] (fun us its ws => g_bd_weighed_1_slack us its ws) (by simp) (fun r1 r2 r3 => ((r1.drop 0).take 1).append ((r3.drop 0).take 1))
    fun _ _ _ _ _ _ _ us its ws h1 h2 h3 => match us, h1, its, h2, ws, h3 with | [_], _, [_], _, [_], _ => ⟨_, rfl, rfl⟩
theorem bd_weighed_1 (T : Txt K mg) : ∃ ds, Vals [.int 0] ds ∧ Binds K T.fd_weighed ["drams", "slack"] ds := T.F_weighed.binds1 (ps := ["drams", "slack"]) 1 0 (by simp) rfl fun _ _ _ _ _ _ _ us its hl hi => match us, hl, its, hi with | [_], _, [_], _ => ⟨_, rfl, rfl⟩
def g_bd_yarn_in_1_oil {α : Type} (us its ws : List α) : List α := (us.drop 0).take 1 ++ ((ws.drop 0).take 1)
theorem bd_yarn_in_1_oil (T : Txt K mg) : ∃ its : List Value, KBn K T.fd_yarn_in ["cloth", "oil"] 1 ["oil"] (fun us ws => g_bd_yarn_in_1_oil us its ws) (fun vs zs => g_bd_yarn_in_1_oil vs [.non] zs) :=
  T.F_yarn_in.kbindsD (ps := ["cloth", "oil"]) 1 ["oil"] (fun us its ws => g_bd_yarn_in_1_oil us its ws) (by simp) (fun r1 r2 r3 => ((r1.drop 0).take 1).append ((r3.drop 0).take 1))
    fun _ _ _ _ _ _ _ us its ws h1 h2 h3 => match us, h1, its, h2, ws, h3 with | [_], _, [_], _, [_], _ => ⟨_, rfl, rfl⟩
theorem bd_yarn_in_2 (T : Txt K mg) : ∃ ds, Vals [] ds ∧ Binds K T.fd_yarn_in ["cloth", "oil"] ds := T.F_yarn_in.binds1 (ps := ["cloth", "oil"]) 2 1 (by simp) rfl fun _ _ _ _ _ _ _ us its hl hi => match us, hl, its, hi with | [_, _], _, [_], _ => ⟨_, rfl, rfl⟩
theorem bd_yarn_in_1 (T : Txt K mg) : ∃ ds, Vals [.non] ds ∧ Binds K T.fd_yarn_in ["cloth", "oil"] ds := T.F_yarn_in.binds1 (ps := ["cloth", "oil"]) 1 0 (by simp) rfl fun _ _ _ _ _ _ _ us its hl hi => match us, hl, its, hi with | [_], _, [_], _ => ⟨_, rfl, rfl⟩
def sp__law_pen (T : Txt K mg) : Sp := fun vs H Q _ => spPen K vs H Q (fun _ _ _ => False)
theorem ok__law_pen (T : Txt K mg) : FnOk P w K mg base CX0 2 T.f__law_pen T.fd__law_pen ["script"] (sp__law_pen T) := by
  refine okD T.F__law_pen sc__law_pen (fun vs H Q E h => ?_) (fun cdv A outer s H vs Q E hr h => ?_)
  · obtain ⟨_, _, rfl, _⟩ := h; rfl
  · have hu := hu_of hr
    have hu64 := hr.units
    refine ⟨_, pss_one (ps_ret (pe_disp (pps_cons pe_str (pe_lc (own := [("cell", 1)]) (by rfl) sc__law_pen.nd (pi_list (pe_slice sl_list (pv 0) po_none (po_some pe_int))) (blkOk_by (own := [("cell", 1)]) (N := ["script", "cell"]) (sc := defScope s__law_pen) (by decide +kernel)) (fun _ _ _ _ _ => pg_name (i := 1) sc__law_pen.nd rfl (Or.inl rfl)) (fun _ _ _ _ _ => pts_nil) (fun _ _ _ _ _ => pv 1)) (pps_cons pe_str pe_int (pps_cons pe_str pe_int pps_nil))) (by rfl) (by rfl) (fun z => by cases z) (by decide))), ?_⟩
    obtain ⟨a, ns, rfl, hS, hlen, k⟩ := h
    intro p np
    have s0 : Same H (upd H p (.dK [])) := same_upd np
    refine ⟨_, rfl, _, rfl, a, _, rfl, s0.seq hS, ?_⟩
    intro q0 nq0
    obtain ⟨ms, ems, hms⟩ := cut_ints ns none (some 63)
    generalize hH1 : upd (upd H p (.dK [])) q0 (.lst (cutV (ns.map V.int) none (some 63))) = H1
    have s1 : Same (upd H p (.dK [])) H1 := by rw [← hH1]; exact same_upd nq0
    have e1 : H1 q0 = some (.lst (ms.map V.int)) := by rw [← hH1, ← ems]; exact upd_same
    have p1 : H1 p = some (.dK []) := s1 _ _ upd_same
    clear hH1
    refine ⟨q0, rfl, ⟨_, SqL.of e1⟩, fun D nD => ?_⟩
    refine lc_list (K := K) (a := q0) (xs := ms.map V.int) (fun i H' => ∃ acc : List Int, H' D = some (.lst (acc.map V.int)) ∧ acc.length ≤ i ∧ But D H1 H') ⟨[], upd_same, Nat.le_refl _, but_upd⟩
      (fun i H' hi ⟨acc, h1, h2, h3⟩ => SqL.of (h3 _ _ (ne_of_none e1 nD) e1)) ?_ ?_
    · rintro i x H' hi ⟨acc, h1, h2, h3⟩
      obtain ⟨n, hn, rfl⟩ := get_int hi
      refine ⟨rfl, ?_⟩
      have hil := (List.getElem?_eq_some_iff.mp hn).1
      refine ⟨_, rfl, _, h1, by rw [List.length_map]; exact small1000 (by omega), acc ++ [n], ?_, by rw [List.length_append]; exact Nat.add_le_add_right h2 1, h3.trans but_upd⟩
      rw [List.map_append]
      exact upd_same
    · rintro H' ⟨acc, h1, h2, h3⟩
      have p2 : H' p = some (.dK []) := h3 _ _ (ne_of_none p1 nD) p1
      rw [List.length_map] at h2
      refine ⟨p2, penD D 0 0, rfl, by show 3 ≤ 15; decide, ?_⟩
      have nDp : D ≠ p := fun e => by rw [e, p1] at nD; cases nD
      have sH : Same H (upd H' p (.dK (mergeK [] (penD D 0 0)))) := fun b o e => by
        rw [upd_ne (ne_of_none e np)]
        exact h3 _ _ (ne_of_none (s1 _ _ (s0 _ _ e)) nD) (s1 _ _ (s0 _ _ e))
      have mg3 : mergeK [] (penD D 0 0) = penD D 0 0 := pen_merge D
      rw [mg3] at sH ⊢
      exact k p _ np sH ⟨D, acc, 0, 0, upd_same, by rw [upd_ne nDp]; exact h1, by omega, Int.le_refl _, Int.le_refl _, Int.le_refl _⟩
def sp__law_draw (T : Txt K mg) : Sp := fun vs H Q _ => spDraw vs H Q (fun _ _ _ => False)
theorem ok__law_draw (T : Txt K mg) : FnOk P w K mg base CX0 2 T.f__law_draw T.fd__law_draw ["pen", "many"] (sp__law_draw T) := by
  refine okD T.F__law_draw sc__law_draw (fun vs H Q E h => ?_) (fun cdv A outer s H vs Q E hr h => ?_)
  · obtain ⟨_, _, _, rfl, _⟩ := h; rfl
  · have hu := hu_of hr
    have hu64 := hr.units
    refine ⟨_, pss_cons (ps_if (pt_cmpR op_gt (pe_dget hu (pv 0) pe_str (fun _ _ => rfl)) pe_int (nomark _)) (pss_cons (ps_set (i := 2) sc__law_draw.nd rfl (Or.inl rfl) (pe_op op_mod (pe_dget hu (pv 0) pe_str (fun _ _ => rfl)) (pv 1)))
      (pss_cons (ps_dput hu (pv 0) pe_str (pe_op op_fdivY (pe_dget hu (pv 0) pe_str (fun _ _ => rfl)) (pv 1)) rfl)
      (pss_one (ps_ret (pv 2))))) pss_nil)
      (pss_cons (ps_set (i := 3) sc__law_draw.nd rfl (Or.inl rfl) (pe_dget hu (pv 0) pe_str (fun _ _ => rfl)))
      (pss_cons (ps_dput hu (pv 0) pe_str (pe_op op_add (pv 3) pe_int) rfl)
      (pss_cons (ps_set (i := 4) sc__law_draw.nd rfl (Or.inl rfl) (pe_op op_add (pe_op op_mul (pv 3) (pv 3)) pe_int))
      (pss_cons (ps_if (pt_cmpR (op_neD hu64) (pe_dget hu (pv 0) pe_str (fun _ _ => rfl)) (pe_lstY pa_nil) (nomark _)) (pss_one (ps_set (i := 4) sc__law_draw.nd rfl (Or.inl rfl) (pe_ix ix_list (pe_dget hu (pv 0) pe_str (fun _ _ => rfl)) (pe_op op_mod (pv 3) (pe_callB call_len_seq (by rfl) T.b_len PySem.boot_len (pa_cons (pe_dget hu (pv 0) pe_str (fun _ _ => rfl)) pa_nil))) (fun _ _ => rfl)))) pss_nil)
      (pss_cons (ps_if (PW.pt (pw_and (pt_cmpR op_lt (pv 3) (pe_callB call_len_seq (by rfl) T.b_len PySem.boot_len (pa_cons (pe_dget hu (pv 0) pe_str (fun _ _ => rfl)) pa_nil)) (nomark _)) (pw_and1 (pt_cmpR op_ge (pe_callB call_abs (by rfl) T.b_abs (by decide +kernel) (pa_cons (pv 4) pa_nil)) (pe_op op_pow pe_int pe_int) (nomark _))))) (pss_cons (ps_dput hu (pv 0) pe_str (pe_op op_fdivY (pe_callB call_abs (by rfl) T.b_abs (by decide +kernel) (pa_cons (pv 4) pa_nil)) (pv 1)) rfl)
      (pss_one (ps_ret (pe_op op_mod (pe_callB call_abs (by rfl) T.b_abs (by decide +kernel) (pa_cons (pv 4) pa_nil)) (pv 1))))) pss_nil)
      (pss_cons (ps_set (i := 5) sc__law_draw.nd rfl (Or.inl rfl) (pe_op op_mod (pe_op op_mul (pe_op op_add (pe_op op_add (pe_op op_mod (pv 4) pe_int) (pe_op op_mul pe_int (pv 3))) pe_int) pe_int) pe_int))
      (pss_cons (ps_for PassesOwn.never rfl (pi_range1 (by rfl) T.b_range (pa_cons pe_int pa_nil)) (pg_name (i := 6) sc__law_draw.nd rfl (Or.inl rfl)) (pss_cons (ps_set (i := 5) sc__law_draw.nd rfl (Or.inl rfl) (pe_op op_add (pe_op op_add (pe_op op_add (pe_op op_mul (pv 5) (pv 5)) (pe_op op_mul pe_int (pv 5))) (pv 3)) (pv 6)))
      (pss_one (ps_set (i := 5) sc__law_draw.nd rfl (Or.inl rfl) (pe_op op_mod (pv 5) pe_int)))))
      (pss_one (ps_ret (pe_op op_mod (pe_op op_fdivY (pv 5) pe_int) (pv 1))))))))))), ?_⟩
    obtain ⟨p, m, n, rfl, hP, hn, hm, hm2, k⟩ := h
    obtain ⟨c, ns, a, l, hd, hc, hlen, ha, han, hl⟩ := hP.ex
    have gl : ∀ H' : Hp, H' p = some (.dK (penD c a l)) → DGet H' p (.str "left") (some (.int l)) := fun H' e => by have z := DGet.k (k := Sum.inr "left") e; rw [pen_left] at z; exact z
    have ga : ∀ H' : Hp, H' p = some (.dK (penD c a l)) → DGet H' p (.str "at") (some (.int a)) := fun H' e => by have z := DGet.k (k := Sum.inr "at") e; rw [pen_at] at z; exact z
    have gc : ∀ (H' : Hp) x y, H' p = some (.dK (penD c x y)) → DGet H' p (.str "cells") (some (.ref c)) := fun H' x y e => by have z := DGet.k (k := Sum.inr "cells") e; rw [pen_cells] at z; exact z
    have ncp : c ≠ p := fun e => by rw [e, hd] at hc; cases hc
    have dl : ∀ (H' : Hp) x y z, H' p = some (.dK (penD c x y)) → DPut H' p (.str "left") (.int z) (upd H' p (.dK (penD c x z))) := fun H' x y z e => by
      have w := DPut.k (k := Sum.inr "left") (v := .int z) e (by show 3 < sizeLine; decide)
      rw [put_left] at w; exact w
    have da : ∀ (H' : Hp) x y z, H' p = some (.dK (penD c x y)) → DPut H' p (.str "at") (.int z) (upd H' p (.dK (penD c z y))) := fun H' x y z e => by
      have w := DPut.k (k := Sum.inr "at") (v := .int z) e (by show 3 < sizeLine; decide)
      rw [put_at] at w; exact w
    have fin : ∀ (d x y : Int) (H' : Hp), But p H H' → H' p = some (.dK (penD c x y)) → 0 ≤ x → x ≤ n + 1 → 0 ≤ y → 0 ≤ d → d < m → Q (.int d) H' := fun d x y H' b e h1 h2 h3 h4 h5 =>
      k d H' h4 h5 ⟨c, ns, x, y, e, b _ _ ncp hc, hlen, h1, h2, h3⟩ b (hP.kp b)
    refine ⟨_, rfl, p, _, rfl, gl _ hd, _, _, rfl, rfl, _, rfl, ?_⟩
    refine iteD (fun hl0 => ?_) (fun hl0 => ?_)
    · refine ⟨_, rfl, p, _, rfl, gl _ hd, _, rfl, _, _, rfl, rfl, hm, ?_⟩
      refine ⟨_, rfl, p, _, rfl, gl _ hd, _, rfl, _, _, rfl, rfl, ⟨hm, by omega⟩, ?_⟩
      refine ⟨_, rfl, p, _, rfl, dl _ _ _ _ hd, _, rfl, ?_⟩
      exact fin _ _ _ _ but_upd upd_same ha (by omega) (Int.ediv_nonneg hl (by omega)) (Int.emod_nonneg _ (by omega)) (Int.emod_lt_of_pos _ hm)
    · refine ⟨_, rfl, p, _, rfl, ga _ hd, ?_⟩
      refine ⟨_, rfl, _, _, rfl, rfl, _, rfl, p, _, rfl, da _ _ _ _ hd, ?_⟩
      generalize hH1 : upd H p (.dK (penD c (a + 1) l)) = H1
      have b1 : But p H H1 := by rw [← hH1]; exact but_upd
      have e1 : H1 p = some (.dK (penD c (a + 1) l)) := by rw [← hH1]; exact upd_same
      clear hH1
      have hc1 := b1 _ _ ncp hc
      have hsz : ns.length < sizeLine := Nat.lt_of_le_of_lt hlen (by decide)
      refine ⟨_, rfl, _, rfl, _, _, rfl, rfl, .inl ⟨by omega, by omega⟩, _, _, rfl, rfl, ?_⟩
      refine ⟨_, rfl, p, _, rfl, gc _ _ _ e1, Nat.zero_le _, fun q H2 nq s2 e2 => ?_⟩
      have e1' := s2 _ _ e1
      have hc2 := s2 _ _ hc1
      have b2 : But p H H2 := b1.trans (same_but s2)
      refine ⟨_, _, .lst (SqL.of hc2) (dp_ints ns), .lst (SqL.of e2) .nil, shaped_ints ns, shaped_nil, _, rfl, ?_⟩
      refine iteNe (fun hne => ?g1) (fun hne => ?g2)
      case' g1 =>
        have hpos : 0 < ns.length := by cases ns with | nil => exact absurd rfl hne | cons x r => simp
        have h0 : (0 : Int) ≤ a % (ns.length : Int) := Int.emod_nonneg _ (by omega)
        have h1 : a % (ns.length : Int) < (ns.length : Int) := Int.emod_lt_of_pos _ (by omega)
        obtain ⟨z, hz⟩ := atI_int (xs := ns.map V.int) rfl h0 h1
        refine ⟨_, rfl, p, _, rfl, gc _ _ _ e1', _, rfl, _, rfl, p, _, rfl, gc _ _ _ e1', c, _, rfl, .inl (SqL.of hc2), _, _, rfl, rfl, (by rw [List.length_map]; show (0 : Int) < (ns.length : Int); omega), c, _, _, _, rfl, rfl, SqL.of hc2, (by rw [List.length_map]; exact hz), ?_⟩
      all_goals
        -- the place is within the list, and the number great: its digits
        refine ⟨_, rfl, _, rfl, p, _, rfl, gc _ _ _ e1', c, _, rfl, .inl (SqL.of hc2), _, _, rfl, rfl, _, rfl, ?_⟩
        refine iteD (fun h1 => ?_) (fun h1 => ?_)
        · refine ⟨_, rfl, _, rfl, _, _, rfl, rfl, ⟨by decide, by decide, by decide⟩, _, _, rfl, rfl, _, rfl, ?_⟩
          refine iteD (fun h2 => ?_) (fun h2 => ?_)
          · refine ⟨_, rfl, _, rfl, _, rfl, _, _, rfl, rfl, ⟨hm, by omega⟩, _, rfl, p, _, rfl, dl _ _ _ _ e1', ?_⟩
            refine ⟨_, rfl, _, rfl, _, rfl, _, _, rfl, rfl, hm, ?_⟩
            exact fin _ _ _ _ (b2.trans but_upd) upd_same (by omega) (by omega) (Int.ediv_nonneg (absI _) (by omega)) (Int.emod_nonneg _ (by omega)) (Int.emod_lt_of_pos _ hm)
          · skip
            refine ⟨_, rfl, _, _, rfl, rfl, by show (0 : Int) < 4294967311; decide, _, rfl, _, _, rfl, rfl, .inl ⟨by decide, by decide⟩, _, _, rfl, rfl, _, _, rfl, rfl, _, _, rfl, rfl, .inr ⟨by decide, by decide⟩, _, _, rfl, rfl, by show (0 : Int) < 4294967311; decide, ?_⟩
            refine ⟨3, rfl, by decide, by decide, for_range (n := 3) (fun i σ H' => ∃ (v : Option V) (x : Int) (y z : Option V), σ = [some (.ref p), some (.int m), v, some (.int a), z, some (.int x), y] ∧ H' = H2 ∧ 0 ≤ x ∧ x < 4294967311)
              ⟨_, _, _, _, rfl, rfl, Int.emod_nonneg _ (by decide), Int.emod_lt_of_pos _ (by decide)⟩ ?_ ?_⟩
            · rintro i σ H' hi ⟨v, x, y, z, rfl, rfl, hx0, hx1⟩
              refine ⟨_, rfl, _, rfl, _, _, rfl, rfl, .inl ⟨by omega, by omega⟩, _, rfl, _, _, rfl, rfl, .inl ⟨by decide, by decide⟩, _, _, rfl, rfl, _, rfl, _, _, rfl, rfl, _, rfl, _, _, rfl, rfl, ?_⟩
              refine ⟨_, rfl, _, _, rfl, rfl, by show (0 : Int) < 4294967311; decide, ?_⟩
              exact ⟨_, _, _, _, rfl, rfl, Int.emod_nonneg _ (by decide), Int.emod_lt_of_pos _ (by decide)⟩
            · rintro σ H' ⟨v, x, y, z, rfl, rfl, hx0, hx1⟩
              refine ⟨_, rfl, _, _, rfl, rfl, ⟨by decide, by decide⟩, _, rfl, _, _, rfl, rfl, hm, ?_⟩
              exact fin _ _ _ _ b2 e1' (by omega) (by omega) hl (Int.emod_nonneg _ (by omega)) (Int.emod_lt_of_pos _ hm)
        · skip
          refine ⟨_, rfl, _, _, rfl, rfl, by show (0 : Int) < 4294967311; decide, _, rfl, _, _, rfl, rfl, .inl ⟨by decide, by decide⟩, _, _, rfl, rfl, _, _, rfl, rfl, _, _, rfl, rfl, .inr ⟨by decide, by decide⟩, _, _, rfl, rfl, by show (0 : Int) < 4294967311; decide, ?_⟩
          refine ⟨3, rfl, by decide, by decide, for_range (n := 3) (fun i σ H' => ∃ (v : Option V) (x : Int) (y z : Option V), σ = [some (.ref p), some (.int m), v, some (.int a), z, some (.int x), y] ∧ H' = H2 ∧ 0 ≤ x ∧ x < 4294967311)
            ⟨_, _, _, _, rfl, rfl, Int.emod_nonneg _ (by decide), Int.emod_lt_of_pos _ (by decide)⟩ ?_ ?_⟩
          · rintro i σ H' hi ⟨v, x, y, z, rfl, rfl, hx0, hx1⟩
            refine ⟨_, rfl, _, rfl, _, _, rfl, rfl, .inl ⟨by omega, by omega⟩, _, rfl, _, _, rfl, rfl, .inl ⟨by decide, by decide⟩, _, _, rfl, rfl, _, rfl, _, _, rfl, rfl, _, rfl, _, _, rfl, rfl, ?_⟩
            refine ⟨_, rfl, _, _, rfl, rfl, by show (0 : Int) < 4294967311; decide, ?_⟩
            exact ⟨_, _, _, _, rfl, rfl, Int.emod_nonneg _ (by decide), Int.emod_lt_of_pos _ (by decide)⟩
          · rintro σ H' ⟨v, x, y, z, rfl, rfl, hx0, hx1⟩
            refine ⟨_, rfl, _, _, rfl, rfl, ⟨by decide, by decide⟩, _, rfl, _, _, rfl, rfl, hm, ?_⟩
            exact fin _ _ _ _ b2 e1' (by omega) (by omega) hl (Int.emod_nonneg _ (by omega)) (Int.emod_lt_of_pos _ hm)
def sp__law_number (T : Txt K mg) : Sp := fun vs H Q _ => spNumber vs H Q (fun _ _ _ => False)
theorem ok__law_number (T : Txt K mg) : FnOk P w K mg base CX0 3 T.f__law_number T.fd__law_number ["pen"] (sp__law_number T) := by
  refine okD T.F__law_number sc__law_number (fun vs H Q E h => ?_) (fun cdv A outer s H vs Q E hr h => ?_)
  · obtain ⟨_, _, rfl, _⟩ := h; rfl
  · have hu := hu_of hr
    have hu64 := hr.units
    refine ⟨_, pss_one (ps_ret (pe_ix ix_list (pe_lstY (pa_cons (pe_call (ok__law_draw (P := P) (w := w) (base := base) T) (hr.mono (by decide)) rfl T.mg__law_draw T.F__law_draw.kp (T.b__law_draw) .nil pass0 (pa_cons (pv 0) (pa_cons pe_int pa_nil))) (pa_cons (pe_call (ok__law_draw (P := P) (w := w) (base := base) T) (hr.mono (by decide)) rfl T.mg__law_draw T.F__law_draw.kp (T.b__law_draw) .nil pass0 (pa_cons (pv 0) (pa_cons pe_int pa_nil))) (pa_cons (pe_call (ok__law_draw (P := P) (w := w) (base := base) T) (hr.mono (by decide)) rfl T.mg__law_draw T.F__law_draw.kp (T.b__law_draw) .nil pass0 (pa_cons (pv 0) (pa_cons (pe_op op_pow pe_int pe_int) pa_nil))) pa_nil)))) (pe_call (ok__law_draw (P := P) (w := w) (base := base) T) (hr.mono (by decide)) rfl T.mg__law_draw T.F__law_draw.kp (T.b__law_draw) .nil pass0 (pa_cons (pv 0) (pa_cons pe_int pa_nil))) (fun _ _ => rfl))), ?_⟩
    obtain ⟨p, n, rfl, hP, hn, k⟩ := h
    refine ⟨_, rfl, p, 4, n, rfl, hP, by omega, by decide, by decide, fun d1 H1 a1 c1 P1 b1 k1 => ?_⟩
    refine ⟨_, rfl, p, 300, _, rfl, P1, by omega, by decide, by decide, fun d2 H2 a2 c2 P2 b2 k2 => ?_⟩
    refine ⟨_, rfl, _, _, rfl, rfl, ⟨by decide, by decide, by decide⟩, p, _, _, rfl, P2, by omega, by decide, by decide, fun d3 H3 a3 c3 P3 b3 k3 => ?_⟩
    refine ⟨by show 3 ≤ sizeLine; decide, fun q H4 nq s4 e4 => ?_⟩
    refine ⟨_, rfl, p, 3, _, rfl, P3.same s4, by omega, by decide, by decide, fun d5 H5 a5 c5 P5 b5 k5 => ?_⟩
    have c3' : d3 < 10 ^ 15 := c3
    obtain ⟨v, hv, z, rfl, z0, z1⟩ := atI_all (P := fun v => ∃ z : Int, v = .int z ∧ 0 ≤ z ∧ z < 10 ^ 15) (xs := [.int d1, .int d2, .int d3]) (i := d5)
      (by intro x hx; simp at hx; rcases hx with rfl | rfl | rfl
          · exact ⟨_, rfl, by omega, by omega⟩
          · exact ⟨_, rfl, by omega, by omega⟩
          · exact ⟨_, rfl, by omega, by omega⟩) a5 c5
    refine ⟨q, _, _, _, rfl, rfl, SqL.of (k5.lst e4), hv, ?_⟩
    have b4 : But p H3 H4 := same_but s4
    exact k z H5 z0 z1 (P5.mono (by omega)) ((((b1.trans b2).trans b3).trans b4).trans b5) (((((k1.trans k2).trans k3).trans (same_kp s4))).trans k5)
/-- a span at a value -/
def SpanV (T : Txt K mg) (H : Hp) (v : V) (l m : Int) : Prop := ∃ a dx, v = .ref a ∧ H a = some (.ins T.C_Span dx (fs_Span (.int l) (.int m)))
theorem SpanV.kp {T : Txt K mg} {H H' : Hp} {v : V} {l m : Int} (k : Kp H H') (h : SpanV T H v l m) : SpanV T H' v l m := let ⟨a, dx, e, z⟩ := h; ⟨a, dx, e, k.ins z⟩
theorem SpanV.same {T : Txt K mg} {H H' : Hp} {v : V} {l m : Int} (k : Same H H') (h : SpanV T H v l m) : SpanV T H' v l m := h.kp (same_kp k)
/-- a span is made -/
def MkSpan (T : Txt K mg) (H : Hp) (Q : VK) (l m : Int) : Prop := ∀ (v : V) (H' : Hp), Same H H' → SpanV T H' v l m → Q v H'
theorem TyX.span {T : Txt K mg} {H : Hp} {a dx : Addr} {fs : List (Str × V)} (h : H a = some (.ins T.C_Span dx fs)) : TyX K H (.ref a) (.ref T.C_Span) := .base (.ins h T.cl_Span T.ha_Span T.hn T.ht T.mo_Span)
def sp_Span_init (T : Txt K mg) : Sp := fun vs H Q _ => ∃ (x dx : Addr) (l : Int) (y : V) (m : Int), vs = [.ref x, .int l, y] ∧ (y = .non ∧ m = l ∨ y = .int m) ∧ H x = some (.ins T.C_Span dx []) ∧
  ∀ H', But x H H' → H' x = some (.ins T.C_Span dx (fs_Span (.int l) (.int m))) → Q .non H'
theorem ok_Span_init (T : Txt K mg) : FnOk P w K mg base CX0 2 T.f_Span_init T.fd_Span_init ["self", "least", "most"] (sp_Span_init T) := by
  refine okD T.F_Span_init sc_Span_init (fun vs H Q E h => ?_) (fun cdv A outer s H vs Q E hr h => ?_)
  · obtain ⟨_, _, _, _, _, rfl, _⟩ := h; rfl
  · have hu := hu_of hr
    have hu64 := hr.units
    refine ⟨_, pss_cons (ps_fldY (pv 0) (pv 1) rfl)
      (pss_one (ps_fldY (pv 0) (pe_ifExp (pt_cmpR op_isN (pv 2) pe_non (nomark _)) (pv 1) (pv 2)) rfl)), ?_⟩
    obtain ⟨x, dx, l, y, m, rfl, hy, hx, k⟩ := h
    refine ⟨_, rfl, _, rfl, x, _, dx, _, rfl, hx, T.cl_Span, T.na_Span_least, by show 0 < 1000; decide, fun H1 b1 e1 => ?_⟩
    refine ⟨_, rfl, rfl, _, rfl, ?_⟩
    rcases hy with ⟨rfl, rfl⟩ | rfl
    · refine iteT ?_
      refine ⟨_, rfl, _, rfl, x, _, dx, _, rfl, e1, T.cl_Span, T.na_Span_most, by show 1 < 1000; decide, fun H2 b2 e2 => ?_⟩
      exact k H2 (b1.trans b2) e2
    · refine iteF ?_
      refine ⟨_, rfl, _, rfl, x, _, dx, _, rfl, e1, T.cl_Span, T.na_Span_most, by show 1 < 1000; decide, fun H2 b2 e2 => ?_⟩
      exact k H2 (b1.trans b2) e2
def sp_Span_eq (T : Txt K mg) : Sp := fun vs H Q _ => ∃ (x y : V) (l m : Int), vs = [x, y] ∧ SpanV T H x l m ∧ ((∃ l' m', SpanV T H y l' m' ∧ Q (.bl (decide (l = l') && decide (m = m'))) H) ∨
  (∃ t, TyX K H y t ∧ PySem.W.kitOne K t (.ref T.C_Span) = some false ∧ Q (.bl false) H))
theorem ok_Span_eq (T : Txt K mg) : FnOk P w K mg base CX0 2 T.f_Span_eq T.fd_Span_eq ["self", "other"] (sp_Span_eq T) := by
  refine okD T.F_Span_eq sc_Span_eq (fun vs H Q E h => ?_) (fun cdv A outer s H vs Q E hr h => ?_)
  · obtain ⟨_, _, _, _, rfl, _⟩ := h; rfl
  · have hu := hu_of hr
    have hu64 := hr.units
    refine ⟨_, pss_one (ps_ret (pe_and (pe_callB call_isi (by rfl) T.b_isinstance (by decide +kernel) (pa_cons (pv 1) (pa_cons (pe_glob (v := .ref T.C_Span) rfl T.mgc_Span rfl) pa_nil))) (pe_and (pe_cmpR op_eq (pe_fld (pv 0) (by rfl)) (pe_fld (pv 1) (by rfl)) (nomark _)) (pe_one (pe_cmpR op_eq (pe_fld (pv 0) (by rfl)) (pe_fld (pv 1) (by rfl)) (nomark _)))))), ?_⟩
    obtain ⟨x, y, l, m, rfl, ⟨a, dx, rfl, hx⟩, h⟩ := h
    rcases h with ⟨l', m', ⟨b, dy, rfl, hy⟩, k⟩ | ⟨t, ht, hk, k⟩
    · refine ⟨_, rfl, _, _, _, _, true, rfl, .own _, TyX.span hy, T.ki_Span_own, _, rfl, ?_⟩
      refine iteT ?_
      refine ⟨_, rfl, a, _, dx, _, _, rfl, hx, T.cl_Span, T.na_Span_least, fs_Span_least _ _, _, rfl, b, _, dy, _, _, rfl, hy, T.cl_Span, T.na_Span_least, fs_Span_least _ _, rfl, _, rfl, ?_⟩
      refine iteEI (fun e => ?_) (fun e => ?_)
      · refine ⟨_, rfl, a, _, dx, _, _, rfl, hx, T.cl_Span, T.na_Span_most, fs_Span_most _ _, _, rfl, b, _, dy, _, _, rfl, hy, T.cl_Span, T.na_Span_most, fs_Span_most _ _, rfl, ?_⟩
        rw [decide_eq_true e, Bool.true_and] at k
        rw [dec_int]
        exact k
      · rw [decide_eq_false e, Bool.false_and] at k
        exact k
    · refine ⟨_, rfl, _, _, _, _, false, rfl, .own _, ht, hk, _, rfl, ?_⟩
      exact iteF k
def sp_Span_widened (T : Txt K mg) : Sp := fun vs H Q _ => ∃ (x : V) (l m b : Int), vs = [x, .int b] ∧ SpanV T H x l m ∧ MkSpan T H Q (max 0 (l - b)) (m + b)
theorem ok_Span_widened (T : Txt K mg) : FnOk P w K mg base CX0 4 T.f_Span_widened T.fd_Span_widened ["self", "by"] (sp_Span_widened T) := by
  refine okD T.F_Span_widened sc_Span_widened (fun vs H Q E h => ?_) (fun cdv A outer s H vs Q E hr h => ?_)
  · obtain ⟨_, _, _, _, rfl, _⟩ := h; rfl
  · have hu := hu_of hr
    have hu64 := hr.units
    obtain ⟨ds_bd_Span_init_2, bd_Span_init_2⟩ := bd_Span_init_2 T
    refine ⟨_, pss_one (ps_ret (pe_makeY T.mk_Span (ok_Span_init (P := P) (w := w) (base := base) T) (hr.mono (by decide)) rfl T.mgc_Span bd_Span_init_2.2 bd_Span_init_2.1 pass0 (pa_cons (pe_callB (call_max2 rfl) (by rfl) T.b_max (by decide +kernel) (pa_cons pe_int (pa_cons (pe_op op_sub (pe_fld (pv 0) (by rfl)) (pv 1)) pa_nil))) (pa_cons (pe_op op_add (pe_fld (pv 0) (by rfl)) (pv 1)) pa_nil)))), ?_⟩
    obtain ⟨x, l, m, b, rfl, ⟨a, dx, rfl, hx⟩, k⟩ := h
    refine ⟨_, rfl, a, _, dx, _, _, rfl, hx, T.cl_Span, T.na_Span_least, fs_Span_least _ _, _, rfl, _, _, rfl, rfl, _, _, rfl, ?_⟩
    refine ⟨_, rfl, a, _, dx, _, _, rfl, hx, T.cl_Span, T.na_Span_most, fs_Span_most _ _, _, rfl, _, _, rfl, rfl, ?_⟩
    refine fun x1 dx1 H2' n1 d1 s2' e2' => ⟨x1, dx1, _, _, _, rfl, .inr rfl, e2', fun H3 b3 e3 => ⟨rfl, ?_⟩⟩
    have e : (if l - b > 0 then l - b else 0) = max 0 (l - b) := by simp only [Int.max_def]; split <;> split <;> omega
    rw [e] at e3
    exact k _ H3 (same_new n1 s2' b3) ⟨x1, dx1, rfl, e3⟩
def sp_weighed (T : Txt K mg) : Sp := fun vs H Q _ => ∃ (d b : Int), vs = [.int d, .int b] ∧ MkSpan T H Q (max 0 (d - b)) (d + b)
theorem ok_weighed (T : Txt K mg) : FnOk P w K mg base CX0 5 T.f_weighed T.fd_weighed ["drams", "slack"] (sp_weighed T) := by
  refine okD T.F_weighed sc_weighed (fun vs H Q E h => ?_) (fun cdv A outer s H vs Q E hr h => ?_)
  · obtain ⟨_, _, rfl, _⟩ := h; rfl
  · have hu := hu_of hr
    have hu64 := hr.units
    obtain ⟨ds_bd_Span_init_1, bd_Span_init_1⟩ := bd_Span_init_1 T
    obtain ⟨ds_bd_Span_widened_1, bd_Span_widened_1⟩ := bd_Span_widened_1 T
    refine ⟨_, pss_one (ps_ret (pe_meth (pe_makeY T.mk_Span (ok_Span_init (P := P) (w := w) (base := base) T) (hr.mono (by decide)) rfl T.mgc_Span bd_Span_init_1.2 bd_Span_init_1.1 pass0 (pa_cons (pv 0) pa_nil)) T.cl_Span T.m_Span_widened (ok_Span_widened (P := P) (w := w) (base := base) T) (hr.mono (by decide)) bd_Span_widened_1.2 bd_Span_widened_1.1 pass0 (pa_cons (pv 1) pa_nil))), ?_⟩
    obtain ⟨d, b, rfl, k⟩ := h
    refine ⟨_, rfl, fun x1 dx1 H2 n1 d1 s2 e2 => ⟨x1, dx1, _, _, _, rfl, .inl ⟨rfl, rfl⟩, e2, fun H3 b3 e3 => ⟨rfl, ?_⟩⟩⟩
    have s3 := same_new n1 s2 b3
    refine ⟨x1, dx1, _, rfl, e3, fs_Span_no _ _ (by decide +kernel) (by decide +kernel), _, rfl, _, _, _, _, rfl, ⟨x1, dx1, rfl, e3⟩, fun v H4 s4 h4 => ?_⟩
    exact k v H4 (s3.trans s4) h4
def sp_yarn_in (T : Txt K mg) : Sp := fun vs H Q _ => ∃ (x y : V) (c0 c1 p q : Int), vs = [x, y] ∧ SpanV T H x c0 c1 ∧ ((y = .non ∧ p = 0 ∧ q = 0) ∨ SpanV T H y p q) ∧ 0 ≤ p ∧ 0 ≤ q ∧ p ≤ 100 ∧ q ≤ 100 ∧
  ((100 * c0 + (100 + q) - 1) / (100 + q) ≤ (100 * c1 + 100 - 1) / (100 + p) → MkSpan T H Q ((100 * c0 + (100 + q) - 1) / (100 + q)) ((100 * c1 + 100 - 1) / (100 + p))) ∧
  (¬ (100 * c0 + (100 + q) - 1) / (100 + q) ≤ (100 * c1 + 100 - 1) / (100 + p) → ∀ H', Same H H' → Q .non H')
theorem ok_yarn_in (T : Txt K mg) : FnOk P w K mg base CX0 4 T.f_yarn_in T.fd_yarn_in ["cloth", "oil"] (sp_yarn_in T) := by
  refine okD T.F_yarn_in sc_yarn_in (fun vs H Q E h => ?_) (fun cdv A outer s H vs Q E hr h => ?_)
  · obtain ⟨_, _, _, _, _, _, rfl, _⟩ := h; rfl
  · have hu := hu_of hr
    have hu64 := hr.units
    obtain ⟨ds_bd_Span_init_1, bd_Span_init_1⟩ := bd_Span_init_1 T
    obtain ⟨u_HUNDRED, gu_HUNDRED, gr_HUNDRED⟩ := T.g_HUNDRED
    obtain ⟨ds_bd_Span_init_2, bd_Span_init_2⟩ := bd_Span_init_2 T
    refine ⟨_, pss_cons (ps_set (i := 2) sc_yarn_in.nd rfl (Or.inl rfl) (pe_ifExp (pt_cmpR op_isN (pv 1) pe_non (nomark _)) (pe_makeY T.mk_Span (ok_Span_init (P := P) (w := w) (base := base) T) (hr.mono (by decide)) rfl T.mgc_Span bd_Span_init_1.2 bd_Span_init_1.1 pass0 (pa_cons pe_int pa_nil)) (pv 1)))
      (pss_cons (ps_set (i := 3) sc_yarn_in.nd rfl (Or.inl rfl) (pe_op op_add (pe_glob rfl gu_HUNDRED gr_HUNDRED) (pe_fld (pv 2) (by rfl))))
      (pss_cons (ps_set (i := 4) sc_yarn_in.nd rfl (Or.inl rfl) (pe_op op_add (pe_glob rfl gu_HUNDRED gr_HUNDRED) (pe_fld (pv 2) (by rfl))))
      (pss_cons (ps_set (i := 5) sc_yarn_in.nd rfl (Or.inl rfl) (pe_op op_fdivY (pe_op op_sub (pe_op op_add (pe_op op_mul (pe_glob rfl gu_HUNDRED gr_HUNDRED) (pe_fld (pv 0) (by rfl))) (pv 4)) pe_int) (pv 4)))
      (pss_cons (ps_set (i := 6) sc_yarn_in.nd rfl (Or.inl rfl) (pe_op op_fdivY (pe_op op_sub (pe_op op_add (pe_op op_mul (pe_glob rfl gu_HUNDRED gr_HUNDRED) (pe_fld (pv 0) (by rfl))) (pe_glob rfl gu_HUNDRED gr_HUNDRED)) pe_int) (pv 3)))
      (pss_one (ps_ret (pe_ifExp (pt_cmpR op_le (pv 5) (pv 6) (nomark _)) (pe_makeY T.mk_Span (ok_Span_init (P := P) (w := w) (base := base) T) (hr.mono (by decide)) rfl T.mgc_Span bd_Span_init_2.2 bd_Span_init_2.1 pass0 (pa_cons (pv 5) (pa_cons (pv 6) pa_nil))) pe_non))))))), ?_⟩
    obtain ⟨x, y, c0, c1, p, q, rfl, hx, hy, hp, hq, hp2, hq2, kS, kN⟩ := h
    refine ⟨_, rfl, rfl, _, rfl, ?_⟩
    have rest : True := trivial
    rcases hy with ⟨rfl, rfl, rfl⟩ | hy
    · refine iteT ?_
      refine fun x1 dx1 H2 n1 d1 s2 e2 => ⟨x1, dx1, _, _, _, rfl, .inl ⟨rfl, rfl⟩, e2, fun H3 b3 e3 => ⟨rfl, ?_⟩⟩
      have s3 := same_new n1 s2 b3
      have hy : SpanV T H3 (.ref x1) 0 0 := ⟨x1, dx1, rfl, e3⟩
      have hx3 := hx.same s3
      obtain ⟨ya, dya, eya, hya⟩ := hy
      cases eya
      obtain ⟨xa, dxa, rfl, hxa⟩ := hx3
      refine ⟨_, rfl, _, _, _, _, _, rfl, hya, T.cl_Span, T.na_Span_least, fs_Span_least _ _, _, _, rfl, rfl, ?_⟩
      refine ⟨_, rfl, _, _, _, _, _, rfl, hya, T.cl_Span, T.na_Span_most, fs_Span_most _ _, _, _, rfl, rfl, ?_⟩
      refine ⟨_, rfl, xa, _, dxa, _, _, rfl, hxa, T.cl_Span, T.na_Span_least, fs_Span_least _ _, _, _, rfl, rfl, .inl ⟨by decide, by decide⟩, _, rfl, _, _, rfl, rfl, _, _, rfl, rfl, _, rfl, _, _, rfl, rfl, ⟨by omega, by omega⟩, ?_⟩
      refine ⟨_, rfl, xa, _, dxa, _, _, rfl, hxa, T.cl_Span, T.na_Span_most, fs_Span_most _ _, _, _, rfl, rfl, .inl ⟨by decide, by decide⟩, _, _, rfl, rfl, _, _, rfl, rfl, _, rfl, _, _, rfl, rfl, ⟨by omega, by omega⟩, ?_⟩
      refine ⟨_, rfl, _, rfl, _, _, rfl, rfl, _, rfl, ?_⟩
      refine iteD (fun hle => ?_) (fun hle => ?_)
      · refine ⟨_, rfl, _, rfl, fun x1 dx1 H2 n1 d1 s2 e2 => ⟨x1, dx1, _, _, _, rfl, .inr rfl, e2, fun H4 b4 e4 => ⟨rfl, ?_⟩⟩⟩
        exact kS hle _ _ (s3.trans (same_new n1 s2 b4)) ⟨x1, dx1, rfl, e4⟩
      · exact kN hle _ s3
    · obtain ⟨yb, dy, rfl, hyb⟩ := id hy
      refine iteF ?_
      have s3 := Same.refl H
      have hx3 := hx
      refine ⟨_, rfl, ?_⟩
      obtain ⟨ya, dya, eya, hya⟩ := hy
      cases eya
      obtain ⟨xa, dxa, rfl, hxa⟩ := hx3
      refine ⟨_, rfl, _, _, _, _, _, rfl, hya, T.cl_Span, T.na_Span_least, fs_Span_least _ _, _, _, rfl, rfl, ?_⟩
      refine ⟨_, rfl, _, _, _, _, _, rfl, hya, T.cl_Span, T.na_Span_most, fs_Span_most _ _, _, _, rfl, rfl, ?_⟩
      refine ⟨_, rfl, xa, _, dxa, _, _, rfl, hxa, T.cl_Span, T.na_Span_least, fs_Span_least _ _, _, _, rfl, rfl, .inl ⟨by decide, by decide⟩, _, rfl, _, _, rfl, rfl, _, _, rfl, rfl, _, rfl, _, _, rfl, rfl, ⟨by omega, by omega⟩, ?_⟩
      refine ⟨_, rfl, xa, _, dxa, _, _, rfl, hxa, T.cl_Span, T.na_Span_most, fs_Span_most _ _, _, _, rfl, rfl, .inl ⟨by decide, by decide⟩, _, _, rfl, rfl, _, _, rfl, rfl, _, rfl, _, _, rfl, rfl, ⟨by omega, by omega⟩, ?_⟩
      refine ⟨_, rfl, _, rfl, _, _, rfl, rfl, _, rfl, ?_⟩
      refine iteD (fun hle => ?_) (fun hle => ?_)
      · refine ⟨_, rfl, _, rfl, fun x1 dx1 H2 n1 d1 s2 e2 => ⟨x1, dx1, _, _, _, rfl, .inr rfl, e2, fun H4 b4 e4 => ⟨rfl, ?_⟩⟩⟩
        exact kS hle _ _ (s3.trans (same_new n1 s2 b4)) ⟨x1, dx1, rfl, e4⟩
      · exact kN hle _ s3
def sp__law_can (T : Txt K mg) : Sp := fun vs H Q _ => ∃ (y : Int) (a b : Addr) (c0 c1 p q : Int), vs = [.int y, .ref a, .ref b] ∧ H a = some (.tup [.int c0, .int c1]) ∧ H b = some (.tup [.int p, .int q]) ∧ 0 ≤ p ∧ p ≤ 100 ∧ 0 ≤ q ∧ q ≤ 100 ∧
  Q (.bl (decide (y + y * p / 100 ≤ c1) && decide (c0 ≤ y + y * q / 100))) H
theorem ok__law_can (T : Txt K mg) : FnOk P w K mg base CX0 1 T.f__law_can T.fd__law_can ["yarn", "cloth", "a_oil"] (sp__law_can T) := by
  refine okD T.F__law_can sc__law_can (fun vs H Q E h => ?_) (fun cdv A outer s H vs Q E hr h => ?_)
  · obtain ⟨_, _, _, _, _, _, _, rfl, _⟩ := h; rfl
  · have hu := hu_of hr
    have hu64 := hr.units
    refine ⟨_, pss_cons (ps_set (i := 3) sc__law_can.nd rfl (Or.inl rfl) (pe_op op_add (pv 0) (pe_op op_fdivY (pe_op op_mul (pv 0) (pe_ix ix_tup (pv 2) pe_int (fun _ _ => rfl))) pe_int)))
      (pss_cons (ps_set (i := 4) sc__law_can.nd rfl (Or.inl rfl) (pe_op op_add (pv 0) (pe_op op_fdivY (pe_op op_mul (pv 0) (pe_ix ix_tup (pv 2) pe_int (fun _ _ => rfl))) pe_int)))
      (pss_one (ps_ret (pe_and (pe_cmpR op_le (pv 3) (pe_ix ix_tup (pv 1) pe_int (fun _ _ => rfl)) (nomark _)) (pe_one (pe_cmpR op_ge (pv 4) (pe_ix ix_tup (pv 1) pe_int (fun _ _ => rfl)) (nomark _))))))), ?_⟩
    obtain ⟨y, a, b, c0, c1, p, q, rfl, ha, hb, hp, hp2, hq, hq2, k⟩ := h
    refine ⟨_, rfl, _, rfl, _, rfl, b, _, _, _, rfl, rfl, SqT.of hb, rfl, _, _, rfl, rfl, .inr ⟨by omega, by omega⟩, _, _, rfl, rfl, ⟨by decide, by decide⟩, _, _, rfl, rfl, ?_⟩
    refine ⟨_, rfl, _, rfl, _, rfl, b, _, _, _, rfl, rfl, SqT.of hb, rfl, _, _, rfl, rfl, .inr ⟨by omega, by omega⟩, _, _, rfl, rfl, ⟨by decide, by decide⟩, _, _, rfl, rfl, ?_⟩
    refine ⟨_, rfl, _, rfl, a, _, _, _, rfl, rfl, SqT.of ha, rfl, _, _, rfl, rfl, _, rfl, ?_⟩
    refine iteD (fun h1 => ?_) (fun h1 => ?_)
    · rw [decide_eq_true h1, Bool.true_and] at k
      exact ⟨_, rfl, _, rfl, a, _, _, _, rfl, rfl, SqT.of ha, rfl, _, _, rfl, rfl, k⟩
    · rw [decide_eq_false h1, Bool.false_and] at k
      exact k
theorem fl_le {y p c : Int} (h0 : 0 ≤ p) : y + y * p / 100 ≤ c ↔ y ≤ (100 * c + 100 - 1) / (100 + p) := by
  have e : y + y * p / 100 = (y * (100 + p)) / 100 := by
    rw [Int.mul_add, Int.add_comm (y * 100), Int.add_mul_ediv_right _ _ (by decide), Int.add_comm]
  rw [e, Int.le_ediv_iff_mul_le (by omega)]
  generalize y * (100 + p) = z
  omega
theorem ce_le {y q c : Int} (h0 : 0 ≤ q) : c ≤ y + y * q / 100 ↔ (100 * c + (100 + q) - 1) / (100 + q) ≤ y := by
  have e : y + y * q / 100 = (y * (100 + q)) / 100 := by
    rw [Int.mul_add, Int.add_comm (y * 100), Int.add_mul_ediv_right _ _ (by decide), Int.add_comm]
  have e2 : (100 * c + (100 + q) - 1) / (100 + q) ≤ y ↔ (100 * c + (100 + q) - 1) / (100 + q) < y + 1 := by omega
  rw [e, e2, Int.ediv_lt_iff_lt_mul (by omega), Int.add_mul]
  generalize y * (100 + q) = z
  omega
theorem hi_le {p c : Int} (h0 : 0 ≤ p) (hc : 0 ≤ c) : (100 * c + 100 - 1) / (100 + p) ≤ c := by
  have e2 : (100 * c + 100 - 1) / (100 + p) ≤ c ↔ (100 * c + 100 - 1) / (100 + p) < c + 1 := by omega
  rw [e2, Int.ediv_lt_iff_lt_mul (by omega)]
  have z : 0 ≤ (c + 1) * p := Int.mul_nonneg (by omega) h0
  rw [Int.mul_add]
  omega
theorem lo_id {c : Int} : (100 * c + (100 + 0) - 1) / (100 + 0) = c := by
  show (100 * c + 100 - 1) / 100 = c
  omega
theorem hi_id {c : Int} : (100 * c + 100 - 1) / (100 + 0) = c := by
  show (100 * c + 100 - 1) / 100 = c
  omega
theorem lo_nn {q c : Int} (h0 : 0 ≤ q) (hc : 0 ≤ c) : 0 ≤ (100 * c + (100 + q) - 1) / (100 + q) := Int.ediv_nonneg (by omega) (by omega)
/-- n numbers from lo on -/
def seg (lo : Int) (n : Nat) : List Int := (List.range n).map fun (k : Nat) => lo + (k : Int)
theorem seg_more (lo : Int) (n : Nat) : seg lo (n + 1) = seg lo n ++ [lo + (n : Int)] := by
  unfold seg
  rw [List.range_succ, List.map_append] <;> rfl
theorem seg_len (lo : Int) (n : Nat) : (seg lo n).length = n := by unfold seg; rw [List.length_map, List.length_range]
theorem seg_first (lo : Int) (n : Nat) : (seg lo (n + 1))[0]? = some lo := by
  unfold seg
  rw [List.getElem?_map, List.getElem?_range (by omega)]
  simp
def CanP (c0 c1 p q : Int) (y : Int) : Bool := decide (y + y * p / 100 ≤ c1) && decide (c0 ≤ y + y * q / 100)
theorem can_iff {c0 c1 p q y : Int} (hp : 0 ≤ p) (hq : 0 ≤ q) : CanP c0 c1 p q y = decide ((100 * c0 + (100 + q) - 1) / (100 + q) ≤ y ∧ y ≤ (100 * c1 + 100 - 1) / (100 + p)) := by
  unfold CanP
  rw [decide_eq_decide.mpr (fl_le hp), decide_eq_decide.mpr (ce_le hq), ← Bool.decide_and]
  exact decide_eq_decide.mpr And.comm
def sp__law_right (T : Txt K mg) : Sp := fun vs H Q _ => ∃ (a b : Addr) (f : V) (c0 c1 p q : Int), vs = [.ref a, .ref b, f] ∧ H a = some (.tup [.int c0, .int c1]) ∧ H b = some (.tup [.int p, .int q]) ∧ 0 ≤ p ∧ p ≤ q ∧ q ≤ 100 ∧ 0 ≤ c0 ∧ c0 ≤ c1 ∧ c1 ≤ 2 ^ 60 ∧
  ((100 * c0 + (100 + q) - 1) / (100 + q) ≤ (100 * c1 + 100 - 1) / (100 + p) ∧ SpanV T H f ((100 * c0 + (100 + q) - 1) / (100 + q)) ((100 * c1 + 100 - 1) / (100 + p)) ∨
    ¬ (100 * c0 + (100 + q) - 1) / (100 + q) ≤ (100 * c1 + 100 - 1) / (100 + p) ∧ f = .non) ∧ ∀ H', Same H H' → Q (.bl true) H'
theorem ok__law_right (T : Txt K mg) : FnOk P w K mg base CX0 5 T.f__law_right T.fd__law_right ["cloth", "a_oil", "found"] (sp__law_right T) := by
  refine okD T.F__law_right sc__law_right (fun vs H Q E h => ?_) (fun cdv A outer s H vs Q E hr h => ?_)
  · obtain ⟨_, _, _, _, _, _, _, rfl, _⟩ := h; rfl
  · have hu := hu_of hr
    have hu64 := hr.units
    obtain ⟨ds_bd_Span_init_2, bd_Span_init_2⟩ := bd_Span_init_2 T
    refine ⟨_, pss_cons (ps_if (pt_cmpR op_lt (pe_ix ix_tup (pv 0) pe_int (fun _ _ => rfl)) pe_int (nomark _)) (pss_cons (ps_setLc (i := 3) (own := [("yarn", 4)]) (by rfl) sc__law_right.nd rfl rfl (sw_true rfl rfl rfl (by decide +kernel)) (pi_range1 (by rfl) T.b_range (pa_cons (pe_op op_add (pe_ix ix_tup (pv 0) pe_int (fun _ _ => rfl)) pe_int) pa_nil)) (blkOk_by (own := [("yarn", 4)]) (N := ["cloth", "a_oil", "found", "some", "yarn", "low"]) (sc := defScope s__law_right) (by decide +kernel)) (fun _ _ _ _ _ => pg_name (i := 4) sc__law_right.nd rfl (Or.inl rfl)) (fun _ _ _ _ _ => pts_one (pt_val (pe_call (ok__law_can (P := P) (w := w) (base := base) T) (hr.mono (by decide)) rfl T.mg__law_can T.F__law_can.kp (T.b__law_can) .nil pass0 (pa_cons (pv 4) (pa_cons (pv 0) (pa_cons (pv 1) pa_nil)))))) (fun _ _ _ _ _ => pv 4))
      (pss_one (ps_ret (pe_cmpR (op_eq.or (op_eqO (ok_Span_eq (P := P) (w := w) (base := base) T) (hr.mono (by decide)) T.m_Span_eq.at_ T.m_Span_eq.fn T.b_Span_eq pass0)) (pv 2) (pe_ifExp (pt_cmpR (op_neD hu64) (pv 3) (pe_lstY pa_nil) (nomark _)) (pe_makeY T.mk_Span (ok_Span_init (P := P) (w := w) (base := base) T) (hr.mono (by decide)) rfl T.mgc_Span bd_Span_init_2.2 bd_Span_init_2.1 pass0 (pa_cons (pe_ix ix_list (pv 3) pe_int (fun _ _ => rfl)) (pa_cons (pe_ix ix_list (pv 3) (pe_un un_neg pe_int) (fun _ _ => rfl)) pa_nil))) pe_non) (nomark _))))) pss_nil)
      (pss_cons (ps_if (pt_cmpR op_isN (pv 2) pe_non (nomark _)) (pss_cons (ps_set (i := 5) sc__law_right.nd rfl (Or.inl rfl) (pe_op op_fdivY (pe_op op_mul pe_int (pe_ix ix_tup (pv 0) pe_int (fun _ _ => rfl))) (pe_op op_add pe_int (pe_ix ix_tup (pv 1) pe_int (fun _ _ => rfl)))))
      (pss_one (ps_ret (pe_cmpR (op_eqD hu64) (pe_lc (own := [("yarn", 4)]) (by rfl) sc__law_right.nd (pi_range2 (by rfl) T.b_range (pa_cons (pe_callB (call_max2 rfl) (by rfl) T.b_max (by decide +kernel) (pa_cons pe_int (pa_cons (pe_op op_sub (pv 5) pe_int) pa_nil))) (pa_cons (pe_op op_add (pv 5) pe_int) pa_nil))) (blkOk_by (own := [("yarn", 4)]) (N := ["cloth", "a_oil", "found", "some", "yarn", "low"]) (sc := defScope s__law_right) (by decide +kernel)) (fun _ _ _ _ _ => pg_name (i := 4) sc__law_right.nd rfl (Or.inl rfl)) (fun _ _ _ _ _ => pts_one (pt_val (pe_call (ok__law_can (P := P) (w := w) (base := base) T) (hr.mono (by decide)) rfl T.mg__law_can T.F__law_can.kp (T.b__law_can) .nil pass0 (pa_cons (pv 4) (pa_cons (pv 0) (pa_cons (pv 1) pa_nil)))))) (fun _ _ _ _ _ => pv 4)) (pe_lstY pa_nil) (nomark _))))) pss_nil)
      (pss_cons (ps_if (PW.pt (pw_or (pt_not (pt_val (pe_call (ok__law_can (P := P) (w := w) (base := base) T) (hr.mono (by decide)) rfl T.mg__law_can T.F__law_can.kp (T.b__law_can) .nil pass0 (pa_cons (pe_fld (pv 2) (by rfl)) (pa_cons (pv 0) (pa_cons (pv 1) pa_nil)))))) (pw_or (pt_not (pt_val (pe_call (ok__law_can (P := P) (w := w) (base := base) T) (hr.mono (by decide)) rfl T.mg__law_can T.F__law_can.kp (T.b__law_can) .nil pass0 (pa_cons (pe_fld (pv 2) (by rfl)) (pa_cons (pv 0) (pa_cons (pv 1) pa_nil)))))) (pw_or1 (pt_cmpR op_gt (pe_fld (pv 2) (by rfl)) (pe_fld (pv 2) (by rfl)) (nomark _)))))) (pss_one (ps_ret pe_bl)) pss_nil)
      (pss_cons (ps_if (PW.pt (pw_and (pt_cmpR op_gt (pe_fld (pv 2) (by rfl)) pe_int (nomark _)) (pw_and1 (pt_val (pe_call (ok__law_can (P := P) (w := w) (base := base) T) (hr.mono (by decide)) rfl T.mg__law_can T.F__law_can.kp (T.b__law_can) .nil pass0 (pa_cons (pe_op op_sub (pe_fld (pv 2) (by rfl)) pe_int) (pa_cons (pv 0) (pa_cons (pv 1) pa_nil)))))))) (pss_one (ps_ret pe_bl)) pss_nil)
      (pss_one (ps_ret (pe_not (pe_call (ok__law_can (P := P) (w := w) (base := base) T) (hr.mono (by decide)) rfl T.mg__law_can T.F__law_can.kp (T.b__law_can) .nil pass0 (pa_cons (pe_op op_add (pe_fld (pv 2) (by rfl)) pe_int) (pa_cons (pv 0) (pa_cons (pv 1) pa_nil)))))))))), ?_⟩
    obtain ⟨a, b, f, c0, c1, p, q, rfl, ha, hb, hp, hpq, hq, hc0, hc01, hc1, hf, k⟩ := h
    refine ⟨_, rfl, a, _, _, _, rfl, rfl, SqT.of ha, rfl, _, _, rfl, rfl, _, rfl, ?_⟩
    have hcan : ∀ y, CanP c0 c1 p q y = decide ((100 * c0 + (100 + q) - 1) / (100 + q) ≤ y ∧ y ≤ (100 * c1 + 100 - 1) / (100 + p)) := fun y => can_iff hp (by omega)
    have hlo0 : 0 ≤ (100 * c0 + (100 + q) - 1) / (100 + q) := lo_nn (by omega) hc0
    have hhi1 : (100 * c1 + 100 - 1) / (100 + p) ≤ c1 := hi_le hp (by omega)
    generalize (100 * c0 + (100 + q) - 1) / (100 + q) = lo at hf hcan hlo0
    generalize (100 * c1 + 100 - 1) / (100 + p) = hi at hf hcan hhi1
    refine iteD (fun h4 => ?_) (fun h4 => ?_)
    · refine ⟨_, rfl, a, _, _, _, rfl, rfl, SqT.of ha, rfl, _, _, rfl, rfl, ?_⟩
      refine ⟨_, rfl, by show -(2 ^ 62 : Int) ≤ _; omega, by show _ < (2 ^ 62 : Int); omega, ?_⟩
      refine fun D nD => lc_range (lo := 0) (n := (c1 + 2).toNat) (fun i H' => H' D = some (.lst ((seg lo ((min (i : Int) (hi + 1) - lo).toNat)).map V.int)) ∧ But D H H') ⟨?_, but_upd⟩ ?_ ?_
      · have e0 : (min ((0 : Nat) : Int) (hi + 1) - lo).toNat = 0 := by omega
        rw [e0]
        exact upd_same
      · rintro i H' hi' ⟨e, bt⟩
        have ha' := bt _ _ (ne_of_none ha nD) ha
        have hb' := bt _ _ (ne_of_none hb nD) hb
        refine ⟨rfl, _, rfl, _, rfl, _, rfl, _, a, b, c0, c1, p, q, rfl, ha', hb', hp, by omega, by omega, hq, _, rfl, ?_⟩
        show if CanP c0 c1 p q (0 + (i : Int)) = true then _ else _
        rw [hcan]
        refine iteD (fun hy => ?_) (fun hy => ?_)
        · have e1 : (min ((i + 1 : Nat) : Int) (hi + 1) - lo).toNat = (min (i : Int) (hi + 1) - lo).toNat + 1 := by omega
          have e2 : lo + (((min (i : Int) (hi + 1) - lo).toNat : Nat) : Int) = 0 + (i : Int) := by omega
          refine ⟨_, rfl, _, e, by rw [List.length_map, seg_len]; exact small1000 (by omega), ?_, bt.trans but_upd⟩
          rw [e1, seg_more, e2, List.map_append]
          exact upd_same
        · have e1 : (min ((i + 1 : Nat) : Int) (hi + 1) - lo).toNat = (min (i : Int) (hi + 1) - lo).toNat := by omega
          refine ⟨?_, bt⟩
          rw [e1]
          exact e
      · rintro H' ⟨e, bt⟩
        have sH : Same H H' := fun x o z => bt x o (ne_of_none z nD) z
        have en : (min (((c1 + 2).toNat : Nat) : Int) (hi + 1) - lo).toNat = (hi + 1 - lo).toNat := by omega
        rw [en] at e
        refine ⟨_, rfl, _, rfl, Nat.zero_le _, fun q2 H2 nq s2 e2 => ⟨_, _, .lst (SqL.of (s2 _ _ e)) (dp_ints _), .lst (SqL.of e2) .nil, shaped_ints _, shaped_nil, _, rfl, ?_⟩⟩
        have eD := s2 _ _ e
        refine iteNe (fun hne => ?_) (fun hne => ?_)
        · have hlh : lo ≤ hi := by
            refine Int.not_lt.mp fun z => hne ?_
            have e0 : (hi + 1 - lo).toNat = 0 := by omega
            rw [e0]; rfl
          obtain ⟨m, hm⟩ : ∃ m : Nat, (hi + 1 - lo).toNat = m + 1 := ⟨(hi - lo).toNat, by omega⟩
          rw [hm] at eD
          have first : atI ((seg lo (m + 1)).map V.int) (0 : Int) = some (.int lo) := atI_nat (j := 0) (by rw [List.getElem?_map, seg_first]; rfl)
          have last : atI ((seg lo (m + 1)).map V.int) (-1 : Int) = some (.int hi) := by
            rw [seg_more, List.map_append]
            have : lo + (m : Int) = hi := by omega
            rw [this]
            exact atI_last _ _
          refine ⟨_, rfl, D, _, _, _, rfl, rfl, SqL.of eD, first, _, rfl, _, rfl, D, _, _, _, rfl, rfl, SqL.of eD, last, ?_⟩
          refine fun x1 dx1 H2' n1 d1 s2' e2' => ⟨x1, dx1, _, _, _, rfl, .inr rfl, e2', fun H3 b3 e3 => ⟨rfl, ?_⟩⟩
          rcases hf with ⟨_, hf⟩ | ⟨z, _⟩
          · have s3 := sH.trans (s2.trans (same_new n1 s2' b3))
            obtain ⟨fa, fdx, rfl, hfa⟩ := hf.same s3
            refine .inr ⟨fa, fdx, _, _, rfl, hfa, .ins e3, T.nF_Span_own, _, _, lo, hi, rfl, ⟨fa, fdx, rfl, hfa⟩, .inl ⟨lo, hi, ⟨x1, dx1, rfl, e3⟩, ?_⟩⟩
            rw [decide_eq_true rfl, decide_eq_true rfl]
            exact k _ s3
          · exact absurd hlh z
        · have hlh : ¬ lo ≤ hi := fun z => by
            have e0 := congrArg List.length hne
            rw [seg_len] at e0
            simp at e0
            omega
          rcases hf with ⟨z, _⟩ | ⟨_, rfl⟩
          · exact absurd z hlh
          · exact .inl ⟨rfl, k _ (sH.trans s2)⟩
    · refine ⟨_, rfl, rfl, _, rfl, ?_⟩
      rcases hf with ⟨hlh, hf⟩ | ⟨hlh, rfl⟩
      · obtain ⟨fa, fdx, rfl, hfa⟩ := id hf
        refine iteF ?_
        have vl : CanP c0 c1 p q lo = true := by rw [hcan]; exact decide_eq_true ⟨Int.le_refl _, hlh⟩
        have vh : CanP c0 c1 p q hi = true := by rw [hcan]; exact decide_eq_true ⟨hlh, Int.le_refl _⟩
        have vl1 : CanP c0 c1 p q (lo - 1) = false := by rw [hcan]; exact decide_eq_false (by omega)
        have vh1 : CanP c0 c1 p q (hi + 1) = false := by rw [hcan]; exact decide_eq_false (by omega)
        unfold CanP at vl vh vl1 vh1
        refine ⟨_, rfl, fa, _, fdx, _, _, rfl, hfa, T.cl_Span, T.na_Span_least, fs_Span_least _ _, _, rfl, _, rfl, lo, a, b, c0, c1, p, q, rfl, ha, hb, hp, by omega, by omega, hq, _, rfl, ?_⟩
        rw [vl]
        refine ⟨_, rfl, fa, _, fdx, _, _, rfl, hfa, T.cl_Span, T.na_Span_most, fs_Span_most _ _, _, rfl, _, rfl, hi, a, b, c0, c1, p, q, rfl, ha, hb, hp, by omega, by omega, hq, _, rfl, ?_⟩
        rw [vh]
        refine ⟨_, rfl, fa, _, fdx, _, _, rfl, hfa, T.cl_Span, T.na_Span_least, fs_Span_least _ _, _, rfl, fa, _, fdx, _, _, rfl, hfa, T.cl_Span, T.na_Span_most, fs_Span_most _ _, _, _, rfl, rfl, _, rfl, ?_⟩
        refine iteD (fun z => absurd hlh (by omega)) (fun _ => ?_)
        refine ⟨_, rfl, fa, _, fdx, _, _, rfl, hfa, T.cl_Span, T.na_Span_least, fs_Span_least _ _, _, _, rfl, rfl, _, rfl, ?_⟩
        have tail : ∃ v, start ["cloth", "a_oil", "found", "some", "yarn", "low"] [.ref a, .ref b, .ref fa] = v := ⟨_, rfl⟩
        refine iteD (fun z => ?_) (fun z => ?_)
        · refine ⟨_, rfl, fa, _, fdx, _, _, rfl, hfa, T.cl_Span, T.na_Span_least, fs_Span_least _ _, _, _, rfl, rfl, _, rfl, _, rfl, lo - 1, a, b, c0, c1, p, q, rfl, ha, hb, hp, by omega, by omega, hq, _, rfl, ?_⟩
          rw [vl1]
          refine ⟨_, rfl, fa, _, fdx, _, _, rfl, hfa, T.cl_Span, T.na_Span_most, fs_Span_most _ _, _, _, rfl, rfl, _, rfl, _, rfl, hi + 1, a, b, c0, c1, p, q, rfl, ha, hb, hp, by omega, by omega, hq, _, rfl, ?_⟩
          rw [vh1]
          exact k _ (Same.refl _)
        · refine ⟨_, rfl, fa, _, fdx, _, _, rfl, hfa, T.cl_Span, T.na_Span_most, fs_Span_most _ _, _, _, rfl, rfl, _, rfl, _, rfl, hi + 1, a, b, c0, c1, p, q, rfl, ha, hb, hp, by omega, by omega, hq, _, rfl, ?_⟩
          rw [vh1]
          exact k _ (Same.refl _)
      · refine iteT ?_
        refine ⟨_, rfl, a, _, _, _, rfl, rfl, SqT.of ha, rfl, _, _, rfl, rfl, .inl ⟨by decide, by decide⟩, _, rfl, b, _, _, _, rfl, rfl, SqT.of hb, rfl, _, _, rfl, rfl, _, _, rfl, rfl, ⟨by omega, by omega⟩, ?_⟩
        have l0 : 0 ≤ 100 * c0 / (100 + q) := Int.ediv_nonneg (by omega) (by omega)
        have l1 : 100 * c0 / (100 + q) ≤ c0 := by
          have e2 : 100 * c0 / (100 + q) ≤ c0 ↔ 100 * c0 / (100 + q) < c0 + 1 := by omega
          rw [e2, Int.ediv_lt_iff_lt_mul (by omega)]
          have z : 0 ≤ (c0 + 1) * q := Int.mul_nonneg (by omega) (by omega)
          rw [Int.mul_add]
          omega
        refine ⟨_, rfl, _, _, rfl, rfl, _, _, rfl, _, rfl, _, _, rfl, rfl, _, _, rfl, ?_⟩
        refine ⟨⟨by show -(2 ^ 62 : Int) ≤ _; omega, by show _ < (2 ^ 62 : Int); omega, by show -(2 ^ 62 : Int) ≤ _; omega, by show _ < (2 ^ 62 : Int); omega⟩, ?_⟩
        refine fun D nD => lc_range (lo := if 100 * c0 / (100 + q) - 3 > 0 then 100 * c0 / (100 + q) - 3 else 0) (n := (100 * c0 / (100 + q) + 5 - if 100 * c0 / (100 + q) - 3 > 0 then 100 * c0 / (100 + q) - 3 else 0).toNat) (fun i H' => H' D = some (.lst []) ∧ But D H H') ⟨upd_same, but_upd⟩ ?_ ?_
        · rintro i H' hi' ⟨e, bt⟩
          have ha' := bt _ _ (ne_of_none ha nD) ha
          have hb' := bt _ _ (ne_of_none hb nD) hb
          refine ⟨rfl, _, rfl, _, rfl, _, rfl, _, a, b, c0, c1, p, q, rfl, ha', hb', hp, by omega, by omega, hq, _, rfl, ?_⟩
          show if CanP c0 c1 p q ((if 100 * c0 / (100 + q) - 3 > 0 then 100 * c0 / (100 + q) - 3 else 0) + (i : Int)) = true then _ else _
          rw [hcan]
          refine iteD (fun hy => absurd (Int.le_trans hy.1 hy.2) hlh) (fun hy => ⟨e, bt⟩)
        · rintro H' ⟨e, bt⟩
          have sH : Same H H' := fun x o z => bt x o (ne_of_none z nD) z
          refine ⟨Nat.zero_le _, fun q2 H2 nq s2 e2 => ⟨_, _, .lst (SqL.of (s2 _ _ e)) (dp_ints []), .lst (SqL.of e2) .nil, shaped_ints [], shaped_nil, ?_⟩⟩
          exact k _ (sH.trans s2)
def sp_law (T : Txt K mg) : Sp := fun vs H Q _ => sp_law0 K vs H Q (fun _ _ _ => False)
theorem ok_law (T : Txt K mg) : FnOk P w K mg base CX0 8 T.f_law T.fd_law ["script"] (sp_law T) := by
  refine okD T.F_law sc_law (fun vs H Q E h => ?_) (fun cdv A outer s H vs Q E hr h => ?_)
  · obtain ⟨_, _, rfl, _⟩ := h; rfl
  · have hu := hu_of hr
    have hu64 := hr.units
    obtain ⟨ds_bd_weighed_2, bd_weighed_2⟩ := bd_weighed_2 T
    obtain ⟨its_bd_weighed_1_slack, bd_weighed_1_slack⟩ := bd_weighed_1_slack T
    obtain ⟨ds_bd_Span_init_2, bd_Span_init_2⟩ := bd_Span_init_2 T
    obtain ⟨ds_bd_weighed_1, bd_weighed_1⟩ := bd_weighed_1 T
    obtain ⟨ds_bd_Span_init_1, bd_Span_init_1⟩ := bd_Span_init_1 T
    obtain ⟨its_bd_yarn_in_1_oil, bd_yarn_in_1_oil⟩ := bd_yarn_in_1_oil T
    obtain ⟨ds_bd_yarn_in_2, bd_yarn_in_2⟩ := bd_yarn_in_2 T
    obtain ⟨ds_bd_yarn_in_1, bd_yarn_in_1⟩ := bd_yarn_in_1 T
    refine ⟨_, pss_cons (ps_set (i := 1) sc_law.nd rfl (Or.inl rfl) (pe_call (ok__law_pen (P := P) (w := w) (base := base) T) (hr.mono (by decide)) rfl T.mg__law_pen T.F__law_pen.kp (T.b__law_pen) .nil pass0 (pa_cons (pv 0) pa_nil)))
      (pss_cons (ps_for PassesOwn.never rfl (pi_range1 (by rfl) T.b_range (pa_cons (pe_op op_add pe_int (pe_callB (call_min2 rfl) (by rfl) T.b_min (by decide +kernel) (pa_cons pe_int (pa_cons (pe_callB call_len_seq (by rfl) T.b_len PySem.boot_len (pa_cons (pv 0) pa_nil)) pa_nil)))) pa_nil)) (pg_name (i := 2) sc_law.nd rfl (Or.inl rfl)) (pss_cons (ps_set (i := 3) sc_law.nd rfl (Or.inl rfl) (pe_ix ix_list (pe_lstY (pa_cons (pe_call (ok__law_draw (P := P) (w := w) (base := base) T) (hr.mono (by decide)) rfl T.mg__law_draw T.F__law_draw.kp (T.b__law_draw) .nil pass0 (pa_cons (pv 1) (pa_cons pe_int pa_nil))) (pa_cons (pe_call (ok__law_draw (P := P) (w := w) (base := base) T) (hr.mono (by decide)) rfl T.mg__law_draw T.F__law_draw.kp (T.b__law_draw) .nil pass0 (pa_cons (pv 1) (pa_cons pe_int pa_nil))) (pa_cons (pe_call (ok__law_number (P := P) (w := w) (base := base) T) (hr.mono (by decide)) rfl T.mg__law_number T.F__law_number.kp (T.b__law_number) .nil pass0 (pa_cons (pv 1) pa_nil)) pa_nil)))) (pe_call (ok__law_draw (P := P) (w := w) (base := base) T) (hr.mono (by decide)) rfl T.mg__law_draw T.F__law_draw.kp (T.b__law_draw) .nil pass0 (pa_cons (pv 1) (pa_cons pe_int pa_nil))) (fun _ _ => rfl)))
      (pss_cons (ps_set (i := 4) sc_law.nd rfl (Or.inl rfl) (pe_ix ix_list (pe_lstY (pa_cons pe_int (pa_cons pe_int (pa_cons pe_int (pa_cons (pe_call (ok__law_draw (P := P) (w := w) (base := base) T) (hr.mono (by decide)) rfl T.mg__law_draw T.F__law_draw.kp (T.b__law_draw) .nil pass0 (pa_cons (pv 1) (pa_cons pe_int pa_nil))) (pa_cons (pe_call (ok__law_number (P := P) (w := w) (base := base) T) (hr.mono (by decide)) rfl T.mg__law_number T.F__law_number.kp (T.b__law_number) .nil pass0 (pa_cons (pv 1) pa_nil)) pa_nil)))))) (pe_call (ok__law_draw (P := P) (w := w) (base := base) T) (hr.mono (by decide)) rfl T.mg__law_draw T.F__law_draw.kp (T.b__law_draw) .nil pass0 (pa_cons (pv 1) (pa_cons pe_int pa_nil))) (fun _ _ => rfl)))
      (pss_cons (ps_set (i := 5) sc_law.nd rfl (Or.inl rfl) (pe_call (ok_weighed (P := P) (w := w) (base := base) T) (hr.mono (by decide)) rfl T.mg_weighed T.F_weighed.kp bd_weighed_2.2 bd_weighed_2.1 pass0 (pa_cons (pv 3) (pa_cons (pv 4) pa_nil))))
      (pss_cons (ps_if (PW.pt (pw_or (pt_cmpR (op_neO (ok_Span_eq (P := P) (w := w) (base := base) T) (hr.mono (by decide)) T.m_Span_eq.at_ T.m_Span_eq.fn T.ne_Span T.mo_Span T.b_Span_eq pass0) (pv 5) (pe_makeY T.mk_Span (ok_Span_init (P := P) (w := w) (base := base) T) (hr.mono (by decide)) rfl T.mgc_Span bd_Span_init_2.2 bd_Span_init_2.1 pass0 (pa_cons (pe_callB (call_max2 rfl) (by rfl) T.b_max (by decide +kernel) (pa_cons pe_int (pa_cons (pe_op op_sub (pv 3) (pv 4)) pa_nil))) (pa_cons (pe_op op_add (pv 3) (pv 4)) pa_nil))) (nomark _)) (pw_or1 (pt_cmpR (op_neO (ok_Span_eq (P := P) (w := w) (base := base) T) (hr.mono (by decide)) T.m_Span_eq.at_ T.m_Span_eq.fn T.ne_Span T.mo_Span T.b_Span_eq pass0) (pe_callN (ok_weighed (P := P) (w := w) (base := base) T) (hr.mono (by decide)) rfl T.mg_weighed T.F_weighed.kp bd_weighed_1_slack pass0 (pa_cons (pv 3) pa_nil) (pk_cons (pv 4) pk_nil)) (pv 5) (nomark _))))) (pss_one (ps_ret pe_bl)) pss_nil)
      (pss_cons (ps_if (pt_cmpR (op_neO (ok_Span_eq (P := P) (w := w) (base := base) T) (hr.mono (by decide)) T.m_Span_eq.at_ T.m_Span_eq.fn T.ne_Span T.mo_Span T.b_Span_eq pass0) (pe_call (ok_weighed (P := P) (w := w) (base := base) T) (hr.mono (by decide)) rfl T.mg_weighed T.F_weighed.kp bd_weighed_1.2 bd_weighed_1.1 pass0 (pa_cons (pv 3) pa_nil)) (pe_makeY T.mk_Span (ok_Span_init (P := P) (w := w) (base := base) T) (hr.mono (by decide)) rfl T.mgc_Span bd_Span_init_1.2 bd_Span_init_1.1 pass0 (pa_cons (pv 3) pa_nil)) (nomark _)) (pss_one (ps_ret pe_bl)) pss_nil)
      (pss_cons (ps_set (i := 6) sc_law.nd rfl (Or.inl rfl) (pe_ix ix_list (pe_lstY (pa_cons pe_int (pa_cons (pe_call (ok__law_draw (P := P) (w := w) (base := base) T) (hr.mono (by decide)) rfl T.mg__law_draw T.F__law_draw.kp (T.b__law_draw) .nil pass0 (pa_cons (pv 1) (pa_cons pe_int pa_nil))) (pa_cons pe_int pa_nil)))) (pe_call (ok__law_draw (P := P) (w := w) (base := base) T) (hr.mono (by decide)) rfl T.mg__law_draw T.F__law_draw.kp (T.b__law_draw) .nil pass0 (pa_cons (pv 1) (pa_cons pe_int pa_nil))) (fun _ _ => rfl)))
      (pss_cons (ps_set (i := 7) sc_law.nd rfl (Or.inl rfl) (pe_tupY (pa_cons (pv 6) (pa_cons (pe_op op_add (pv 6) (pe_call (ok__law_draw (P := P) (w := w) (base := base) T) (hr.mono (by decide)) rfl T.mg__law_draw T.F__law_draw.kp (T.b__law_draw) .nil pass0 (pa_cons (pv 1) (pa_cons (pe_op op_sub pe_int (pv 6)) pa_nil)))) pa_nil))))
      (pss_cons (ps_set (i := 8) sc_law.nd rfl (Or.inl rfl) (pe_tupY (pa_cons (pe_fld (pv 5) (by rfl)) (pa_cons (pe_fld (pv 5) (by rfl)) pa_nil))))
      (pss_cons (ps_if (pt_not (pt_val (pe_call (ok__law_right (P := P) (w := w) (base := base) T) (hr.mono (by decide)) rfl T.mg__law_right T.F__law_right.kp (T.b__law_right) .nil pass0 (pa_cons (pv 8) (pa_cons (pv 7) (pa_cons (pe_callN (ok_yarn_in (P := P) (w := w) (base := base) T) (hr.mono (by decide)) rfl T.mg_yarn_in T.F_yarn_in.kp bd_yarn_in_1_oil pass0 (pa_cons (pv 5) pa_nil) (pk_cons (pe_makeY T.mk_Span (ok_Span_init (P := P) (w := w) (base := base) T) (hr.mono (by decide)) rfl T.mgc_Span bd_Span_init_2.2 bd_Span_init_2.1 pass0 (pa_cons (pe_ix ix_tup (pv 7) pe_int (fun _ _ => rfl)) (pa_cons (pe_ix ix_tup (pv 7) pe_int (fun _ _ => rfl)) pa_nil))) pk_nil)) pa_nil)))))) (pss_one (ps_ret pe_bl)) pss_nil)
      (pss_one (ps_if (PW.pt (pw_or (pt_cmpR (op_neO (ok_Span_eq (P := P) (w := w) (base := base) T) (hr.mono (by decide)) T.m_Span_eq.at_ T.m_Span_eq.fn T.ne_Span T.mo_Span T.b_Span_eq pass0) (pe_call (ok_yarn_in (P := P) (w := w) (base := base) T) (hr.mono (by decide)) rfl T.mg_yarn_in T.F_yarn_in.kp bd_yarn_in_1.2 bd_yarn_in_1.1 pass0 (pa_cons (pv 5) pa_nil)) (pv 5) (nomark _)) (pw_or (pt_cmpR (op_neO (ok_Span_eq (P := P) (w := w) (base := base) T) (hr.mono (by decide)) T.m_Span_eq.at_ T.m_Span_eq.fn T.ne_Span T.mo_Span T.b_Span_eq pass0) (pe_call (ok_yarn_in (P := P) (w := w) (base := base) T) (hr.mono (by decide)) rfl T.mg_yarn_in T.F_yarn_in.kp bd_yarn_in_2.2 bd_yarn_in_2.1 pass0 (pa_cons (pv 5) (pa_cons (pe_makeY T.mk_Span (ok_Span_init (P := P) (w := w) (base := base) T) (hr.mono (by decide)) rfl T.mgc_Span bd_Span_init_1.2 bd_Span_init_1.1 pass0 (pa_cons pe_int pa_nil)) pa_nil))) (pv 5) (nomark _)) (pw_or1 (pt_cmpR (op_neO (ok_Span_eq (P := P) (w := w) (base := base) T) (hr.mono (by decide)) T.m_Span_eq.at_ T.m_Span_eq.fn T.ne_Span T.mo_Span T.b_Span_eq pass0) (pv 5) (pe_makeY T.mk_Span (ok_Span_init (P := P) (w := w) (base := base) T) (hr.mono (by decide)) rfl T.mgc_Span bd_Span_init_2.2 bd_Span_init_2.1 pass0 (pa_cons (pe_ix ix_tup (pv 8) pe_int (fun _ _ => rfl)) (pa_cons (pe_ix ix_tup (pv 8) pe_int (fun _ _ => rfl)) pa_nil))) (nomark _)))))) (pss_one (ps_ret pe_bl)) pss_nil))))))))))))
      (pss_one (ps_ret (pe_and (pe_cmpR op_isN (pe_call (ok_yarn_in (P := P) (w := w) (base := base) T) (hr.mono (by decide)) rfl T.mg_yarn_in T.F_yarn_in.kp bd_yarn_in_2.2 bd_yarn_in_2.1 pass0 (pa_cons (pe_makeY T.mk_Span (ok_Span_init (P := P) (w := w) (base := base) T) (hr.mono (by decide)) rfl T.mgc_Span bd_Span_init_1.2 bd_Span_init_1.1 pass0 (pa_cons pe_int pa_nil)) (pa_cons (pe_makeY T.mk_Span (ok_Span_init (P := P) (w := w) (base := base) T) (hr.mono (by decide)) rfl T.mgc_Span bd_Span_init_1.2 bd_Span_init_1.1 pass0 (pa_cons pe_int pa_nil)) pa_nil))) pe_non (nomark _)) (pe_one (pe_cmpR (op_eqO (ok_Span_eq (P := P) (w := w) (base := base) T) (hr.mono (by decide)) T.m_Span_eq.at_ T.m_Span_eq.fn T.b_Span_eq pass0) (pe_call (ok_yarn_in (P := P) (w := w) (base := base) T) (hr.mono (by decide)) rfl T.mg_yarn_in T.F_yarn_in.kp bd_yarn_in_1.2 bd_yarn_in_1.1 pass0 (pa_cons (pe_makeY T.mk_Span (ok_Span_init (P := P) (w := w) (base := base) T) (hr.mono (by decide)) rfl T.mgc_Span bd_Span_init_1.2 bd_Span_init_1.1 pass0 (pa_cons pe_int pa_nil)) pa_nil)) (pe_makeY T.mk_Span (ok_Span_init (P := P) (w := w) (base := base) T) (hr.mono (by decide)) rfl T.mgc_Span bd_Span_init_1.2 bd_Span_init_1.1 pass0 (pa_cons pe_int pa_nil)) (nomark _))))))), ?_⟩
    obtain ⟨a, ns, rfl, hS, hlen, k⟩ := h
    refine ⟨_, rfl, a, ns, rfl, hS, hlen, fun p H0 np s0 P0 => ?_⟩
    refine ⟨_, rfl, a, _, rfl, .inl (s0.seq hS), _, _, rfl, _, _, rfl, rfl, ?_⟩
    rw [List.length_map]
    have hN : (2 + (if (ns.length : Int) < 8 then (ns.length : Int) else 8)) ≤ 10 := by split <;> omega
    refine ⟨_, rfl, by show -(2 ^ 62 : Int) ≤ _; omega, by show _ < (2 ^ 62 : Int); omega, ?_⟩
    refine for_range (lo := 0) (n := (2 + (if (ns.length : Int) < 8 then (ns.length : Int) else 8)).toNat) (fun i σ H' => ∃ (v2 v3 v4 v5 v6 v7 v8 : Option V), σ = [some (.ref a), some (.ref p), v2, v3, v4, v5, v6, v7, v8] ∧ Pen H' p (i * 50)) ⟨_, _, _, _, _, _, _, rfl, P0.mono (by omega)⟩ ?_ ?_
    · rintro i σ H' hi ⟨v2, v3, v4, v5, v6, v7, v8, rfl, P0⟩
      have hi10 : i < 10 := by omega
      refine ⟨_, rfl, p, _, _, rfl, P0, by omega, by omega, by omega, fun d1 H1 l1 u1 P1 b1 k1 => ?_⟩
      refine ⟨_, rfl, p, _, _, rfl, P1, by omega, by omega, by omega, fun d2 H2 l2 u2 P2 b2 k2 => ?_⟩
      refine ⟨_, rfl, p, _, rfl, P2, by omega, fun d3 H3 l3 u3 P3 b3 k3 => ?_⟩
      refine ⟨by show 3 ≤ sizeLine; decide, fun q4 H4 n4 s4 e4 => ?_⟩
      have P4 := P3.same s4
      refine ⟨_, rfl, p, _, _, rfl, P4, by omega, by omega, by omega, fun d5 H5 l5 u5 P5 b5 k5 => ?_⟩
      obtain ⟨w6, hw6, drams, rfl, dr0, dr1⟩ := atI_all (P := fun v => ∃ z : Int, v = .int z ∧ 0 ≤ z ∧ z < 10 ^ 15) (xs := [.int d1, .int d2, .int d3]) (i := d5)
        (by intro x hx; simp at hx; rcases hx with rfl | rfl | rfl <;> exact ⟨_, rfl, by omega, by omega⟩) l5 u5
      refine ⟨q4, _, _, _, rfl, rfl, SqL.of (k5.lst e4), hw6, ?_⟩
      -- the slackness
      refine ⟨_, rfl, p, _, _, rfl, P5, by omega, by omega, by omega, fun d6 H6 l6 u6 P6 b6 k6 => ?_⟩
      refine ⟨_, rfl, p, _, rfl, P6, by omega, fun d7 H7 l7 u7 P7 b7 k7 => ?_⟩
      refine ⟨by show 5 ≤ sizeLine; decide, fun q8 H8 n8 s8 e8 => ?_⟩
      have P8 := P7.same s8
      refine ⟨_, rfl, p, _, _, rfl, P8, by omega, by omega, by omega, fun d9 H9 l9 u9 P9 b9 k9 => ?_⟩
      obtain ⟨w9, hw9, sl, rfl, sl0, sl1⟩ := atI_all (P := fun v => ∃ z : Int, v = .int z ∧ 0 ≤ z ∧ z < 10 ^ 15) (xs := [.int 0, .int 0, .int 1, .int d6, .int d7]) (i := d9)
        (by intro x hx; simp at hx; rcases hx with rfl | rfl | rfl | rfl <;> exact ⟨_, rfl, by omega, by omega⟩) l9 u9
      refine ⟨q8, _, _, _, rfl, rfl, SqL.of (k9.lst e8), hw9, ?_⟩
      -- cloth
      refine ⟨_, rfl, _, rfl, drams, sl, rfl, fun cv Hc sc hc => ?_⟩
      have Pc := P9.same sc
      obtain ⟨ca, cdx, rfl, hca⟩ := id hc
      -- cloth != Span(..)
      refine ⟨_, rfl, _, rfl, _, rfl, _, _, rfl, rfl, _, _, rfl, _, rfl, _, rfl, _, _, rfl, rfl, ?_⟩
      refine fun x20 dx20 Ha20 n20 g20 sa20 ea20 => ⟨x20, dx20, _, _, _, rfl, .inr rfl, ea20, fun H20 b20 e20 => ⟨rfl, ?_⟩⟩
      have s20 := same_new n20 sa20 b20
      have c20 := hc.same s20
      obtain ⟨_, _, ez, h20⟩ := id c20
      cases ez
      refine ⟨ca, _, _, _, rfl, h20, .ins e20, T.nF_Span_own, _, _, _, _, rfl, c20, .inl ⟨_, _, ⟨x20, dx20, rfl, e20⟩, _, rfl, _, rfl, ?_⟩⟩
      refine iteSp (by simp only [Int.max_def]; split <;> split <;> omega) rfl ?_
      -- weighed(drams, slack=..) != cloth
      refine ⟨_, rfl, _, rfl, rfl, rfl, drams, sl, rfl, fun v21 H21 s21 h21 => ?_⟩
      have c21 := c20.same s21
      obtain ⟨_, _, ez, g21⟩ := id c21
      cases ez
      obtain ⟨x21, dx21, rfl, e21⟩ := id h21
      refine ⟨_, rfl, x21, _, _, _, rfl, e21, .ins g21, T.nF_Span_own, _, _, _, _, rfl, h21, .inl ⟨_, _, c21, _, rfl, _, rfl, ?_⟩⟩
      refine iteSp rfl rfl ?_
      -- weighed(drams) != Span(drams)
      refine ⟨_, rfl, drams, 0, rfl, fun v22 H22 s22 h22 => ?_⟩
      obtain ⟨x22, dx22, rfl, e22⟩ := id h22
      refine ⟨_, rfl, ?_⟩
      refine fun x23 dx23 Ha23 n23 g23 sa23 ea23 => ⟨x23, dx23, _, _, _, rfl, .inl ⟨rfl, rfl⟩, ea23, fun H23 b23 e23 => ⟨rfl, ?_⟩⟩
      have s23 := same_new n23 sa23 b23
      have h23 := h22.same s23
      obtain ⟨_, _, ez, g23⟩ := id h23
      cases ez
      refine ⟨x22, _, _, _, rfl, g23, .ins e23, T.nF_Span_own, _, _, _, _, rfl, h23, .inl ⟨_, _, ⟨x23, dx23, rfl, e23⟩, _, rfl, _, rfl, ?_⟩⟩
      refine iteSp (by simp only [Int.max_def]; split <;> omega) (by omega) ?_
      have s24 : Same Hc H23 := ((s20.trans s21).trans s22).trans s23
      have P24 := Pc.same s24
      have c24 := hc.same s24
      -- oil
      refine ⟨_, rfl, p, _, _, rfl, P24, by omega, by omega, by omega, fun d25 H25 l25 u25 P25 b25 k25 => ?_⟩
      refine ⟨by show 3 ≤ sizeLine; decide, fun q26 H26 n26 s26 e26 => ?_⟩
      have P26 := P25.same s26
      refine ⟨_, rfl, p, _, _, rfl, P26, by omega, by omega, by omega, fun d27 H27 l27 u27 P27 b27 k27 => ?_⟩
      obtain ⟨w28, hw28, le, rfl, le0, le1⟩ := atI_all (P := fun v => ∃ z : Int, v = .int z ∧ 0 ≤ z ∧ z ≤ 100) (xs := [.int 0, .int d25, .int 100]) (i := d27)
        (by intro x hx; simp at hx; rcases hx with rfl | rfl | rfl <;> exact ⟨_, rfl, by omega, by omega⟩) l27 u27
      refine ⟨q26, _, _, _, rfl, rfl, SqL.of (k27.lst e26), hw28, ?_⟩
      refine ⟨_, rfl, _, rfl, _, rfl, _, rfl, _, _, rfl, rfl, p, _, _, rfl, P27, by omega, by omega, by omega, fun d29 H29 l29 u29 P29 b29 k29 => ⟨_, _, rfl, rfl, ?_⟩⟩
      refine ⟨by show 2 ≤ sizeLine; decide, fun q30 H30 n30 s30 e30 => ?_⟩
      have kc : Kp H23 H30 := ((k25.trans (same_kp s26)).trans k27).trans (k29.trans (same_kp s30))
      have c30 := c24.kp kc
      have P30 := P29.same s30
      obtain ⟨_, _, ez, g30⟩ := id c30
      cases ez
      -- ends
      refine ⟨_, rfl, ca, _, _, _, _, rfl, g30, T.cl_Span, T.na_Span_least, fs_Span_least _ _, _, rfl, ca, _, _, _, _, rfl, g30, T.cl_Span, T.na_Span_most, fs_Span_most _ _, by show 2 ≤ sizeLine; decide, fun q31 H31 n31 s31 e31 => ?_⟩
      have c31 := c30.same s31
      have o31 := s31 _ _ e30
      -- yarn_in(cloth, oil=Span(..))
      refine ⟨_, rfl, _, rfl, _, rfl, _, rfl, q30, _, _, _, rfl, rfl, SqT.of o31, rfl, _, rfl, q30, _, _, _, rfl, rfl, SqT.of o31, rfl, ?_⟩
      refine fun x32 dx32 Ha32 n32 g32 sa32 ea32 => ⟨x32, dx32, _, _, _, rfl, .inr rfl, ea32, fun H32 b32 e32 => ⟨rfl, ?_⟩⟩
      have s32 := same_new n32 sa32 b32
      have c32 := c31.same s32
      have c0' : 0 ≤ max 0 (drams - sl) := by simp only [Int.max_def]; split <;> omega
      have c1' : max 0 (drams - sl) ≤ drams + sl := by simp only [Int.max_def]; split <;> omega
      refine ⟨rfl, rfl, _, _, _, _, le, le + d29, rfl, c32, .inr ⟨x32, dx32, rfl, e32⟩, le0, by omega, le1, by omega, fun hle v33 H33 s33 h33 => ?_, fun hle H33 s33 => ?_⟩
      · have e31' := s33 _ _ (s32 _ _ e31)
        have o33 := s33 _ _ (s32 _ _ o31)
        refine ⟨q31, q30, _, _, _, le, le + d29, rfl, e31', o33, le0, by omega, by omega, c0', c1', by omega, .inl ⟨hle, h33⟩, fun H34 s34 => ?_⟩
        have c34 := c32.same (s33.trans s34)
        have P34 := P30.same (((s31.trans s32).trans s33).trans s34)
        have e34 := s34 _ _ e31'
        refine ⟨_, rfl, ?_⟩
        -- yarn_in(cloth) != cloth
        refine ⟨_, rfl, _, .non, _, _, 0, 0, rfl, c34, .inl ⟨rfl, rfl, rfl⟩, by decide, by decide, by decide, by decide, fun _ v50 H50 s50 h50 => ?_, fun z => absurd (by rw [lo_id, hi_id]; exact c1') z⟩
        rw [lo_id, hi_id] at h50
        have c50 := c34.same s50
        obtain ⟨_, _, ez, g50⟩ := id c50
        cases ez
        obtain ⟨x50, dx50, rfl, e50⟩ := id h50
        refine ⟨_, rfl, x50, _, _, _, rfl, e50, .ins g50, T.nF_Span_own, _, _, _, _, rfl, h50, .inl ⟨_, _, c50, _, rfl, _, rfl, ?_⟩⟩
        refine iteSp rfl rfl ?_
        -- yarn_in(cloth, Span(0)) != cloth
        refine ⟨_, rfl, ?_⟩
        refine fun x51 dx51 Ha51 n51 g51 sa51 ea51 => ⟨x51, dx51, _, _, _, rfl, .inl ⟨rfl, rfl⟩, ea51, fun H51 b51 e51 => ⟨rfl, ?_⟩⟩
        have s51 := same_new n51 sa51 b51
        have c51 := c50.same s51
        refine ⟨_, _, _, _, 0, 0, rfl, c51, .inr ⟨x51, dx51, rfl, e51⟩, by decide, by decide, by decide, by decide, fun _ v52 H52 s52 h52 => ?_, fun z => absurd (by rw [lo_id, hi_id]; exact c1') z⟩
        rw [lo_id, hi_id] at h52
        have c52 := c51.same s52
        obtain ⟨_, _, ez, g52⟩ := id c52
        cases ez
        obtain ⟨x52, dx52, rfl, e52⟩ := id h52
        refine ⟨_, rfl, x52, _, _, _, rfl, e52, .ins g52, T.nF_Span_own, _, _, _, _, rfl, h52, .inl ⟨_, _, c52, _, rfl, _, rfl, ?_⟩⟩
        refine iteSp rfl rfl ?_
        -- cloth != Span(ends[0], ends[1])
        have e52' := s52 _ _ (s51 _ _ (s50 _ _ e34))
        refine ⟨_, rfl, _, rfl, q31, _, _, _, rfl, rfl, SqT.of e52', rfl, _, rfl, q31, _, _, _, rfl, rfl, SqT.of e52', rfl, ?_⟩
        refine fun x53 dx53 Ha53 n53 g53 sa53 ea53 => ⟨x53, dx53, _, _, _, rfl, .inr rfl, ea53, fun H53 b53 e53 => ⟨rfl, ?_⟩⟩
        have s53 := same_new n53 sa53 b53
        have c53 := c52.same s53
        obtain ⟨_, _, ez, g53⟩ := id c53
        cases ez
        refine ⟨ca, _, _, _, rfl, g53, .ins e53, T.nF_Span_own, _, _, _, _, rfl, c53, .inl ⟨_, _, ⟨x53, dx53, rfl, e53⟩, _, rfl, _, rfl, ?_⟩⟩
        refine iteSp rfl rfl ?_
        exact ⟨_, _, _, _, _, _, _, rfl, (P34.same (((s50.trans s51).trans s52).trans s53)).mono (by omega)⟩
      · have e31' := s33 _ _ (s32 _ _ e31)
        have o33 := s33 _ _ (s32 _ _ o31)
        refine ⟨q31, q30, _, _, _, le, le + d29, rfl, e31', o33, le0, by omega, by omega, c0', c1', by omega, .inr ⟨hle, rfl⟩, fun H34 s34 => ?_⟩
        have c34 := c32.same (s33.trans s34)
        have P34 := P30.same (((s31.trans s32).trans s33).trans s34)
        have e34 := s34 _ _ e31'
        refine ⟨_, rfl, ?_⟩
        -- yarn_in(cloth) != cloth
        refine ⟨_, rfl, _, .non, _, _, 0, 0, rfl, c34, .inl ⟨rfl, rfl, rfl⟩, by decide, by decide, by decide, by decide, fun _ v50 H50 s50 h50 => ?_, fun z => absurd (by rw [lo_id, hi_id]; exact c1') z⟩
        rw [lo_id, hi_id] at h50
        have c50 := c34.same s50
        obtain ⟨_, _, ez, g50⟩ := id c50
        cases ez
        obtain ⟨x50, dx50, rfl, e50⟩ := id h50
        refine ⟨_, rfl, x50, _, _, _, rfl, e50, .ins g50, T.nF_Span_own, _, _, _, _, rfl, h50, .inl ⟨_, _, c50, _, rfl, _, rfl, ?_⟩⟩
        refine iteSp rfl rfl ?_
        -- yarn_in(cloth, Span(0)) != cloth
        refine ⟨_, rfl, ?_⟩
        refine fun x51 dx51 Ha51 n51 g51 sa51 ea51 => ⟨x51, dx51, _, _, _, rfl, .inl ⟨rfl, rfl⟩, ea51, fun H51 b51 e51 => ⟨rfl, ?_⟩⟩
        have s51 := same_new n51 sa51 b51
        have c51 := c50.same s51
        refine ⟨_, _, _, _, 0, 0, rfl, c51, .inr ⟨x51, dx51, rfl, e51⟩, by decide, by decide, by decide, by decide, fun _ v52 H52 s52 h52 => ?_, fun z => absurd (by rw [lo_id, hi_id]; exact c1') z⟩
        rw [lo_id, hi_id] at h52
        have c52 := c51.same s52
        obtain ⟨_, _, ez, g52⟩ := id c52
        cases ez
        obtain ⟨x52, dx52, rfl, e52⟩ := id h52
        refine ⟨_, rfl, x52, _, _, _, rfl, e52, .ins g52, T.nF_Span_own, _, _, _, _, rfl, h52, .inl ⟨_, _, c52, _, rfl, _, rfl, ?_⟩⟩
        refine iteSp rfl rfl ?_
        -- cloth != Span(ends[0], ends[1])
        have e52' := s52 _ _ (s51 _ _ (s50 _ _ e34))
        refine ⟨_, rfl, _, rfl, q31, _, _, _, rfl, rfl, SqT.of e52', rfl, _, rfl, q31, _, _, _, rfl, rfl, SqT.of e52', rfl, ?_⟩
        refine fun x53 dx53 Ha53 n53 g53 sa53 ea53 => ⟨x53, dx53, _, _, _, rfl, .inr rfl, ea53, fun H53 b53 e53 => ⟨rfl, ?_⟩⟩
        have s53 := same_new n53 sa53 b53
        have c53 := c52.same s53
        obtain ⟨_, _, ez, g53⟩ := id c53
        cases ez
        refine ⟨ca, _, _, _, rfl, g53, .ins e53, T.nF_Span_own, _, _, _, _, rfl, c53, .inl ⟨_, _, ⟨x53, dx53, rfl, e53⟩, _, rfl, _, rfl, ?_⟩⟩
        refine iteSp rfl rfl ?_
        exact ⟨_, _, _, _, _, _, _, rfl, (P34.same (((s50.trans s51).trans s52).trans s53)).mono (by omega)⟩
    · rintro σ H' ⟨v2, v3, v4, v5, v6, v7, v8, rfl, P0⟩
      refine fun x40 dx40 Ha40 n40 g40 sa40 ea40 => ⟨x40, dx40, _, _, _, rfl, .inl ⟨rfl, rfl⟩, ea40, fun H40 b40 e40 => ⟨rfl, ?_⟩⟩
      have s40 := same_new n40 sa40 b40
      refine fun x41 dx41 Ha41 n41 g41 sa41 ea41 => ⟨x41, dx41, _, _, _, rfl, .inl ⟨rfl, rfl⟩, ea41, fun H41 b41 e41 => ⟨rfl, ?_⟩⟩
      have s41 := same_new n41 sa41 b41
      have v40 : SpanV T H41 (.ref x40) 3 3 := SpanV.same s41 ⟨x40, dx40, rfl, e40⟩
      refine ⟨_, _, 3, 3, 100, 100, rfl, v40, .inr ⟨x41, dx41, rfl, e41⟩, by decide, by decide, by decide, by decide, fun z => absurd z (by decide), fun _ H42 s42 => ⟨rfl, _, rfl, ?_⟩⟩
      refine iteT ?_
      refine fun x43 dx43 Ha43 n43 g43 sa43 ea43 => ⟨x43, dx43, _, _, _, rfl, .inl ⟨rfl, rfl⟩, ea43, fun H43 b43 e43 => ⟨rfl, ?_⟩⟩
      have s43 := same_new n43 sa43 b43
      refine ⟨_, .non, 0, 0, 0, 0, rfl, ⟨x43, dx43, rfl, e43⟩, .inl ⟨rfl, rfl, rfl⟩, by decide, by decide, by decide, by decide, fun _ v44 H44 s44 h44 => ?_, fun z => absurd (show ((100 * 0 + (100 + 0) - 1) / (100 + 0) : Int) ≤ (100 * 0 + 100 - 1) / (100 + 0) by decide) z⟩
      refine fun x45 dx45 Ha45 n45 g45 sa45 ea45 => ⟨x45, dx45, _, _, _, rfl, .inl ⟨rfl, rfl⟩, ea45, fun H45 b45 e45 => ⟨rfl, ?_⟩⟩
      have s45 := same_new n45 sa45 b45
      have h45 := h44.same s45
      obtain ⟨x44, dx44, rfl, e44⟩ := id h45
      refine ⟨x44, _, _, _, rfl, e44, .ins e45, T.nF_Span_own, _, _, _, _, rfl, h45, .inl ⟨_, _, ⟨x45, dx45, rfl, e45⟩, ?_⟩⟩
      rw [bothT (by decide) (by decide)]
      exact k _
end
theorem all_mk {l : PySem.W.OpenLaw} {w : World} {K : PySem.W.Frag} {h : Heap} {mg : Str → Option Value} {fa C_Span f__law_pen f__law_draw f__law_number f_Span_init f_Span_eq f_Span_widened f_weighed f_yarn_in f__law_can f__law_right f_law : Addr} (X : K.In h) (G : h.Ns mainGlobals mg) (hfa : mg "law" = some (.ref fa))
    {oc__law_pen kV__law_pen dc__law_pen pm__law_pen cd__law_pen ct__law_pen : Value} {od__law_pen an__law_pen : Option Addr} {sl__law_pen : Array (Option Value)}
    {oc__law_draw kV__law_draw dc__law_draw pm__law_draw cd__law_draw ct__law_draw : Value} {od__law_draw an__law_draw : Option Addr} {sl__law_draw : Array (Option Value)}
    {oc__law_number kV__law_number dc__law_number pm__law_number cd__law_number ct__law_number : Value} {od__law_number an__law_number : Option Addr} {sl__law_number : Array (Option Value)}
    {oc_Span_init kV_Span_init dc_Span_init pm_Span_init cd_Span_init ct_Span_init : Value} {od_Span_init an_Span_init : Option Addr} {sl_Span_init : Array (Option Value)}
    {T_Span_init : Addr} {ocT_Span_init : Value} {odT_Span_init : Option Addr} {nT_Span_init : Nat} {slT_Span_init : Array (Option Value)}
    {oc_Span_eq kV_Span_eq dc_Span_eq pm_Span_eq cd_Span_eq ct_Span_eq : Value} {od_Span_eq an_Span_eq : Option Addr} {sl_Span_eq : Array (Option Value)}
    {oc_Span_widened kV_Span_widened dc_Span_widened pm_Span_widened cd_Span_widened ct_Span_widened : Value} {od_Span_widened an_Span_widened : Option Addr} {sl_Span_widened : Array (Option Value)}
    {t_Span_widened_0 : Tok}
    {T_Span_widened : Addr} {ocT_Span_widened : Value} {odT_Span_widened : Option Addr} {nT_Span_widened : Nat} {slT_Span_widened : Array (Option Value)}
    {oc_weighed kV_weighed dc_weighed pm_weighed cd_weighed ct_weighed : Value} {od_weighed an_weighed : Option Addr} {sl_weighed : Array (Option Value)}
    {t_weighed_0 : Tok}
    {T_weighed : Addr} {ocT_weighed : Value} {odT_weighed : Option Addr} {nT_weighed : Nat} {slT_weighed : Array (Option Value)}
    {oc_yarn_in kV_yarn_in dc_yarn_in pm_yarn_in cd_yarn_in ct_yarn_in : Value} {od_yarn_in an_yarn_in : Option Addr} {sl_yarn_in : Array (Option Value)}
    {T_yarn_in : Addr} {ocT_yarn_in : Value} {odT_yarn_in : Option Addr} {nT_yarn_in : Nat} {slT_yarn_in : Array (Option Value)}
    {oc__law_can kV__law_can dc__law_can pm__law_can cd__law_can ct__law_can : Value} {od__law_can an__law_can : Option Addr} {sl__law_can : Array (Option Value)}
    {oc__law_right kV__law_right dc__law_right pm__law_right cd__law_right ct__law_right : Value} {od__law_right an__law_right : Option Addr} {sl__law_right : Array (Option Value)}
    {oc_law kV_law dc_law pm_law cd_law ct_law : Value} {od_law an_law : Option Addr} {sl_law : Array (Option Value)}
    {t_HUNDRED : Tok}
    (aC_Span : PySem.W.nsIn K mainGlobals "Span" = some (some (.ref C_Span)))
    (pg_Span : PySem.W.plainGet K C_Span Str.empty = true)
    (hd_Span : PySem.W.hasDictIn K C_Span = true)
    (po_Span : PySem.W.plainOver K C_Span = true)
    (sa_Span : PySem.W.findIn K (.ref C_Span) "__setattr__" = some (some (.builtin "object.__setattr__")))
    (na_Span_least : PySem.W.findIn K (.ref C_Span) "least" = some none)
    (na_Span_most : PySem.W.findIn K (.ref C_Span) "most" = some none)
    (mks_Span : PySem.W.makesIn K C_Span = true)
    (kc_Span : PySem.W.keepIn K (.ref C_Span) = true)
    (ne_Span : PySem.W.findIn K (.ref C_Span) "__ne__" = some (some (.builtin "object.__ne__")))
    (ha_Span : PySem.W.findIn K (.ref C_Span) "__class__" = some (some (.builtin "object.__class__")))
    (mo_Span : PySem.W.mroIn K C_Span (.type "object") = some true)
    (nF_Span_own : PySem.W.notFirst K C_Span (.ref C_Span) = true)
    (nF_Span_NoneType : PySem.W.notFirst K C_Span (.type "NoneType") = true)
    (ic_Span : PySem.W.isClsIn K C_Span = true)
    (ty_Span : PySem.W.typeIn K (.ref C_Span) = some (.type "type"))
    (su_Span_NoneType : PySem.W.subIn K (.type "NoneType") (.ref C_Span) = some false)
    (hn : PySem.W.specialIn K (.builtin "object.__class__") "__get__" = some (some (.builtin "getset_descriptor.__get__")))
    (ht : PySem.W.takesIn K (.builtin "object.__class__") = some true)
    (a__law_pen : PySem.W.nsIn K mainGlobals "_law_pen" = some (some (.ref f__law_pen)))
    (l__law_pen : K.lookup f__law_pen = some ⟨oc__law_pen, od__law_pen, .func (PySem.W.fnOf "_law_pen" "_law_pen" (defArgs s__law_pen) (defBody s__law_pen) (defScope s__law_pen) .none kV__law_pen dc__law_pen pm__law_pen an__law_pen cd__law_pen ct__law_pen), sl__law_pen⟩)
    (c__law_pen : PySem.W.codeIn K cd__law_pen "_law_pen" = true)
    (k__law_pen : PySem.W.keepIn K (.ref f__law_pen) = true)
    (a__law_draw : PySem.W.nsIn K mainGlobals "_law_draw" = some (some (.ref f__law_draw)))
    (l__law_draw : K.lookup f__law_draw = some ⟨oc__law_draw, od__law_draw, .func (PySem.W.fnOf "_law_draw" "_law_draw" (defArgs s__law_draw) (defBody s__law_draw) (defScope s__law_draw) .none kV__law_draw dc__law_draw pm__law_draw an__law_draw cd__law_draw ct__law_draw), sl__law_draw⟩)
    (c__law_draw : PySem.W.codeIn K cd__law_draw "_law_draw" = true)
    (k__law_draw : PySem.W.keepIn K (.ref f__law_draw) = true)
    (a__law_number : PySem.W.nsIn K mainGlobals "_law_number" = some (some (.ref f__law_number)))
    (l__law_number : K.lookup f__law_number = some ⟨oc__law_number, od__law_number, .func (PySem.W.fnOf "_law_number" "_law_number" (defArgs s__law_number) (defBody s__law_number) (defScope s__law_number) .none kV__law_number dc__law_number pm__law_number an__law_number cd__law_number ct__law_number), sl__law_number⟩)
    (c__law_number : PySem.W.codeIn K cd__law_number "_law_number" = true)
    (k__law_number : PySem.W.keepIn K (.ref f__law_number) = true)
    (a_Span_init : PySem.W.findIn K (.ref C_Span) "__init__" = some (some (.ref f_Span_init)))
    (i_Span_init : PySem.W.isFn K (.ref f_Span_init) = true)
    (l_Span_init : K.lookup f_Span_init = some ⟨oc_Span_init, od_Span_init, .func (PySem.W.fnOf "__init__" "Span.__init__" (defArgs s_Span_init) (defBody s_Span_init) (defScope s_Span_init) (.ref T_Span_init) kV_Span_init dc_Span_init pm_Span_init an_Span_init cd_Span_init ct_Span_init), sl_Span_init⟩)
    (c_Span_init : PySem.W.codeIn K cd_Span_init "Span.__init__" = true)
    (k_Span_init : PySem.W.keepIn K (.ref f_Span_init) = true)
    (lT_Span_init : K.lookup T_Span_init = some ⟨ocT_Span_init, odT_Span_init, .seq (List.toArray [Value.none]) nT_Span_init, slT_Span_init⟩)
    (a_Span_eq : PySem.W.findIn K (.ref C_Span) "__eq__" = some (some (.ref f_Span_eq)))
    (i_Span_eq : PySem.W.isFn K (.ref f_Span_eq) = true)
    (l_Span_eq : K.lookup f_Span_eq = some ⟨oc_Span_eq, od_Span_eq, .func (PySem.W.fnOf "__eq__" "Span.__eq__" (defArgs s_Span_eq) (defBody s_Span_eq) (defScope s_Span_eq) .none kV_Span_eq dc_Span_eq pm_Span_eq an_Span_eq cd_Span_eq ct_Span_eq), sl_Span_eq⟩)
    (c_Span_eq : PySem.W.codeIn K cd_Span_eq "Span.__eq__" = true)
    (k_Span_eq : PySem.W.keepIn K (.ref f_Span_eq) = true)
    (a_Span_widened : PySem.W.findIn K (.ref C_Span) "widened" = some (some (.ref f_Span_widened)))
    (i_Span_widened : PySem.W.isFn K (.ref f_Span_widened) = true)
    (l_Span_widened : K.lookup f_Span_widened = some ⟨oc_Span_widened, od_Span_widened, .func (PySem.W.fnOf "widened" "Span.widened" (defArgs s_Span_widened) (defBody s_Span_widened) (defScope s_Span_widened) (.ref T_Span_widened) kV_Span_widened dc_Span_widened pm_Span_widened an_Span_widened cd_Span_widened ct_Span_widened), sl_Span_widened⟩)
    (c_Span_widened : PySem.W.codeIn K cd_Span_widened "Span.widened" = true)
    (k_Span_widened : PySem.W.keepIn K (.ref f_Span_widened) = true)
    (lT_Span_widened : K.lookup T_Span_widened = some ⟨ocT_Span_widened, odT_Span_widened, .seq (List.toArray [Value.int 1 t_Span_widened_0]) nT_Span_widened, slT_Span_widened⟩)
    (a_weighed : PySem.W.nsIn K mainGlobals "weighed" = some (some (.ref f_weighed)))
    (l_weighed : K.lookup f_weighed = some ⟨oc_weighed, od_weighed, .func (PySem.W.fnOf "weighed" "weighed" (defArgs s_weighed) (defBody s_weighed) (defScope s_weighed) (.ref T_weighed) kV_weighed dc_weighed pm_weighed an_weighed cd_weighed ct_weighed), sl_weighed⟩)
    (c_weighed : PySem.W.codeIn K cd_weighed "weighed" = true)
    (k_weighed : PySem.W.keepIn K (.ref f_weighed) = true)
    (lT_weighed : K.lookup T_weighed = some ⟨ocT_weighed, odT_weighed, .seq (List.toArray [Value.int 0 t_weighed_0]) nT_weighed, slT_weighed⟩)
    (a_yarn_in : PySem.W.nsIn K mainGlobals "yarn_in" = some (some (.ref f_yarn_in)))
    (l_yarn_in : K.lookup f_yarn_in = some ⟨oc_yarn_in, od_yarn_in, .func (PySem.W.fnOf "yarn_in" "yarn_in" (defArgs s_yarn_in) (defBody s_yarn_in) (defScope s_yarn_in) (.ref T_yarn_in) kV_yarn_in dc_yarn_in pm_yarn_in an_yarn_in cd_yarn_in ct_yarn_in), sl_yarn_in⟩)
    (c_yarn_in : PySem.W.codeIn K cd_yarn_in "yarn_in" = true)
    (k_yarn_in : PySem.W.keepIn K (.ref f_yarn_in) = true)
    (lT_yarn_in : K.lookup T_yarn_in = some ⟨ocT_yarn_in, odT_yarn_in, .seq (List.toArray [Value.none]) nT_yarn_in, slT_yarn_in⟩)
    (a__law_can : PySem.W.nsIn K mainGlobals "_law_can" = some (some (.ref f__law_can)))
    (l__law_can : K.lookup f__law_can = some ⟨oc__law_can, od__law_can, .func (PySem.W.fnOf "_law_can" "_law_can" (defArgs s__law_can) (defBody s__law_can) (defScope s__law_can) .none kV__law_can dc__law_can pm__law_can an__law_can cd__law_can ct__law_can), sl__law_can⟩)
    (c__law_can : PySem.W.codeIn K cd__law_can "_law_can" = true)
    (k__law_can : PySem.W.keepIn K (.ref f__law_can) = true)
    (a__law_right : PySem.W.nsIn K mainGlobals "_law_right" = some (some (.ref f__law_right)))
    (l__law_right : K.lookup f__law_right = some ⟨oc__law_right, od__law_right, .func (PySem.W.fnOf "_law_right" "_law_right" (defArgs s__law_right) (defBody s__law_right) (defScope s__law_right) .none kV__law_right dc__law_right pm__law_right an__law_right cd__law_right ct__law_right), sl__law_right⟩)
    (c__law_right : PySem.W.codeIn K cd__law_right "_law_right" = true)
    (k__law_right : PySem.W.keepIn K (.ref f__law_right) = true)
    (a_law : PySem.W.nsIn K mainGlobals "law" = some (some (.ref f_law)))
    (l_law : K.lookup f_law = some ⟨oc_law, od_law, .func (PySem.W.fnOf "law" "law" (defArgs s_law) (defBody s_law) (defScope s_law) .none kV_law dc_law pm_law an_law cd_law ct_law), sl_law⟩)
    (c_law : PySem.W.codeIn K cd_law "law" = true)
    (k_law : PySem.W.keepIn K (.ref f_law) = true)
    (z_abs : PySem.W.nsIn K mainGlobals "abs" = some none)
    (z_isinstance : PySem.W.nsIn K mainGlobals "isinstance" = some none)
    (z_len : PySem.W.nsIn K mainGlobals "len" = some none)
    (z_max : PySem.W.nsIn K mainGlobals "max" = some none)
    (z_min : PySem.W.nsIn K mainGlobals "min" = some none)
    (z_range : PySem.W.nsIn K mainGlobals "range" = some none)
    (g_HUNDRED : PySem.W.nsIn K mainGlobals "HUNDRED" = some (some (Value.int 100 t_HUNDRED)))
    : ∃ fd : FuncData, (∀ (s : Shared) (v : Value), BindsTo s fd ⟨[v], []⟩ [("script", v)]) ∧ ∀ base : Heap, K.In base → base.Ns mainGlobals mg → FnOk l.prog w K mg base CX0 8 fa fd ["script"] (sp_law0 K) := by
  have e : fa = f_law := by
    have z := hfa.symm.trans (PySem.W.mg_of X G a_law)
    cases z
    rfl
  have T : ∃ T : Txt K mg, T.f_law = fa ∧ ∀ (s : Shared) (v : Value), BindsTo s T.fd_law ⟨[v], []⟩ [("script", v)] := by
    refine ⟨{ C_Span := C_Span, f__law_pen := f__law_pen, f__law_draw := f__law_draw, f__law_number := f__law_number, f_Span_init := f_Span_init, f_Span_eq := f_Span_eq, f_Span_widened := f_Span_widened, f_weighed := f_weighed, f_yarn_in := f_yarn_in, f__law_can := f__law_can, f__law_right := f__law_right, f_law := f_law, fd__law_pen := _, fd__law_draw := _, fd__law_number := _, fd_Span_init := _, fd_Span_eq := _, fd_Span_widened := _, fd_weighed := _, fd_yarn_in := _, fd__law_can := _, fd__law_right := _, fd_law := _, mgc_Span := PySem.W.mg_of X G aC_Span, cl_Span := ⟨pg_Span, hd_Span, po_Span, sa_Span⟩, na_Span_least := na_Span_least, na_Span_most := na_Span_most, mk_Span := ⟨mks_Span, a_Span_init, i_Span_init, kc_Span⟩, ne_Span := ne_Span, ha_Span := ha_Span, mo_Span := mo_Span, nF_Span_own := nF_Span_own, nF_Span_NoneType := nF_Span_NoneType, ki_Span_own := if_pos (beq_self_eq_true _), ki_Span_NoneType := kit_own ic_Span ty_Span su_Span_NoneType, hn := hn, ht := ht, mg__law_pen := PySem.W.mg_of X G a__law_pen, F__law_pen := ⟨⟨_, _, _, _, _, _, _, _, _, _, rfl, l__law_pen, c__law_pen, .inl ⟨rfl, rfl⟩, .inl rfl⟩, k__law_pen⟩, mg__law_draw := PySem.W.mg_of X G a__law_draw, F__law_draw := ⟨⟨_, _, _, _, _, _, _, _, _, _, rfl, l__law_draw, c__law_draw, .inl ⟨rfl, rfl⟩, .inl rfl⟩, k__law_draw⟩, mg__law_number := PySem.W.mg_of X G a__law_number, F__law_number := ⟨⟨_, _, _, _, _, _, _, _, _, _, rfl, l__law_number, c__law_number, .inl ⟨rfl, rfl⟩, .inl rfl⟩, k__law_number⟩, m_Span_init := ⟨a_Span_init, i_Span_init, k_Span_init⟩, F_Span_init := ⟨⟨_, _, _, _, _, _, _, _, _, _, rfl, l_Span_init, c_Span_init, .inr ⟨by simp, T_Span_init, _, [Value.none], _, rfl, lT_Span_init, rfl, .cons rfl .nil⟩, .inl rfl⟩, k_Span_init⟩, m_Span_eq := ⟨a_Span_eq, i_Span_eq, k_Span_eq⟩, F_Span_eq := ⟨⟨_, _, _, _, _, _, _, _, _, _, rfl, l_Span_eq, c_Span_eq, .inl ⟨rfl, rfl⟩, .inl rfl⟩, k_Span_eq⟩, m_Span_widened := ⟨a_Span_widened, i_Span_widened, k_Span_widened⟩, F_Span_widened := ⟨⟨_, _, _, _, _, _, _, _, _, _, rfl, l_Span_widened, c_Span_widened, .inr ⟨by simp, T_Span_widened, _, [Value.int 1 t_Span_widened_0], _, rfl, lT_Span_widened, rfl, .cons ⟨_, rfl⟩ .nil⟩, .inl rfl⟩, k_Span_widened⟩, mg_weighed := PySem.W.mg_of X G a_weighed, F_weighed := ⟨⟨_, _, _, _, _, _, _, _, _, _, rfl, l_weighed, c_weighed, .inr ⟨by simp, T_weighed, _, [Value.int 0 t_weighed_0], _, rfl, lT_weighed, rfl, .cons ⟨_, rfl⟩ .nil⟩, .inl rfl⟩, k_weighed⟩, mg_yarn_in := PySem.W.mg_of X G a_yarn_in, F_yarn_in := ⟨⟨_, _, _, _, _, _, _, _, _, _, rfl, l_yarn_in, c_yarn_in, .inr ⟨by simp, T_yarn_in, _, [Value.none], _, rfl, lT_yarn_in, rfl, .cons rfl .nil⟩, .inl rfl⟩, k_yarn_in⟩, mg__law_can := PySem.W.mg_of X G a__law_can, F__law_can := ⟨⟨_, _, _, _, _, _, _, _, _, _, rfl, l__law_can, c__law_can, .inl ⟨rfl, rfl⟩, .inl rfl⟩, k__law_can⟩, mg__law_right := PySem.W.mg_of X G a__law_right, F__law_right := ⟨⟨_, _, _, _, _, _, _, _, _, _, rfl, l__law_right, c__law_right, .inl ⟨rfl, rfl⟩, .inl rfl⟩, k__law_right⟩, mg_law := PySem.W.mg_of X G a_law, F_law := ⟨⟨_, _, _, _, _, _, _, _, _, _, rfl, l_law, c_law, .inl ⟨rfl, rfl⟩, .inl rfl⟩, k_law⟩, b_abs := PySem.W.mg_none_of X G z_abs, b_isinstance := PySem.W.mg_none_of X G z_isinstance, b_len := PySem.W.mg_none_of X G z_len, b_max := PySem.W.mg_none_of X G z_max, b_min := PySem.W.mg_none_of X G z_min, b_range := PySem.W.mg_none_of X G z_range, g_HUNDRED := ⟨_, PySem.W.mg_of X G g_HUNDRED, ⟨_, rfl⟩⟩ }, e.symm, fun s v => .of_eq rfl⟩
  obtain ⟨T, rfl, hb⟩ := T
  exact ⟨T.fd_law, hb, fun base _ _ => ok_law T⟩
theorem walk {l : PySem.W.OpenLaw} {q : Program} {loose : List Str} {XP : (Str → Option Value) → Heap → Prop} {YP : World → Heap → Prop} {d : DefRec} {K : Params → PySem.W.Frag} (hn : l.most = some 63) (hdf : d.params.defaults = [])
    (hY : ∀ (w : World) (h : Heap), YP w h → (K w.params).In h)
    (F : ∀ (w : World) (mg : Str → Option Value) (fa : Addr) (h : Heap), (K w.params).In h → h.Ns mainGlobals mg → mg d.name = some (.ref fa) →
      ∃ fd : FuncData, (∀ (s : Shared) (u : Value), BindsTo s fd ⟨[u], []⟩ [("script", u)]) ∧ ∀ base : Heap, (K w.params).In base → base.Ns mainGlobals mg → FnOk l.prog w (K w.params) mg base CX0 8 fa fd ["script"] (sp_law0 (K w.params))) :
    PySem.W.WalkO q loose XP YP l.row.toRowW d [] (fun f vs => PySem.call f vs) :=
  L2.walk_of (n := 63) (k := 8) (x := "script") (CX := fun _ => CX0) (sp := fun w => sp_law0 (K w.params)) hn (by decide) hdf ⟨rfl, by decide, by decide⟩ hY F (fun _ _ a ns hl _ hS => ⟨a, ns, rfl, hS, hl, fun _ => rfl⟩) fun _ _ _ _ _ z => z
end Law
open PySem PySem.W PyProof.Rows
set_option maxRecDepth 100000 in
set_option maxHeartbeats 0 in
theorem PySem.Challenge.cw_yarnback_k05_weighings_and_oil_holds : PySem.Challenge.rw_yarnback_k05_weighings_and_oil.Holds := by
  w_on; o_law; k_head; (case hw => w_witness2)
  k_fill
  refine Law.walk (l := PySem.Challenge.rw_yarnback_k05_weighings_and_oil) rfl rfl (fun w h Y => PySem.W.kIn_of Y) ?F
  case F =>
    intro w mg fa h KX G hmg
    refine' Law.all_mk KX G hmg ?aC_Span ?pg_Span ?hd_Span ?po_Span ?sa_Span ?na_Span_least ?na_Span_most ?mks_Span ?kc_Span ?ne_Span ?ha_Span ?mo_Span ?nF_Span_own ?nF_Span_NoneType ?ic_Span ?ty_Span ?su_Span_NoneType ?hn ?ht ?a__law_pen ?l__law_pen ?c__law_pen ?k__law_pen ?a__law_draw ?l__law_draw ?c__law_draw ?k__law_draw ?a__law_number ?l__law_number ?c__law_number ?k__law_number ?a_Span_init ?i_Span_init ?l_Span_init ?c_Span_init ?k_Span_init ?lT_Span_init ?a_Span_eq ?i_Span_eq ?l_Span_eq ?c_Span_eq ?k_Span_eq ?a_Span_widened ?i_Span_widened ?l_Span_widened ?c_Span_widened ?k_Span_widened ?lT_Span_widened ?a_weighed ?l_weighed ?c_weighed ?k_weighed ?lT_weighed ?a_yarn_in ?l_yarn_in ?c_yarn_in ?k_yarn_in ?lT_yarn_in ?a__law_can ?l__law_can ?c__law_can ?k__law_can ?a__law_right ?l__law_right ?c__law_right ?k__law_right ?a_law ?l_law ?c_law ?k_law ?z_abs ?z_isinstance ?z_len ?z_max ?z_min ?z_range ?g_HUNDRED
    (case aC_Span => k_is)
    (case pg_Span => k_is)
    (case hd_Span => k_is)
    (case po_Span => k_is)
    (case sa_Span => k_is)
    (case na_Span_least => k_is)
    (case na_Span_most => k_is)
    (case mks_Span => k_is)
    (case kc_Span => k_is)
    (case ne_Span => k_is)
    (case ha_Span => k_is)
    (case mo_Span => k_is)
    (case nF_Span_own => k_is)
    (case nF_Span_NoneType => k_is)
    (case ic_Span => k_is)
    (case ty_Span => k_is)
    (case su_Span_NoneType => k_is)
    (case hn => k_is)
    (case ht => k_is)
    (case a__law_pen => k_is)
    (case l__law_pen => k_is)
    (case c__law_pen => k_is)
    (case k__law_pen => k_is)
    (case a__law_draw => k_is)
    (case l__law_draw => k_is)
    (case c__law_draw => k_is)
    (case k__law_draw => k_is)
    (case a__law_number => k_is)
    (case l__law_number => k_is)
    (case c__law_number => k_is)
    (case k__law_number => k_is)
    (case a_Span_init => k_is)
    (case i_Span_init => k_is)
    (case l_Span_init => k_is)
    (case c_Span_init => k_is)
    (case k_Span_init => k_is)
    (case lT_Span_init => k_is)
    (case a_Span_eq => k_is)
    (case i_Span_eq => k_is)
    (case l_Span_eq => k_is)
    (case c_Span_eq => k_is)
    (case k_Span_eq => k_is)
    (case a_Span_widened => k_is)
    (case i_Span_widened => k_is)
    (case l_Span_widened => k_is)
    (case c_Span_widened => k_is)
    (case k_Span_widened => k_is)
    (case lT_Span_widened => k_is)
    (case a_weighed => k_is)
    (case l_weighed => k_is)
    (case c_weighed => k_is)
    (case k_weighed => k_is)
    (case lT_weighed => k_is)
    (case a_yarn_in => k_is)
    (case l_yarn_in => k_is)
    (case c_yarn_in => k_is)
    (case k_yarn_in => k_is)
    (case lT_yarn_in => k_is)
    (case a__law_can => k_is)
    (case l__law_can => k_is)
    (case c__law_can => k_is)
    (case k__law_can => k_is)
    (case a__law_right => k_is)
    (case l__law_right => k_is)
    (case c__law_right => k_is)
    (case k__law_right => k_is)
    (case a_law => k_is)
    (case l_law => k_is)
    (case c_law => k_is)
    (case k_law => k_is)
    (case z_abs => k_is)
    (case z_isinstance => k_is)
    (case z_len => k_is)
    (case z_max => k_is)
    (case z_min => k_is)
    (case z_range => k_is)
    (case g_HUNDRED => k_is)
