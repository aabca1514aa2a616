import PyProof.Rows.All
import Wide.All
import OpenK.AllK
import Wide.FinOn
import HandS.ForMost
import HandS.Defaults
import HandS.MakeKw
import HandS.MakeKwOnly
import HandS.Wide
import HandS.Flow
import HandS.Style
import HandS.IsInst
import HandS.StrMore
import HandS.Codes
import KE.KCallOwn
import KE.KFmtOwn
import HandS.OwnEq
import HandS.FStr
import HandS.Sort
import PySem.Challenge.RW_yarnback_k04_spans
set_option Elab.async false
set_option linter.all false
set_option maxRecDepth 100000
set_option maxHeartbeats 4000000
namespace Yarn
open PySem PySem.Spec PyProof.Rows L2

/-! ### closing a reading upwards: what holds of a continuation holds of a weaker one -/
def clA (t : TA) : TA := fun σ H K => ∃ K0, t σ H K0 ∧ ∀ xs H1, K0 xs H1 → K xs H1
def clE (t : TE) : TE := fun σ H K => ∃ K0, t σ H K0 ∧ ∀ x H1, K0 x H1 → K x H1
section
variable {X : Cx}
theorem PA.cl {es : List Expr} {t : TA} (h : PA X es t) : PA X es (clA t) := ⟨fun pos pins s σ H Q I q => by
  obtain ⟨K0, q0, m⟩ := q
  exact thn (h.run pos pins s σ H K0 I q0) fun us s1 ⟨vs, H1, I1, r, z⟩ => ⟨vs, H1, I1, r, m _ _ z⟩⟩
theorem PK.cl {ks : List Keyword} {t : TA} (h : PK X ks t) : PK X ks (clA t) := ⟨fun pos pins s σ H Q I q => by
  obtain ⟨K0, q0, m⟩ := q
  exact thn (h.run pos pins s σ H K0 I q0) fun us s1 ⟨vs, H1, I1, r, z⟩ => ⟨vs, H1, I1, r, m _ _ z⟩⟩
theorem PE.cl {e : Expr} {t : TE} (h : PE X e t) : PE X e (clE t) := ⟨fun pins s σ H Q I q => by
  obtain ⟨K0, q0, m⟩ := q
  exact thn (h.run pins s σ H K0 I q0) fun u s1 ⟨x, H1, I1, r, z⟩ => ⟨x, H1, I1, r, m _ _ z⟩⟩
theorem PE.weak {e : Expr} {t t' : TE} (h : PE X e t) (m : ∀ σ H Q, t' σ H Q → t σ H Q) : PE X e t' := ⟨fun pins s σ H Q I q => h.run pins s σ H Q I (m σ H Q q)⟩
theorem PS.weak {e : Stmt} {t t' : TS} (h : PS X e t) (m : ∀ D σ H, t' D σ H → t D σ H) : PS X e t' := ⟨fun pins s σ H D I q => h.run pins s σ H D I (m D σ H q)⟩
end

/-! ### what a step keeps -/
/-- all but the object at p -/
def But (p : Addr) (H H' : Hp) : Prop := ∀ a o, a ≠ p → H a = some o → H' a = some o
theorem But.trans {p : Addr} {H H1 H2 : Hp} (a : But p H H1) (b : But p H1 H2) : But p H H2 := fun c o h e => b c o h (a c o h e)
theorem same_but {p : Addr} {H H1 : Hp} (a : Same H H1) : But p H H1 := fun c o _ e => a c o e
theorem same_upd {H : Hp} {p : Addr} {o : HO} (h : H p = none) : Same H (upd H p o) := fun a u e => by rw [upd_ne (ne_of_none e h)]; exact e
theorem but_upd {H : Hp} {p : Addr} {o : HO} : But p H (upd H p o) := fun a u h e => by rw [upd_ne h]; exact e
/-- an object is made at x (new), and then filled -/
theorem same_new {H H1 H2 : Hp} {x : Addr} (n : H x = none) (s : Same H H1) (b : But x H1 H2) : Same H H2 := fun a o e => b a o (ne_of_none e n) (s a o e)

/-! ### displays, by what the heap behind them keeps -/
def tLstY (t : TA) : TE := fun σ H Q => t σ H fun xs H1 => xs.length ≤ sizeLine ∧ ∀ p H2, H1 p = none → Same H1 H2 → H2 p = some (.lst xs) → Q (.ref p) H2
def tTupY (t : TA) : TE := fun σ H Q => t σ H fun xs H1 => xs.length ≤ sizeLine ∧ ∀ p H2, H1 p = none → Same H1 H2 → H2 p = some (.tup xs) → Q (.ref p) H2
section
variable {X : Cx} {es : List Expr} {t : TA} {pos : Pos}
theorem pe_lstY (h : PA X es t) : PE X (.List es pos) (tLstY t) :=
  PE.weak (pe_lst (PA.cl h)) fun σ H Q q => ⟨_, q, fun xs H1 z => ⟨z.1, fun p hp => z.2 p _ hp (same_upd hp) upd_same⟩⟩
theorem pe_tupY {x1} (h : PA X es t) : PE X (.Tuple es x1 pos) (tTupY t) :=
  PE.weak (pe_tup (PA.cl h)) fun σ H Q q => ⟨_, q, fun xs H1 z => ⟨z.1, fun p hp => z.2 p _ hp (same_upd hp) upd_same⟩⟩
end

/-! ### a slice of a list -/
def rSlLY (K : PySem.W.Frag) : V → Option Int → Option Int → Hp → VK → Prop := fun x lo hi H Q => ∃ a xs, x = .ref a ∧ SqL K H a xs ∧ ∀ p H2, H p = none → Same H H2 → H2 p = some (.lst (cutV xs lo hi)) → Q (.ref p) H2

/-! ### an instance is made -/
def tMakeY (C : Addr) (sp : Sp) (dvs : List V) (E : XK) (t : TA) : TE := fun σ H Q => t σ H fun vs H1 => ∀ x dx H2, H1 x = none → dx ≠ x → Same H1 H2 → H2 x = some (.ins C dx []) →
  sp (.ref x :: (vs ++ dvs)) H2 (fun v H3 => v = .non ∧ Q (.ref x) H3) E
def tMakeNY (C : Addr) (n m : Nat) (sp : Sp) (gV : List V → List V → List V) (E : XK) (t tk : TA) : TE := fun σ H Q => t σ H fun vs H1 => tk σ H1 fun zs H2 => vs.length = n ∧ zs.length = m ∧
  ∀ x dx H3, H2 x = none → dx ≠ x → Same H2 H3 → H3 x = some (.ins C dx []) → sp (gV (.ref x :: vs) zs) H3 (fun v H4 => v = .non ∧ Q (.ref x) H4) E
section
variable {X : Cx} {CX : CXT} {k n : Nat} {f C : Addr} {fd : FuncData} {ps ks : List Str} {sp : Sp} {E : XK} {dvs : List V} {ds : List Value} {x : Str} {p pos : Pos} {e : Expr} {es : List Expr} {kws : List Keyword} {t tk : TA} {g : List Value → List Value → List Value} {gV : List V → List V → List V}
theorem same_made {H : Hp} {x dx : Addr} (hx : H x = none) (hd : H dx = none) (ne : dx ≠ x) : Same H (upd (upd H dx (.own x)) x (.ins C dx [])) := fun a o z => by
  rw [upd_ne (ne_of_none z hx), upd_ne (ne_of_none z hd)]
  exact z
theorem pe_makeY (M : Mk X.K C f) (F : FnOk X.prog X.w X.K X.mg X.base CX k f fd ps sp) (hr : Room (k + 1) X.A) (hg : Gl X x) (hm : X.mg x = some (.ref C)) (hb : Binds X.K fd ps ds) (hd : Vals dvs ds) (hx : Passes CX X E) (ha : PA X (e :: es) t)
    (hdb : (x == ("__debug__" : Str)) = false := by decide)
    (he : starEach (e :: es) X.env = (false, eval e X.env) :: starEach es X.env := by rfl) (hpl : (backTo pos (starEach es X.env)).any (·.1) = false := by rfl) :
    PE X (.Call (.Name x p) (e :: es) [] pos) (tMakeY C sp dvs E t) :=
  PE.weak (pe_make M F hr hg hm hb hd hx (PA.cl ha) hdb he hpl) fun σ H Q q => ⟨_, q, fun vs H1 z y dy h1 h2 h3 => z y dy _ h1 h3 (same_made h1 h2 h3) upd_same⟩
theorem pe_makeY0 (M : Mk X.K C f) (F : FnOk X.prog X.w X.K X.mg X.base CX k f fd ps sp) (hr : Room (k + 1) X.A) (hg : Gl X x) (hm : X.mg x = some (.ref C)) (hb : Binds X.K fd ps ds) (hd : Vals dvs ds) (hx : Passes CX X E)
    (hdb : (x == ("__debug__" : Str)) = false := by decide) :
    PE X (.Call (.Name x p) [] [] pos) (tMakeY C sp dvs E tNil) :=
  PE.weak (pe_make0 M F hr hg hm hb hd hx hdb) fun σ H Q q => fun y dy h1 h2 h3 => q y dy _ h1 h3 (same_made h1 h2 h3) upd_same
theorem pe_makeNY (M : Mk X.K C f) (F : FnOk X.prog X.w X.K X.mg X.base CX k f fd ps sp) (hr : Room (k + 1) X.A) (hg : Gl X x) (hm : X.mg x = some (.ref C)) (hb : KBn X.K fd ps (n + 1) ks g gV) (hx : Passes CX X E)
    (ha : PA X (e :: es) t) (hkw : PK X kws tk) (hall : (backToKw pos (keywordEach kws X.env)).all (·.1.isSome) = true := by rfl) (hks : (backToKw pos (keywordEach kws X.env)).filterMap (·.1) = ks := by rfl)
    (hdb : (x == ("__debug__" : Str)) = false := by decide) (he : starEach (e :: es) X.env = (false, eval e X.env) :: starEach es X.env := by rfl)
    (hpl : ((backTo pos (starEach (e :: es) X.env)).any (·.1) || (backToKw pos (keywordEach kws X.env)).any (·.1.isNone)) = false := by rfl) :
    PE X (.Call (.Name x p) (e :: es) kws pos) (tMakeNY C n ks.length sp gV E t tk) :=
  PE.weak (pe_makeN M F hr hg hm hb hx (PA.cl ha) (PK.cl hkw) hall hks hdb he hpl) fun σ H Q q =>
    ⟨_, q, fun vs H1 z => ⟨_, z, fun zs H2 ⟨l1, l2, w⟩ => ⟨l1, l2, fun y dy h1 h2 h3 => w y dy _ h1 h3 (same_made h1 h2 h3) upd_same⟩⟩⟩
theorem pe_makeKY (M : Mk X.K C f) (F : FnOk X.prog X.w X.K X.mg X.base CX k f fd ps sp) (hr : Room (k + 1) X.A) (hg : Gl X x) (hm : X.mg x = some (.ref C)) (hb : KBn X.K fd ps 1 ks g gV) (hx : Passes CX X E) (hkw : PK X kws tk)
    (hall : (backToKw pos (keywordEach kws X.env)).all (·.1.isSome) = true := by rfl) (hks : (backToKw pos (keywordEach kws X.env)).filterMap (·.1) = ks := by rfl) (hdb : (x == ("__debug__" : Str)) = false := by decide)
    (hpl : ((backTo pos (starEach [] X.env)).any (·.1) || (backToKw pos (keywordEach kws X.env)).any (·.1.isNone)) = false := by rfl) :
    PE X (.Call (.Name x p) [] kws pos) (tMakeNY C 0 ks.length sp gV E tNil tk) :=
  PE.weak (pe_makeK0 M F hr hg hm hb hx (PK.cl hkw) hall hks hdb hpl) fun σ H Q q =>
    ⟨_, q, fun zs H2 ⟨l1, l2, w⟩ => ⟨l1, l2, fun y dy h1 h2 h3 => w y dy _ h1 h3 (same_made h1 h2 h3) upd_same⟩⟩
end

/-! ### a field is stored -/
def sFldY (K : PySem.W.Frag) (ta tv : TE) (f : Str) : TS := fun D σ H => tv σ H fun y H1 => ta σ H1 fun x H2 => ∃ a C dx fs, x = .ref a ∧ H2 a = some (.ins C dx fs) ∧ Cls K C ∧ NoAttr K C f ∧ fs.length < 1000 ∧
  ∀ H3, But a H2 H3 → H3 a = some (.ins C dx (putF f y fs)) → D.nx σ H3
theorem ps_fldY {X : Cx} {o value : Expr} {f : Str} {pos pos' : Pos} {ta tv : TE} (ha : PE X o ta) (hv : PE X value tv) (hs : swapsWith value (some (.Attribute o f pos')) pos.line X.env = pure false) :
    PS X (.Assign [.Attribute o f pos'] value pos) (sFldY X.K ta tv f) :=
  PS.weak (ps_fld (PE.cl ha) (PE.cl hv) hs) fun D σ H q => ⟨_, q, fun y H1 z => ⟨_, z, fun x H2 ⟨a, C, dx, fs, e, h, c, n, l, w⟩ => ⟨a, C, dx, fs, e, h, c, n, l, w _ but_upd upd_same⟩⟩⟩
end Yarn

set_option Elab.async false
set_option linter.all false
set_option maxRecDepth 100000
set_option maxHeartbeats 4000000
namespace Yarn
open PySem PySem.Spec PyProof.Rows L2

section
variable {X : Cx} {CX : CXT} {pins : List (Addr × Obj)} {σ : L2.St} {H : Hp} {s : Shared} {C f : Addr} {fd : FuncData} {ps : List Str} {sp : Sp} {E : XK} {n : Nat}
/-- a def of the text runs somewhere below the running body -/
theorem at_fn {A : Around} {Q : VK} {us : List Value} {vs : List V} (F : FnOk X.prog X.w X.K X.mg X.base CX n f fd ps sp) (hr : Room n A) (e0 : Env0 X.prog X.w X.K X.mg X.base A X.stack s H)
    (hb : Binds X.K fd ps []) (hx : Passes CX X E) (I : Inv X pins σ H s) (r : Vals vs us) (h : sp vs H Q E) :
    wpAny (model X.prog X.w) A (call (.ref f) us) (EP X pins σ Q) X.xe s := by
  have hl := F.len _ _ _ _ h
  have hb' : BindsTo s fd ⟨us, []⟩ (ps.zip us) := by
    have z := hb s us I.kIn (by rw [List.append_nil, ← r.length]; exact hl)
    rw [List.append_nil] at z
    exact z
  refine wpAny_call (codeAny_mono (F.run A X.stack s H ⟨us, []⟩ us vs Q E hr e0 hb' r h) fun r s' hq => ?_)
  cases r with
  | error e => exact hx pins σ H s e s' I hq
  | ok fl =>
    cases fl with
    | ret u => exact I.after hq
    | next => exact hq.elim
    | brk => exact hq.elim
    | cont => exact hq.elim
theorem room_in1 {A : Around} (h : Room (n + 1) A) : Room n A.in1 := h.in1

/-! ### == and != by an own __eq__ -/
/-- the class of a value as it is looked up -/
inductive ClOf (H : Hp) : V → Value → Prop where
  | non : ClOf H .non (.type "NoneType")
  | bl (b : Bool) : ClOf H (.bl b) (.type "bool")
  | int (i : Int) : ClOf H (.int i) (.type "int")
  | str (x : Str) : ClOf H (.str x) (.type "str")
  | tup {a : Addr} {xs : List V} (e : H a = some (.tup xs)) : ClOf H (.ref a) (.type "tuple")
  | lst {a : Addr} {xs : List V} (e : H a = some (.lst xs)) : ClOf H (.ref a) (.type "list")
  | ins {a C dx : Addr} {fs : List (Str × V)} (e : H a = some (.ins C dx fs)) : ClOf H (.ref a) (.ref C)
theorem looks_cls {M : Model} {h : Heap} {a : Addr} {o : Obj} (e : h.get? a = some o) : PySem.W.Looks M h (typeOf (.ref a)) o.cls := fun A Q E s k q => wpAny_typeOf_ref (k _ _ e) q
theorem ClOf.looks {M : Model} {y : V} {u t : Value} (I : Inv X pins σ H s) (r : RelV y u) (c : ClOf H y t) : PySem.W.Looks M s.heap (typeOf u) t := by
  cases c with
  | non => cases (show u = Value.none from r); exact PySem.W.Looks.of_pure rfl
  | bl b => cases (show u = Value.bool b from r); exact PySem.W.Looks.of_pure rfl
  | int i => obtain ⟨t, q⟩ := (show ∃ t, u = Value.int i t from r); cases q; exact PySem.W.Looks.of_pure rfl
  | str x => obtain ⟨t, q⟩ := (show ∃ t, u = Value.str x t from r); cases q; exact PySem.W.Looks.of_pure rfl
  | @tup a xs ea =>
    cases (show u = Value.ref a from r)
    obtain ⟨_, _, _, o, h1, h2, _⟩ := (show ObjOk X.prog X.w H s.heap a (.tup xs) from I.hok a _ ea)
    rw [← h2]
    exact looks_cls h1
  | @lst a xs ea =>
    cases (show u = Value.ref a from r)
    obtain ⟨_, _, m, _, h1⟩ := (show ObjOk X.prog X.w H s.heap a (.lst xs) from I.hok a _ ea)
    exact looks_cls h1
  | @ins a C dx fs ea =>
    cases (show u = Value.ref a from r)
    obtain ⟨mA, O, _⟩ := ins_get I.hok ea
    obtain ⟨od, J, _⟩ := O.look
    exact J.type
/-- x == y, x an instance of the class at C -/
def rEqO (K : PySem.W.Frag) (C : Addr) (sp : Sp) (E : XK) : R2 := fun x y H Q => ∃ a dx fs tb, x = .ref a ∧ H a = some (.ins C dx fs) ∧ ClOf H y tb ∧ PySem.W.notFirst K C tb = true ∧ sp [x, y] H Q E
theorem back_cmp {P : Value → Shared → Prop} {z : V} {v : Value} {s' : Shared} (r : RelV z v) (h : P v s') : PySem.W.CmpBack P v s' := by
  cases z with
  | non => cases (show v = Value.none from r); exact h
  | bl b => cases (show v = Value.bool b from r); exact h
  | int i => obtain ⟨t, e⟩ := (show ∃ t, v = Value.int i t from r); cases e; exact h
  | str x => obtain ⟨t, e⟩ := (show ∃ t, v = Value.str x t from r); cases e; exact h
  | byt x => obtain ⟨t, e⟩ := (show ∃ t, v = Value.bytes x t from r); cases e; exact h
  | flt x => obtain ⟨t, e⟩ := (show ∃ t, v = Value.float x t from r); cases e; exact h
  | ref a => cases (show v = Value.ref a from r); exact h
  | ty m => cases (show v = Value.type m from r); exact h
theorem op_eqO (F : FnOk X.prog X.w X.K X.mg X.base CX n f fd ps sp) (hr : Room n X.A) (hs : PySem.W.findIn X.K (.ref C) "__eq__" = some (some (.ref f))) (hf : PySem.W.isFn X.K (.ref f) = true) (hb : Binds X.K fd ps [])
    (hx : Passes CX X E) : OpR X (compareOp .Eq) (rEqO X.K C sp E) := by
  intro pins s σ H x y v u Q I rx ry h
  obtain ⟨a, dx, fs, tb, rfl, ea, hc, hn, q⟩ := h
  cases (show v = Value.ref a from rx)
  obtain ⟨mA, O, _⟩ := ins_get I.hok ea
  obtain ⟨od, J, _⟩ := O.look
  obtain ⟨m, hF⟩ := I.fr
  show wpAny (model X.prog X.w) X.A (richCompare .Eq (.ref a) u) (EP X pins σ Q) X.xe s
  refine PySem.W.cmp_K (op := .Eq) (tb := tb) hr.units0 hF I.ok.mod.kin J (hc.looks I ry) hn hs hf (thn (at_fn F hr I.env0 hb hx I (.cons rx (.cons ry .nil)) q) fun w s' z => ?_)
  obtain ⟨z', H', I', rz, qz⟩ := z
  exact back_cmp rz ⟨z', H', I', rz, qz⟩

theorem ifBound_B {M : Model} {A : Around} {E : Value → Shared → Prop} {K : PySem.W.Frag} {x : Addr} {ox : Obj} {od : Option Obj} {name : Str} {id : String} {args : List Value} {Q : Option Value → Shared → Prop} (Xk : K.In s.heap) (I : PySem.W.InstAt s.heap x ox C od)
    (hs : PySem.W.findIn K (.ref C) name = some (some (.builtin id))) (hb : ∀ self, bindSpecial (.builtin id) self = pure (.builtin id, [self]))
    (h : wpAny M A (call (.builtin id) (.ref x :: args)) (fun v => Q (some v)) E s) : wpAny M A (callSpecialIfBound? (.ref x) name args) Q E s := by
  simp only [callSpecialIfBound?, bindSpecialIfBound?]
  have L1 := (PySem.W.looks_findIn (M := M) Xk hs)
  refine wpAny_holding (wpAny_bind (wpAny_bind (wpAny_bind (I.type.here (L1.here ?_)))))
  refine wpAny_bind (wpAny_askSetting (wpAny_ite ?_))
  have fin : wpAny M A (call (.builtin id) ([.ref x] ++ args) >>= fun v => pure (some v)) Q E s := wpAny_bind (wpAny_mono h (fun v s' z => wpAny_pure z) fun _ _ z => z)
  split
  · exact wpAny_bind ((PySem.W.Looks.of_pure (hb _)).here (wpAny_pure (by exact fin)))
  · exact wpAny_tryCatch (wpAny_bind ((PySem.W.Looks.of_pure (hb _)).here (wpAny_pure (by exact fin))))

/-- object.__ne__ over an own __eq__ that gives a truth -/
theorem objNe_own {prog : Program} {w : World} {A : Around} {E : Value → Shared → Prop} {K : PySem.W.Frag} {x : Addr} {b : Value} {ox : Obj} {od : Option Obj} {Q : Value → Shared → Prop} (hu : A.in1.units < cLine) (Xk : K.In s.heap) (I : PySem.W.InstAt s.heap x ox C od)
    (hm : PySem.W.mroIn K C (.type "object") = some true) (hr : PySem.W.findIn K (.ref C) "__eq__" = some (some (.ref f))) (hf : PySem.W.isFn K (.ref f) = true)
    (h : wpAny (model prog w) A.in1 (call (.ref f) [.ref x, b]) (fun v s' => ∃ k, v = .bool k ∧ Q (.bool (!k)) s') E s) : wpAny (model prog w) A (call (.builtin "object.__ne__") [.ref x, b]) Q E s := by
  refine wpAny_call (codeAny_call_builtin PySem.F.slot_object_ne.plain PySem.F.cmpEntry_ne (PySem.W.check_slot (i := "object.__ne__") (owner := "object") (n := "__ne__") PySem.F.cmpKind_ne PySem.F.cmpSplit_ne (I.type.andThen (PySem.W.looks_mroIn Xk hm)) (PySem.F.cmpArgs_ne _ _) ?_))
  unfold Builtin.«object.__ne__»
  refine wpAny_bind (m := slotArgs "__ne__" 1 _) (wpAny_pure ?_)
  refine wpAny_bind (m := cRoomFor _ _) (wpAny_cRoomFor hu ?_)
  refine wpAny_bind (m := callSpecialIfBound? (.ref x) (Str.ofString "__eq__") _) (PySem.W.ifBound_K Xk I hr hf (wpAny_mono h (fun r s' hq => ?_) fun _ _ y => y))
  obtain ⟨k, e, q⟩ := hq
  subst e
  refine wpAny_bind (wpAny_truthy_bool ?_)
  exact wpAny_pure q

/-- x != y by object.__ne__ -/
def rNeO (K : PySem.W.Frag) (C : Addr) (sp : Sp) (E : XK) : R2 := fun x y H Q => ∃ a dx fs tb, x = .ref a ∧ H a = some (.ins C dx fs) ∧ ClOf H y tb ∧ PySem.W.notFirst K C tb = true ∧ sp [x, y] H (fun v H' => ∃ k, v = .bl k ∧ Q (.bl (!k)) H') E
theorem cmp_ne_own {prog : Program} {w : World} {A : Around} {E : Value → Shared → Prop} {K : PySem.W.Frag} {x : Addr} {b tb : Value} {ox : Obj} {od : Option Obj} {Q : Value → Shared → Prop} (hu : A.units < cLine) (hu2 : A.in1.units < cLine) (Xk : K.In s.heap) (I : PySem.W.InstAt s.heap x ox C od)
    (hl : PySem.W.Looks (model prog w) s.heap (typeOf b) tb) (hn : PySem.W.notFirst K C tb = true)
    (hm : PySem.W.mroIn K C (.type "object") = some true) (hne : PySem.W.findIn K (.ref C) "__ne__" = some (some (.builtin "object.__ne__"))) (hr : PySem.W.findIn K (.ref C) "__eq__" = some (some (.ref f))) (hf : PySem.W.isFn K (.ref f) = true)
    (h : wpAny (model prog w) A.in1 (call (.ref f) [.ref x, b]) (fun v s' => ∃ k, v = .bool k ∧ Q (.bool (!k)) s') E s) : wpAny (model prog w) A (richCompare .NotEq (.ref x) b) Q E s := by
  have one : wpAny (model prog w) A (tryCompare (.ref x) (cmpInfo .NotEq).2.1 b) (fun r s' => ∃ v, r = some v ∧ Q v s') E s := by
    show wpAny (model prog w) A (tryCompare (.ref x) "__ne__" b) _ E s
    unfold tryCompare
    refine wpAny_bind (ifBound_B Xk I hne PySem.F.slot_object_ne.bind (objNe_own hu2 Xk I hm hr hf (wpAny_mono h (fun v s' hv => ?_) fun _ _ e => e)))
    obtain ⟨k, e, q⟩ := hv
    exact ⟨k, e, wpAny_pure ⟨_, rfl, q⟩⟩
  unfold richCompare
  simp only [oneThing_ref]
  refine wpAny_holding (wpAny_bind (wpAny_cRoomFor hu ?_))
  refine wpAny_bind (I.type.here (wpAny_bind (hl.here ?_)))
  have tail : ∀ t : Sem Value, wpAny (model prog w) A (tryCompare (.ref x) (cmpInfo .NotEq).2.1 b >>= fun r => match r with | some v => pure v | none => t) Q E s := fun t => by
    refine wpAny_bind (wpAny_mono one (fun r s' z => ?_) fun _ _ e => e)
    obtain ⟨v, rfl, hq⟩ := z
    exact wpAny_pure hq
  split
  · rename_i q
    have e : PySem.W.subIn K tb (.ref C) = some false := by
      rcases Bool.or_eq_true_iff.mp hn with e | e
      · rw [beq_iff_eq.mp e] at q
        simp at q
      · exact beq_iff_eq.mp e
    refine wpAny_bind ((PySem.W.looks_subIn Xk e).here ?_)
    simp only [Bool.false_eq_true, if_false]
    refine wpAny_bind (wpAny_mono one (fun r s' z => ?_) fun _ _ e => e)
    obtain ⟨v, rfl, hq⟩ := z
    exact wpAny_pure hq
  · refine wpAny_bind (wpAny_pure ?_)
    simp only [Bool.false_eq_true, if_false]
    refine wpAny_bind (wpAny_mono one (fun r s' z => ?_) fun _ _ e => e)
    obtain ⟨v, rfl, hq⟩ := z
    exact wpAny_pure hq
theorem op_neO (F : FnOk X.prog X.w X.K X.mg X.base CX n f fd ps sp) (hr : Room (n + 1) X.A) (hs : PySem.W.findIn X.K (.ref C) "__eq__" = some (some (.ref f))) (hf : PySem.W.isFn X.K (.ref f) = true)
    (hne : PySem.W.findIn X.K (.ref C) "__ne__" = some (some (.builtin "object.__ne__"))) (hm : PySem.W.mroIn X.K C (.type "object") = some true) (hb : Binds X.K fd ps [])
    (hx : Passes CX X E) : OpR X (compareOp .NotEq) (rNeO X.K C sp E) := by
  intro pins s σ H x y v u Q I rx ry h
  obtain ⟨a, dx, fs, tb, rfl, ea, hc, hn, q⟩ := h
  cases (show v = Value.ref a from rx)
  obtain ⟨mA, O, _⟩ := ins_get I.hok ea
  obtain ⟨od, J, _⟩ := O.look
  show wpAny (model X.prog X.w) X.A (richCompare .NotEq (.ref a) u) (EP X pins σ Q) X.xe s
  refine cmp_ne_own (tb := tb) hr.units0 hr.in1.units0 I.kIn J (hc.looks I ry) hn hm hne hs hf (thn (at_fn F hr.in1 I.env0.in1 hb hx I (.cons rx (.cons ry .nil)) q) fun w s' z => ?_)
  obtain ⟨z', H', I', rz, k, e, qz⟩ := z
  subst e
  cases (show w = Value.bool k from rz)
  exact ⟨k, rfl, .bl (!k), H', I', rfl, qz⟩

/-! ### str(x), repr(x), len(x) of an instance -/
def rStrO (C : Addr) (sp : Sp) (E : XK) : List V → Hp → VK → Prop := fun xs H Q => ∃ a dx fs, xs = [.ref a] ∧ H a = some (.ins C dx fs) ∧ sp [.ref a] H (fun v H' => ∃ z, v = .str z ∧ Q v H') E
theorem call_strO (F : FnOk X.prog X.w X.K X.mg X.base CX n f fd ps sp) (hr : Room (n + 2) X.A) (hs : PySem.W.findIn X.K (.ref C) "__str__" = some (some (.ref f))) (hf : PySem.W.isFn X.K (.ref f) = true) (hb : Binds X.K fd ps [])
    (hx : Passes CX X E) : CallR X (.type "str") (rStrO C sp E) := by
  intro pins s σ H xs us Q I r h
  obtain ⟨a, dx, fs, rfl, ea, q⟩ := h
  obtain ⟨u, rfl, ru⟩ := vals1 r
  cases (show u = Value.ref a from ru)
  obtain ⟨mA, O, _⟩ := ins_get I.hok ea
  obtain ⟨od, J, _⟩ := O.look
  have hr1 : Room (n + 1) X.A.in1 := hr.in1
  refine PySem.W.kso_call hr1.in1.units0 I.kIn J hs hf (thn (at_fn F hr1.in1 I.env0.in1.in1 hb hx I (vs := [.ref a]) (us := [.ref a]) (.cons rfl .nil) q) fun w s' z => ?_)
  obtain ⟨z', H', I', rz, y, e, qz⟩ := z
  subst e
  obtain ⟨t, e⟩ := (show ∃ t, w = Value.str y t from rz)
  cases e
  exact ⟨.str y, H', I', ⟨t, rfl⟩, qz⟩
theorem call_reprO (F : FnOk X.prog X.w X.K X.mg X.base CX n f fd ps sp) (hr : Room (n + 1) X.A) (hs : PySem.W.findIn X.K (.ref C) "__repr__" = some (some (.ref f))) (hf : PySem.W.isFn X.K (.ref f) = true) (hb : Binds X.K fd ps [])
    (hx : Passes CX X E) : CallR X (.builtin "repr") (rStrO C sp E) := by
  intro pins s σ H xs us Q I r h
  obtain ⟨a, dx, fs, rfl, ea, q⟩ := h
  obtain ⟨u, rfl, ru⟩ := vals1 r
  cases (show u = Value.ref a from ru)
  obtain ⟨mA, O, _⟩ := ins_get I.hok ea
  obtain ⟨od, J, _⟩ := O.look
  obtain ⟨m, hF⟩ := I.fr
  refine PySem.W.repr_K hr.in1.units0 hF I.ok.mod.kin J hs hf (thn (at_fn F hr.in1 I.env0.in1 hb hx I (vs := [.ref a]) (us := [.ref a]) (.cons rfl .nil) q) fun w s' z => ?_)
  obtain ⟨z', H', I', rz, y, e, qz⟩ := z
  subst e
  obtain ⟨t, e⟩ := (show ∃ t, w = Value.str y t from rz)
  cases e
  exact ⟨.str y, H', I', ⟨t, rfl⟩, qz⟩
def rLenO (C : Addr) (sp : Sp) (E : XK) : List V → Hp → VK → Prop := fun xs H Q => ∃ a dx fs, xs = [.ref a] ∧ H a = some (.ins C dx fs) ∧ sp [.ref a] H (fun v H' => ∃ i, v = .int i ∧ 0 ≤ i ∧ i < 2 ^ 63 ∧ Q v H') E
theorem call_lenO (F : FnOk X.prog X.w X.K X.mg X.base CX n f fd ps sp) (hr : Room (n + 1) X.A) (hs : PySem.W.findIn X.K (.ref C) "__len__" = some (some (.ref f))) (hf : PySem.W.isFn X.K (.ref f) = true) (hb : Binds X.K fd ps [])
    (hx : Passes CX X E) : CallR X (.builtin "len") (rLenO C sp E) := by
  intro pins s σ H xs us Q I r h
  obtain ⟨a, dx, fs, rfl, ea, q⟩ := h
  obtain ⟨u, rfl, ru⟩ := vals1 r
  cases (show u = Value.ref a from ru)
  obtain ⟨mA, O, _⟩ := ins_get I.hok ea
  obtain ⟨od, J, _⟩ := O.look
  obtain ⟨m, hF⟩ := I.fr
  refine PySem.W.len_K hF I.ok.mod.kin J hs hf (thn (at_fn F hr.in1 I.env0.in1 hb hx I (vs := [.ref a]) (us := [.ref a]) (.cons rfl .nil) q) fun w s' z => ?_)
  obtain ⟨z', H', I', rz, i, e, h0, h1, qz⟩ := z
  subst e
  obtain ⟨t, e⟩ := (show ∃ t, w = Value.int i t from rz)
  cases e
  exact ⟨⟨h0, h1⟩, .int i, H', I'.tok _, ⟨_, rfl⟩, qz⟩
end

/-! ### o.m(k = v, ..) -/
def tMethN (C : Addr) (m : Str) (n mm : Nat) (sp : Sp) (gV : List V → List V → List V) (E : XK) (ta : TE) (t tk : TA) : TE := fun σ H Q => ta σ H fun x H1 => ∃ a dx fs, x = .ref a ∧ H1 a = some (.ins C dx fs) ∧ fs.lookup m = none ∧
  t σ H1 fun vs H2 => tk σ H2 fun zs H3 => vs.length = n ∧ zs.length = mm ∧ sp (gV (x :: vs) zs) H3 Q E
section
variable {X : Cx} {CX : CXT} {k n : Nat} {f C : Addr} {fd : FuncData} {ps ks : List Str} {sp : Sp} {E : XK} {m : Str} {pos apos : Pos} {o : Expr} {kws : List Keyword} {ta : TE} {t tk : TA} {g : List Value → List Value → List Value} {gV : List V → List V → List V}
theorem pe_methN0 {pl : Sem Bool} (he : PE X o ta) (c : Cls X.K C) (hm : Meth X.K C m f) (F : FnOk X.prog X.w X.K X.mg X.base CX k f fd ps sp) (hr : Room k X.A) (hb : KBn X.K fd ps 1 ks g gV) (hx : Passes CX X E) (hkw : PK X kws tk)
    (hall : (backToKw pos (keywordEach kws X.env)).all (·.1.isSome) = true := by rfl) (hks : (backToKw pos (keywordEach kws X.env)).filterMap (·.1) = ks := by rfl)
    (hpl : ((backTo pos (starEach [] X.env)).any (·.1) || (backToKw pos (keywordEach kws X.env)).any (·.1.isNone)) = false := by rfl)
    (ht : eval (.Call (.Attribute o m apos) [] kws pos) X.env = (do
      let ov ← eval o X.env
      standAt apos.atName
      let (f, first) ← holding [ov] (getMethod ov m pl)
      callWith pos f first (backTo pos (starEach [] X.env)) (backToKw pos (keywordEach kws X.env))) := by rfl) :
    PE X (.Call (.Attribute o m apos) [] kws pos) (tMethN C m 0 ks.length sp gV E ta tNil tk) := by
  refine ⟨fun pins s σ H Q I h => ?_⟩
  refine PySem.W.methodCall_KW (pl := pl) (thn (he.run pins s σ H _ I h) fun u s1 ⟨x, H1, I1, rx, a, dx, fs, ex, ea, l, q⟩ => ?_) ht
  subst ex
  obtain rfl : u = Value.ref a := rx
  refine getmeth_ok I1 ea c hm l ?_
  refine PySem.W.callWith_KW0 (first := [.ref a]) (h₀ := X.base) I.ok.mod.kin hm.kp hall ?_ hpl
  refine thn (hkw.run pos pins s1 σ H1 _ I1 q) fun ws s2 ⟨zs, H2, I2, rz, l1, l2, q2⟩ => ⟨I2.kIn, ?_⟩
  rw [hks]
  exact run_fnN (n := 1) (us := [.ref a]) (vs := [.ref a]) F hr hb hx I2 (.cons rfl .nil) rz rfl l2 q2
end
end Yarn

set_option Elab.async false
set_option linter.all false
set_option maxRecDepth 100000
set_option maxHeartbeats 4000000
namespace Yarn
open PySem PySem.Spec PyProof.Rows L2

/-! ### a def that lets nothing out, whatever its defaults -/
theorem okD {P : Program} {w : World} {K : PySem.W.Frag} {mg : Str → Option Value} {base : Heap} {x qual : Str} {params : Arguments} {body : List Stmt} {scope : Scope} {dvs : List V} {kws : List (Str × V)} {f : Addr} {fd : FuncData}
    {N ps : List Str} {k : Nat} {sp : Sp} (F : FunD K x qual params body scope dvs kws f fd) (S : FnScope N ps scope) (len : ∀ vs H Q E, sp vs H Q E → vs.length = ps.length)
    (hbody : ∀ (cdv : Value) (A : Around) (outer : List Env) (s : Shared) (H : Hp) (vs : List V) (Q : VK) (E : XK), Room k (A.deeper (envOfC qual scope s.heap.objs.size f cdv)) → sp vs H Q E →
      ∃ t, PSs (cxOf CX0 P w K mg base N qual scope f cdv A outer s H E).nox body t ∧ t { nx := fun _ H' => Q .non H', rt := Q } (start N vs) H) : FnOk P w K mg base CX0 (k + 1) f fd ps sp :=
  F.ok S len fun cdv A outer s H vs Q E hr h => let ⟨t, h1, q⟩ := hbody cdv A outer s H vs Q E hr h; ⟨t, h1.nox, q⟩

/-! ### what stays but for dicts -/
def NotD : HO → Prop
  | .dK _ => False
  | _ => True
def Kp (H H' : Hp) : Prop := ∀ a o, NotD o → H a = some o → H' a = some o
theorem Kp.refl (H : Hp) : Kp H H := fun _ _ _ h => h
theorem Kp.trans {H H1 H2 : Hp} (a : Kp H H1) (b : Kp H1 H2) : Kp H H2 := fun c o n h => b c o n (a c o n h)
theorem same_kp {H H' : Hp} (s : Same H H') : Kp H H' := fun a o _ h => s a o h
theorem Kp.ins {H H' : Hp} {a C dx : Addr} {fs : List (Str × V)} (k : Kp H H') (h : H a = some (.ins C dx fs)) : H' a = some (.ins C dx fs) := k a _ trivial h
theorem Kp.tup {H H' : Hp} {a : Addr} {xs : List V} (k : Kp H H') (h : H a = some (.tup xs)) : H' a = some (.tup xs) := k a _ trivial h
theorem Kp.lst {H H' : Hp} {a : Addr} {xs : List V} (k : Kp H H') (h : H a = some (.lst xs)) : H' a = some (.lst xs) := k a _ trivial h
theorem Kp.seqL {K : PySem.W.Frag} {H H' : Hp} {a : Addr} {xs : List V} (k : Kp H H') (h : SqL K H a xs) : SqL K H' a xs := by
  rcases h with (h | ⟨o, h⟩) | h
  · exact .inl (.inl (k.lst h))
  · exact .inl (.inr ⟨o, k a _ trivial h⟩)
  · exact .inr h
theorem Kp.seqT {K : PySem.W.Frag} {H H' : Hp} {a : Addr} {xs : List V} (k : Kp H H') (h : SqT K H a xs) : SqT K H' a xs := by
  rcases h with (h | ⟨o, h⟩) | h
  · exact .inl (.inl (k.tup h))
  · exact .inl (.inr ⟨o, k a _ trivial h⟩)
  · exact .inr h

/-! ### the pen: a dict of a list of numbers, a place, what is left -/
def penD (c : Addr) (a l : Int) : List (Key × V) := [(.inr "cells", .ref c), (.inr "at", .int a), (.inr "left", .int l)]
theorem s_ca : ¬ (("cells" : Str) = "at") := by decide +kernel
theorem s_cl : ¬ (("cells" : Str) = "left") := by decide +kernel
theorem s_al : ¬ (("at" : Str) = "left") := by decide +kernel
theorem inr_ne {x y : Str} (h : ¬ x = y) : ¬ (Sum.inr x : Key) = Sum.inr y := fun z => h (Sum.inr.inj z)
theorem pen_cells (c : Addr) (a l : Int) : valV (penD c a l) (.inr "cells") = some (.ref c) := valV_pos rfl
theorem pen_at (c : Addr) (a l : Int) : valV (penD c a l) (.inr "at") = some (.int a) := (valV_neg (inr_ne s_ca)).trans (valV_pos rfl)
theorem pen_left (c : Addr) (a l : Int) : valV (penD c a l) (.inr "left") = some (.int l) := (valV_neg (inr_ne s_cl)).trans ((valV_neg (inr_ne s_al)).trans (valV_pos rfl))
theorem put_at (c : Addr) (a l x : Int) : putK (penD c a l) (.inr "at") (.int x) = penD c x l := by
  simp [putK, penD, s_ca, Ne.symm s_al]
theorem put_left (c : Addr) (a l x : Int) : putK (penD c a l) (.inr "left") (.int x) = penD c a x := by
  simp [putK, penD, s_cl, s_al]
theorem pen_merge (c : Addr) : mergeK [] (penD c 0 0) = penD c 0 0 := by
  simp [mergeK, putK, penD, s_ca, s_cl, s_al]
structure Pen (H : Hp) (p : Addr) (n : Int) : Prop where
  ex : ∃ (c : Addr) (ns : List Int) (a l : Int), H p = some (.dK (penD c a l)) ∧ H c = some (.lst (ns.map V.int)) ∧ ns.length ≤ 63 ∧ 0 ≤ a ∧ a ≤ n ∧ 0 ≤ l
theorem Pen.same {H H' : Hp} {p : Addr} {n : Int} (s : Same H H') (P : Pen H p n) : Pen H' p n := by
  obtain ⟨c, ns, a, l, h1, h2, r⟩ := P.ex
  exact ⟨c, ns, a, l, s _ _ h1, s _ _ h2, r⟩
theorem Pen.mono {H : Hp} {p : Addr} {n m : Int} (P : Pen H p n) (h : n ≤ m) : Pen H p m := by
  obtain ⟨c, ns, a, l, h1, h2, h3, h4, h5, h6⟩ := P.ex
  exact ⟨c, ns, a, l, h1, h2, h3, h4, by omega, h6⟩
theorem Pen.kp {H H' : Hp} {p : Addr} {n : Int} (P : Pen H p n) (b : But p H H') : Kp H H' := fun a o no h => b a o (fun e => by
  obtain ⟨c, ns, x, l, h1, _⟩ := P.ex
  subst e
  rw [h] at h1
  cases h1
  exact no) h
/-- a draw: some number below m, the pen one further -/
def spDraw : Sp := fun vs H Q _ => ∃ (p : Addr) (m n : Int), vs = [.ref p, .int m] ∧ Pen H p n ∧ n ≤ 2 ^ 60 ∧ 0 < m ∧ m ≤ 2 ^ 60 ∧
  ∀ (d : Int) (H' : Hp), 0 ≤ d → d < m → Pen H' p (n + 1) → But p H H' → Kp H H' → Q (.int d) H'
/-- a number: small, or of up to fifteen figures -/
def spNumber : Sp := fun vs H Q _ => ∃ (p : Addr) (n : Int), vs = [.ref p] ∧ Pen H p n ∧ n ≤ 2 ^ 59 ∧
  ∀ (d : Int) (H' : Hp), 0 ≤ d → d < 10 ^ 15 → Pen H' p (n + 4) → But p H H' → Kp H H' → Q (.int d) H'
/-- the pen is made -/
def spPen (K : PySem.W.Frag) : Sp := fun vs H Q _ => ∃ (a : Addr) (ns : List Int), vs = [.ref a] ∧ SqL K H a (ns.map V.int) ∧ ns.length ≤ 63 ∧
  ∀ (p : Addr) (H' : Hp), H p = none → Same H H' → Pen H' p 0 → Q (.ref p) H'
/-- a law's: a list of at most 63 ints is handed in, True comes out -/
def sp_law0 (K : PySem.W.Frag) : Sp := fun vs H Q _ => ∃ (a : Addr) (ns : List Int), vs = [.ref a] ∧ SqL K H a (ns.map V.int) ∧ ns.length ≤ 63 ∧ ∀ H', Q (.bl true) H'

/-! ### // by a positive divisor of any size in use -/
theorem div_ok {i j : Int} (h : 0 < j) (hb : j ≤ 2 ^ 200) : CDivW i j := wide_div (b := 201) h (by omega) (by decide) (by decide)
theorem op_fdivY {X : Cx} : OpR X (binaryOp .FloorDiv) (rI (fun _ j => 0 < j ∧ j ≤ 2 ^ 200) fun i j => .int (i / j)) := by
  intro pins s σ H x y v u Q I rx ry h
  obtain ⟨i, j, e1, e2, ⟨h1, h2⟩, q⟩ := h
  exact op_fdivW pins s σ H x y v u Q I rx ry ⟨i, j, e1, e2, div_ok h1 h2, q⟩
/-! ### small helps for readings -/
theorem list_nonempty_ne (xs : List Int) : (!PyData.eqv (.list (xs.map PyData.int)) (.list [])) = !xs.isEmpty := by
  cases xs with
  | nil => rfl
  | cons a r => rfl
theorem ints_can : ∀ ns : List Int, PyData.canLayAll0 (ns.map PyData.int) = true
  | [] => by simp [PyData.canLayAll0]
  | n :: ns => by simp [PyData.canLayAll0, PyData.canLay0, ints_can ns]
theorem ints_depth : ∀ ns : List Int, PyData.depthAll (ns.map PyData.int) = 0
  | [] => by simp [PyData.depthAll]
  | n :: ns => by simp [PyData.depthAll, PyData.depth, ints_depth ns]
theorem shaped_ints (ns : List Int) : SeqAt.shaped (.list (ns.map PyData.int)) = true := by
  simp [SeqAt.shaped, PyData.canLay0, ints_can, PyData.depth, ints_depth]
theorem shaped_nil : SeqAt.shaped (.list []) = true := shaped_ints []
theorem dp_ints {K : PySem.W.Frag} {H : Hp} : ∀ ns : List Int, DpAll K H (ns.map V.int) (ns.map PyData.int)
  | [] => .nil
  | n :: ns => .cons (.int n) (dp_ints ns)
theorem atI_int {xs : List V} {ns : List Int} (e : xs = ns.map V.int) {i : Int} (h0 : 0 ≤ i) (h1 : i < ns.length) : ∃ z, atI xs i = some (.int z) := by
  subst e
  obtain ⟨j, rfl⟩ : ∃ j : Nat, i = j := ⟨i.toNat, by omega⟩
  have hj : j < ns.length := by omega
  refine ⟨ns[j], atI_nat ?_⟩
  rw [List.getElem?_map, List.getElem?_eq_getElem hj] <;> rfl
end Yarn
namespace Yarn
open PySem PySem.Spec PyProof.Rows L2
/-! ### splitting on a test -/
theorem iteD {p A B : Prop} [Decidable p] (h1 : p → A) (h2 : ¬ p → B) : if decide p = true then A else B := by
  by_cases h : p
  · rw [if_pos (decide_eq_true h)]
    exact h1 h
  · rw [if_neg (by rw [decide_eq_false h]; exact Bool.false_ne_true)]
    exact h2 h
theorem iteND {p A B : Prop} [Decidable p] (h1 : ¬ p → A) (h2 : p → B) : if (!decide p) = true then A else B := by
  by_cases h : p
  · rw [decide_eq_true h]
    exact iteF (h2 h)
  · rw [decide_eq_false h]
    exact iteT (h1 h)
theorem iteEI {a b : Int} {A B : Prop} (h1 : a = b → A) (h2 : ¬ a = b → B) : if decide (V.int a = V.int b) = true then A else B :=
  iteD (fun h => h1 (V.int.inj h)) fun h => h2 fun e => h (congrArg V.int e)
theorem iteNI {a b : Int} {A B : Prop} (h1 : ¬ a = b → A) (h2 : a = b → B) : if (!decide (V.int a = V.int b)) = true then A else B :=
  iteND (fun h => h1 fun e => h (congrArg V.int e)) fun h => h2 (V.int.inj h)
theorem iteB {b : Bool} {A B : Prop} (h1 : b = true → A) (h2 : b = false → B) : if b = true then A else B := by
  cases b
  · exact iteF (h2 rfl)
  · exact iteT (h1 rfl)
theorem iteNB {b : Bool} {A B : Prop} (h1 : b = false → A) (h2 : b = true → B) : if (!b) = true then A else B := by
  cases b
  · exact iteT (h1 rfl)
  · exact iteF (h2 rfl)
theorem iteNe {ns : List Int} {A B : Prop} (h1 : ns ≠ [] → A) (h2 : ns = [] → B) : if (!PyData.eqv (.list (ns.map PyData.int)) (.list [])) = true then A else B := by
  rw [list_nonempty_ne]
  cases ns with
  | nil => exact iteF (h2 rfl)
  | cons a r => exact iteT (h1 (by simp))
theorem absI (i : Int) : 0 ≤ (if i < 0 then -i else i) := by split <;> omega
theorem cut_ints (ns : List Int) (lo hi : Option Int) : ∃ ms : List Int, cutV (ns.map V.int) lo hi = ms.map V.int ∧ ms.length ≤ ns.length := by
  refine ⟨(ns.drop (HT.sIx (ns.map V.int).length 0 lo)).take (HT.sIx (ns.map V.int).length (ns.map V.int).length hi - HT.sIx (ns.map V.int).length 0 lo), ?_, ?_⟩
  · unfold cutV
    rw [List.map_take, List.map_drop]
  · rw [List.length_take, List.length_drop]
    omega
theorem get_int {ns : List Int} {i : Nat} {x : V} (h : (ns.map V.int)[i]? = some x) : ∃ n, ns[i]? = some n ∧ x = .int n := by
  rw [List.getElem?_map] at h
  cases e : ns[i]? with
  | none => rw [e] at h; cases h
  | some n => rw [e] at h; exact ⟨n, rfl, (Option.some.inj h).symm⟩
theorem take_more {α : Type} : ∀ {l : List α} {i : Nat} {x : α}, l[i]? = some x → l.take (i + 1) = l.take i ++ [x]
  | [], i, x, h => by simp at h
  | a :: l, 0, x, h => by
    have e : a = x := Option.some.inj h
    subst e
    rfl
  | a :: l, i + 1, x, h => by
    have ih := take_more (l := l) (i := i) (x := x) h
    show a :: l.take (i + 1) = a :: l.take i ++ [x]
    rw [ih]
    rfl
end Yarn
namespace Yarn
open PySem PySem.Spec PyProof.Rows L2
theorem atI_all {xs : List V} {P : V → Prop} {i : Int} (h : ∀ x ∈ xs, P x) (h0 : 0 ≤ i) (h1 : i < xs.length) : ∃ v, atI xs i = some v ∧ P v := by
  obtain ⟨j, rfl⟩ : ∃ j : Nat, i = j := ⟨i.toNat, by omega⟩
  have hj : j < xs.length := by omega
  exact ⟨xs[j], atI_nat (List.getElem?_eq_getElem hj), h _ (List.getElem_mem hj)⟩
end Yarn
namespace Yarn
open PySem PySem.Spec PyProof.Rows L2
theorem iteSp {a b c d : Int} {A B : Prop} (h1 : a = b) (h2 : c = d) (h : B) : if (!(decide (a = b) && decide (c = d))) = true then A else B := by
  rw [decide_eq_true h1, decide_eq_true h2]
  exact iteF h
theorem bothT {a b c d : Int} (h1 : a = b) (h2 : c = d) : (decide (a = b) && decide (c = d)) = true := by rw [decide_eq_true h1, decide_eq_true h2] <;> rfl
end Yarn
namespace Yarn
open PySem PySem.Spec PyProof.Rows L2
theorem kit_own {K : PySem.W.Frag} {t : String} {C : Addr} {b : Bool} (h1 : PySem.W.isClsIn K C = true) (h2 : PySem.W.typeIn K (.ref C) = some (.type "type")) (h3 : PySem.W.subIn K (.type t) (.ref C) = some b) :
    PySem.W.kitOne K (.type t) (.ref C) = some b := by
  have hne : (Value.type t == Value.ref C) = false := Bool.eq_false_iff.mpr fun q => by cases beq_iff_eq.mp q
  unfold PySem.W.kitOne
  rw [hne]
  have h1' : (PySem.W.clsIn K C).isSome = true := h1
  simp [PySem.W.kitCls, h1', h2, h3]
end Yarn

set_option Elab.async false
set_option linter.all false
set_option maxRecDepth 100000
set_option maxHeartbeats 4000000
namespace Yarn
open PySem PySem.SeqAt
open AutoSeq1 (wpAny_loadPart')
open MeetsSeq MeetsSeq2 MeetsSeq3 SeqRoads2

section
variable {prog : Program} {w : World} {A : Around} {R : Result → Shared → Prop}
/-- at each turn the list is read anew: N items, the i-th compared with x gives e i -/
def CntI (prog : Program) (w : World) (A : Around) (E : Value → Shared → Prop) (l : Addr) (x : Value) (N : Nat) (e : Nat → Bool) (I : Shared → Prop) : Prop :=
  ∀ s, I s → ∃ (items : Array Value) (n : Nat), s.heap.get? l = some { cls := .type "list", data := .seq items n } ∧ items.size = N ∧
    ∀ (i : Nat) (h1 : i < items.size), wpAny (model prog w) A.in1 (eqBool items[i] x) (fun r s' => r = e i ∧ I s') E s
/-- how many of e i .. e (N - 1) hold -/
def cnt (e : Nat → Bool) (i : Nat) : Nat → Nat
  | 0 => 0
  | k + 1 => (if e i then 1 else 0) + cnt e (i + 1) k
theorem count_loopG (l : Addr) (x : Value) (N : Nat) (e : Nat → Bool) (I : Shared → Prop) (hl : CntI prog w A (fun er s' => R (.error er) s') l x N e I) (total : Int)
    (fin : ∀ s, I s → R (.ok (.ret (.int total s.toks))) { s with toks := s.toks + 1 }) (k : Nat) :
    ∀ (i : Nat) (found : Int), N - i = k → i ≤ N → found + (cnt e i k : Nat) = total → ∀ s, I s →
      wpAny (model prog w) A.in1 (Builtin.«list.count.loop» ⟨[.ref l, x, rawInt i, rawInt found], []⟩) (GQ.FinOf prog w A R) (fun er s' => R (.error er) s') s := by
  induction k with
  | zero =>
    intro i found hk hi ht s h
    obtain ⟨items, n, hl1, hs1, _⟩ := hl _ h
    have hR := fin s h
    have ht' : found = total := by simp [cnt] at ht; exact ht
    subst ht'
    obtain ⟨hp, g, d, tk, os⟩ := s
    wp_walk using wpAny_loadPart' hl1
    have hi1 : items[((i : Nat) : Int).toNat]? = none := by simp; omega
    rw [hi1]
    wp_walk
    exact hR
  | succ k ih =>
    intro i found hk hi ht s h
    obtain ⟨items, n, hl1, hs1, turn⟩ := hl _ h
    have hlt : i < items.size := by omega
    have hturn := turn i hlt
    obtain ⟨hp, g, d, tk, os⟩ := s
    wp_walk using wpAny_loadPart' hl1
    have hi1 : items[((i : Nat) : Int).toNat]? = some items[i] := by simp [hlt]
    have hc : ((i : Int) + 1) = ((i + 1 : Nat) : Int) := by omega
    rw [hi1]
    refine wpAny_bind (wpAny_mono hturn (fun r s2 h2 => ?_) fun _ _ z => z)
    obtain ⟨hr, h2⟩ := h2
    subst hr
    have hrec := ih (i + 1) (found + (if e i then 1 else 0)) (by omega) (by omega) (by rw [← ht]; show found + (if e i = true then 1 else 0) + ((cnt e (i + 1) k : Nat) : Int) = found + (((if e i = true then 1 else 0) + cnt e (i + 1) k : Nat) : Int); split <;> omega) s2 h2
    obtain ⟨hp2, g2, d2, tk2, os2⟩ := s2
    wp_walk
    rw [hc]
    refine ⟨plainId_quiet plain_count_loop _, codeAny_builtin entry_count_loop ?_⟩
    rw [Around.under_plainId plain_count_loop _]
    cases hb : e i with
    | false =>
      rw [hb] at hrec
      simp only [Bool.false_eq_true, if_false, Int.add_zero] at hrec ⊢
      exact hrec
    | true =>
      rw [hb] at hrec
      simp only [if_true] at hrec ⊢
      exact hrec
theorem list_countG (l : Addr) (x : Value) (N : Nat) (e : Nat → Bool) (I : Shared → Prop) (hl : CntI prog w A (fun er s' => R (.error er) s') l x N e I)
    (fin : ∀ s, I s → R (.ok (.ret (.int (cnt e 0 N : Nat) s.toks))) { s with toks := s.toks + 1 }) {s : Shared} (h : I s) :
    wpAny (model prog w) A.in1 (Builtin.«list.count» ⟨[.ref l, x], []⟩) (GQ.FinOf prog w A R) (fun er s' => R (.error er) s') s := by
  obtain ⟨items, n, hl1, hs1, _⟩ := hl _ h
  have hrec := count_loopG (A := A) (R := R) l x N e I hl _ fin N 0 0 (by omega) (Nat.zero_le _) (by simp) s h
  obtain ⟨hp, g, d, tk, os⟩ := s
  wp_walk using wpAny_loadPart' hl1
  refine ⟨plainId_quiet plain_count_loop _, codeAny_builtin entry_count_loop ?_⟩
  rw [Around.under_plainId plain_count_loop _]
  exact hrec
/-- x in a list -/
def anyB (e : Nat → Bool) (i : Nat) : Nat → Bool
  | 0 => false
  | k + 1 => e i || anyB e (i + 1) k
theorem contains_loopG (l : Addr) (x : Value) (N : Nat) (e : Nat → Bool) (I : Shared → Prop) (hl : CntI prog w A (fun er s' => R (.error er) s') l x N e I) (b : Bool)
    (fin : ∀ s, I s → R (.ok (.ret (.bool b))) s) (k : Nat) :
    ∀ (i : Nat), N - i = k → i ≤ N → anyB e i k = b → ∀ s, I s →
      wpAny (model prog w) A.in1 (Builtin.«list.__contains__.loop» ⟨[.ref l, x, rawInt i], []⟩) (GQ.FinOf prog w A R) (fun er s' => R (.error er) s') s := by
  induction k with
  | zero =>
    intro i hk hi ht s h
    obtain ⟨items, n, hl1, hs1, _⟩ := hl _ h
    have hR := fin s h
    have ht' : false = b := ht
    subst ht'
    obtain ⟨hp, g, d, tk, os⟩ := s
    wp_walk using wpAny_loadPart' hl1
    have hi1 : items[((i : Nat) : Int).toNat]? = none := by simp; omega
    rw [hi1]
    wp_walk
    exact hR
  | succ k ih =>
    intro i hk hi ht s h
    obtain ⟨items, n, hl1, hs1, turn⟩ := hl _ h
    have hlt : i < items.size := by omega
    have hturn := turn i hlt
    obtain ⟨hp, g, d, tk, os⟩ := s
    wp_walk using wpAny_loadPart' hl1
    have hi1 : items[((i : Nat) : Int).toNat]? = some items[i] := by simp [hlt]
    have hc : ((i : Int) + 1) = ((i + 1 : Nat) : Int) := by omega
    rw [hi1]
    refine wpAny_bind (wpAny_mono hturn (fun r s2 h2 => ?_) fun _ _ z => z)
    obtain ⟨hr, h2⟩ := h2
    subst hr
    have ht' : (e i || anyB e (i + 1) k) = b := ht
    cases hb : e i with
    | true =>
      rw [hb, Bool.true_or] at ht'
      subst ht'
      have hR := fin s2 h2
      obtain ⟨hp2, g2, d2, tk2, os2⟩ := s2
      wp_walk
      exact hR
    | false =>
      rw [hb, Bool.false_or] at ht'
      have hrec := ih (i + 1) (by omega) (by omega) ht' s2 h2
      obtain ⟨hp2, g2, d2, tk2, os2⟩ := s2
      wp_walk
      rw [hc]
      refine ⟨plainId_quiet plain_contains_loop _, codeAny_builtin entry_contains_loop ?_⟩
      rw [Around.under_plainId plain_contains_loop _]
      exact hrec
theorem list_containsG (l : Addr) (x : Value) (N : Nat) (e : Nat → Bool) (I : Shared → Prop) (hl : CntI prog w A (fun er s' => R (.error er) s') l x N e I)
    (fin : ∀ s, I s → R (.ok (.ret (.bool (anyB e 0 N)))) s) {s : Shared} (h : I s) :
    wpAny (model prog w) A.in1 (Builtin.«list.__contains__» ⟨[.ref l, x], []⟩) (GQ.FinOf prog w A R) (fun er s' => R (.error er) s') s := by
  obtain ⟨items, n, hl1, hs1, _⟩ := hl _ h
  have hrec := contains_loopG (A := A) (R := R) l x N e I hl _ fin N 0 (by omega) (Nat.zero_le _) rfl s h
  obtain ⟨hp, g, d, tk, os⟩ := s
  wp_walk using wpAny_loadPart' hl1
  refine ⟨plainId_quiet plain_contains_loop _, codeAny_builtin entry_contains_loop ?_⟩
  rw [Around.under_plainId plain_contains_loop _]
  exact hrec
end
end Yarn

namespace Yarn
open PySem PySem.Spec PyProof.Rows L2
/-- == within a builtin gives b for what D says, and changes nothing -/
def EqB (X : Cx) (n : Nat) (D : V → V → Bool → Hp → Prop) : Prop :=
  ∀ (A : Around) (pins : List (Addr × Obj)) (s : Shared) (σ : L2.St) (H : Hp) (x y : V) (b : Bool) (u v : Value), Room n A → A.frames = X.A.frames → Inv X pins σ H s → RelV x u → RelV y v → D x y b H →
    wpAny (model X.prog X.w) A (eqBool u v) (fun r s' => r = b ∧ Inv X pins σ H s') X.xe s
/-- two instances of classes with an own ==, as the def at the left says -/
def DOwn (K : PySem.W.Frag) (C : Addr) (sp : Sp) (E : XK) : V → V → Bool → Hp → Prop := fun x y b H => ∃ a c dx fs tb, x = .ref a ∧ y = .ref c ∧ H a = some (.ins C dx fs) ∧ ClOf H (.ref c) tb ∧ PySem.W.notFirst K C tb = true ∧ (a = c → b = true) ∧
  sp [.ref a, .ref c] H (fun v H' => v = .bl b ∧ H' = H) E
section
variable {X : Cx} {CX : CXT} {C f : Addr} {fd : FuncData} {ps : List Str} {sp : Sp} {E : XK} {n : Nat} {D : V → V → Bool → Hp → Prop}
theorem eqB_own (F : FnOk X.prog X.w X.K X.mg X.base CX n f fd ps sp) (hs : PySem.W.findIn X.K (.ref C) "__eq__" = some (some (.ref f))) (hf : PySem.W.isFn X.K (.ref f) = true) (hb : Binds X.K fd ps [])
    (hx : Passes CX X E) : EqB X n (DOwn X.K C sp E) := by
  intro A pins s σ H x y b u v hr hfr I rx ry d
  obtain ⟨a, c, dx, fs, tb, rfl, rfl, ea, hc, hn, hsame, q⟩ := d
  cases (show u = Value.ref a from rx)
  cases (show v = Value.ref c from ry)
  by_cases hac : a = c
  · subst hac
    have hb1 := hsame rfl
    subst hb1
    exact SeqAt.EqAt.same (A := A) (s := s) (.ref a) X.prog X.w X.xe _ ⟨rfl, I⟩
  · have e0 : Env0 X.prog X.w X.K X.mg X.base A X.stack s H := by
      have e := I.env0
      exact ⟨by rw [hfr]; exact e.frames, e.mod, e.bs, e.bsz, e.funs, e.frf, e.hok, e.bare⟩
    obtain ⟨mA, O, _⟩ := ins_get I.hok ea
    obtain ⟨od, J, _⟩ := O.look
    obtain ⟨m, hF⟩ := I.fr
    refine GQ.eqBool_refG hac (PySem.W.cmp_K (op := .Eq) (tb := tb) hr.units0 hF I.ok.mod.kin J (hc.looks I (show RelV (.ref c) (.ref c) from rfl)) hn hs hf (thn (at_fn F hr e0 hb hx I (vs := [.ref a, .ref c]) (us := [.ref a, .ref c]) (.cons rfl (.cons rfl .nil)) q) fun z s' h => ?_))
    obtain ⟨z', H', I', rz, ez, eH⟩ := h
    subst ez
    subst eH
    cases (show z = Value.bool b from rz)
    exact ⟨b, rfl, rfl, I'⟩
theorem cnt_of (hD : EqB X n D) {A : Around} (hr : Room (n + 1) A) (hfr : A.frames = X.A.frames) {pins : List (Addr × Obj)} {σ : L2.St} {H : Hp} {p : Addr} {ys : List V} {y : V} {u : Value} {e : Nat → Bool} (hp : H p = some (.lst ys)) (ry : RelV y u)
    (he : ∀ i v, ys[i]? = some v → D v y (e i) H) : CntI X.prog X.w A X.xe p u ys.length e (fun s => Inv X pins σ H s) := by
  intro s I
  obtain ⟨z, its, k, r, e1⟩ := I.hok p _ hp
  refine ⟨its.toArray, k, e1, by rw [List.size_toArray, ← r.length], fun i h1 => ?_⟩
  have g1 : its[i]? = some its.toArray[i] := by
    have h1' : i < its.length := by simpa using h1
    rw [List.getElem?_eq_getElem h1'] <;> simp
  have k1 : i < ys.length := by rw [r.length]; simpa using h1
  obtain ⟨u1, hu, ru⟩ := r.get (List.getElem?_eq_getElem k1)
  rw [g1] at hu
  rw [Option.some.inj hu]
  exact hD A.in1 pins s σ H _ y (e i) _ u hr.in1 hfr I ru ry (he i _ (List.getElem?_eq_getElem k1))
/-- xs.count(y) by own == -/
def rCntO (D : V → V → Bool → Hp → Prop) : V → List V → Hp → VK → Prop := fun x xs H Q => ∃ (p : Addr) (ys : List V) (y : V) (e : Nat → Bool), x = .ref p ∧ xs = [y] ∧ H p = some (.lst ys) ∧ (∀ i v, ys[i]? = some v → D v y (e i) H) ∧ Q (.int (cnt e 0 ys.length : Nat)) H
theorem mt_countO (hD : EqB X n D) (hr : Room (n + 1) X.A) : MtR X "list.count" (rCntO D) := by
  intro pins s σ H x xs v us Q I rx rxs h
  obtain ⟨p, ys, y, e, rfl, rfl, hp, he, q⟩ := h
  cases (show v = Value.ref p from rx)
  obtain ⟨u, rfl, ru⟩ := vals1 rxs
  obtain ⟨z, its, k, r, e1⟩ := I.hok p _ hp
  refine GQ.call_here PySem.F.slot_list_count ⟨_, e1, rfl⟩ PySem.F.entry_list_count (PySem.F.args_list_count_2 _ _) ?_
  refine list_countG (R := wants (EP X pins σ Q) X.xe) p u ys.length e (fun s => Inv X pins σ H s) (cnt_of hD hr rfl hp ru he) (fun s' I' => ?_) I
  exact ⟨.int (cnt e 0 ys.length : Nat), H, I'.tok _, ⟨_, rfl⟩, q⟩
/-- x in xs by own == -/
def rInO (D : V → V → Bool → Hp → Prop) : R2 := fun x y H Q => ∃ (p : Addr) (ys : List V) (e : Nat → Bool), y = .ref p ∧ H p = some (.lst ys) ∧ (∀ i v, ys[i]? = some v → D v x (e i) H) ∧ Q (.bl (anyB e 0 ys.length)) H
theorem op_inO (hD : EqB X n D) (hr : Room (n + 1) X.A) : OpR X (compareOp .In) (rInO D) := by
  intro pins s σ H x y v u Q I rx ry h
  obtain ⟨p, ys, e, rfl, hp, he, q⟩ := h
  cases (show u = Value.ref p from ry)
  obtain ⟨z, its, k, r, e1⟩ := I.hok p _ hp
  show wpAny _ X.A (do return .bool (← contains (.ref p) v)) (EP X pins σ Q) X.xe s
  refine wpAny_bind (PySem.wpAny_contains_slot (T := "list") ⟨_, e1, rfl⟩ PySem.F.slot_list_contains (GQ.call_here PySem.F.slot_list_contains ⟨_, e1, rfl⟩ PySem.F.entry_list_contains (PySem.F.args_list_contains_2 _ _) ?_))
  refine list_containsG (R := wants _ X.xe) p v ys.length e (fun s => Inv X pins σ H s) (cnt_of hD hr rfl hp rx he) (fun s' I' => ?_) I
  exact wpAny_truthy_bool (wpAny_pure ⟨.bl (anyB e 0 ys.length), H, I', rfl, q⟩)
end
end Yarn

set_option Elab.async false
set_option linter.all false
set_option maxRecDepth 100000
set_option maxHeartbeats 4000000
namespace Yarn
open PySem PySem.Spec PyProof.Rows L2
section
variable {X : Cx} {CX : CXT} {C f : Addr} {fd : FuncData} {ps : List Str} {sp : Sp} {E : XK} {n : Nat}
theorem range_size (i j : Int) : Builtin.Range.rangeSize i j 1 = ((j - i).toNat : Nat) := by
  unfold Builtin.Range.rangeSize
  simp
  split <;> omega
/-- len(range(i, j)) -/
theorem call_lenR : CallR X (.builtin "len") (fun xs H Q => ∃ (a : Addr) (lo hi : Int), xs = [.ref a] ∧ H a = some (.rng lo hi) ∧ hi - lo < 2 ^ 63 ∧ Q (.int ((hi - lo).toNat : Nat)) H) := by
  intro pins s σ H vs us Q I r h
  obtain ⟨a, lo, hi, rfl, ea, hz, q⟩ := h
  obtain ⟨u, rfl, ru⟩ := vals1 r
  cases (show u = Value.ref a from ru)
  obtain ⟨t, t2, t3, e⟩ := (show ObjOk X.prog X.w H s.heap a (.rng lo hi) from I.hok a _ ea)
  exact call_len_range (n := (hi - lo).toNat) e (range_size lo hi) (by omega) ⟨.int ((hi - lo).toNat : Nat), H, I.tok _, ⟨_, rfl⟩, q⟩

/-! ### bool(x) by an own __len__ -/
open Builtin in
theorem len_body {prog : Program} {w : World} {A : Around} {E : Value → Shared → Prop} {Q : Value → Shared → Prop} {s : Shared} {K : PySem.W.Frag} {x : Addr} {ox : Obj} {od : Option Obj} (Xk : K.In s.heap) (I : PySem.W.InstAt s.heap x ox C od)
    (hs : PySem.W.findIn K (.ref C) "__len__" = some (some (.ref f))) (hf : PySem.W.isFn K (.ref f) = true)
    (h : wpAny (model prog w) A (call (.ref f) [.ref x]) (fun v s' => ∃ i t, v = .int i t ∧ (0 ≤ i ∧ i < 2 ^ 63) ∧ Q (.int i s'.toks) { s' with toks := s'.toks + 1 }) E s) :
    wpAny (model prog w) A (Builtin.«len» ⟨[.ref x], []⟩) (fun fin s' => ∃ v, fin = .done (.ret v) ∧ Q v s') E s := by
  unfold Builtin.«len»
  refine wpAny_bind (m := oneArg "len" _) (wpAny_pure ?_)
  refine wpAny_bind (m := callSpecial? (.ref x) (Str.ofString "__len__")) (PySem.W.special_fn Xk I hs (beq_iff_eq.mp hf) (wpAny_mono h (fun r s' hr => ?_) fun _ _ y => y))
  obtain ⟨i, t, rfl, ⟨h0, h1⟩, hq⟩ := hr
  refine wpAny_bind (wpAny_holding (wpAny_pure ?_))
  refine wpAny_bind (wpAny_letGo ?_)
  show wpAny _ _ (if i < 0 then _ else _) _ _ _
  rw [if_neg (show ¬ i < 0 by omega)]
  show wpAny _ _ (if i ≥ 2 ^ 63 then _ else _) _ _ _
  rw [if_neg (show ¬ i ≥ 2 ^ 63 by omega)]
  exact wpAny_bind (wpAny_mkInt (wpAny_pure ⟨_, rfl, hq⟩))
theorem truthy_len {prog : Program} {w : World} {A : Around} {E : Value → Shared → Prop} {s : Shared} {K : PySem.W.Frag} {x : Addr} {ox : Obj} {od : Option Obj} {Q : Bool → Shared → Prop} (Xk : K.In s.heap) (I : PySem.W.InstAt s.heap x ox C od)
    (hb : PySem.W.findIn K (.ref C) "__bool__" = some none) (hs : PySem.W.findIn K (.ref C) "__len__" = some (some (.ref f))) (hf : PySem.W.isFn K (.ref f) = true)
    (h : wpAny (model prog w) A.in1 (call (.ref f) [.ref x]) (fun v s' => ∃ i t, v = .int i t ∧ (0 ≤ i ∧ i < 2 ^ 63) ∧ Q (i != 0) { s' with toks := s'.toks + 1 }) E s) : wpAny (model prog w) A (truthy (.ref x)) Q E s := by
  unfold truthy
  refine wpAny_bind (m := callSpecial? (.ref x) (Str.ofString "__bool__")) (wpAny_bind (wpAny_bind (I.type.here ((PySem.W.looks_findIn Xk hb).here (wpAny_pure ?_)))))
  refine wpAny_bind (wpAny_bind (I.type.here ((PySem.W.looks_findIn Xk hs).here ?_)))
  refine wpAny_bind (wpAny_runValue (codeAny_builtin entry_len ?_))
  rw [Around.under_plainId plain_len _]
  refine wpAny_mono (len_body (Q := fun v s' => ∃ i t, v = .int i t ∧ Q (i != 0) s') Xk I hs hf (wpAny_mono h (fun v s' hv => ?_) fun _ _ y => y)) (fun fin s' hf => ?_) fun _ _ y => y
  · obtain ⟨i, t, rfl, hi, hq⟩ := hv
    exact ⟨i, t, rfl, hi, i, _, rfl, hq⟩
  · obtain ⟨v, rfl, i, t, rfl, hq⟩ := hf
    exact wpAny_pure hq
def rBoolO (C : Addr) (sp : Sp) (E : XK) : List V → Hp → VK → Prop := fun xs H Q => ∃ a dx fs, xs = [.ref a] ∧ H a = some (.ins C dx fs) ∧ sp [.ref a] H (fun v H' => ∃ i, v = .int i ∧ 0 ≤ i ∧ i < 2 ^ 63 ∧ Q (.bl (i != 0)) H') E
theorem call_boolO (F : FnOk X.prog X.w X.K X.mg X.base CX n f fd ps sp) (hr : Room (n + 3) X.A) (hs : PySem.W.findIn X.K (.ref C) "__len__" = some (some (.ref f))) (hf : PySem.W.isFn X.K (.ref f) = true)
    (hbo : PySem.W.findIn X.K (.ref C) "__bool__" = some none) (hb : Binds X.K fd ps []) (hx : Passes CX X E) : CallR X (.type "bool") (rBoolO C sp E) := by
  intro pins s σ H vs us Q I r h
  obtain ⟨a, dx, fs, rfl, ea, q⟩ := h
  obtain ⟨u, rfl, ru⟩ := vals1 r
  cases (show u = Value.ref a from ru)
  obtain ⟨mA, O, _⟩ := ins_get I.hok ea
  obtain ⟨od, J, _⟩ := O.look
  have hr2 : Room (n + 2) X.A.in1 := hr.in1
  have hr1 : Room (n + 1) X.A.in1.in1 := hr2.in1
  have hr0 : Room n X.A.in1.in1.in1 := hr1.in1
  refine callType_codes (T := "bool") (Bi := Builtin.«object.__init__») (Q₁ := fun r s₁ => ∃ b, r = .bool b ∧ EP X pins σ Q r s₁) PySem.F.called_bool (PySem.F.typeCall_bool_1 _) PySem.F.entry_object_init ?_ ?_
  · refine codeAny_of_tree ?_
    show wpAny _ X.A.in1.in1 (do checkBuiltinCall "bool.__new__" ⟨[.type "bool", .ref a], []⟩; again (.builtin "bool.__new__" ⟨[.type "bool", .ref a], []⟩)) _ _ s
    refine wpAny_bind (wpAny_of_eq (PySem.F.newCall_bool_1 _) (wpAny_pure ⟨plainId_quiet (by decide +kernel) _, codeAny_builtin PySem.F.entry_bool_new ?_⟩))
    rw [Around.under_plainId (by decide +kernel) _]
    have key : wpAny (model X.prog X.w) X.A.in1.in1 (truthy (.ref a)) (fun b s1 => EP X pins σ Q (.bool b) s1) X.xe s := by
      refine truthy_len I.kIn J hbo hs hf (thn (at_fn F hr0 I.env0.in1.in1.in1 hb hx I (vs := [.ref a]) (us := [.ref a]) (.cons rfl .nil) q) fun w s' z => ?_)
      obtain ⟨z', H', I', rz, i, e, h0, h1, qz⟩ := z
      subst e
      obtain ⟨t, e⟩ := (show ∃ t, w = Value.int i t from rz)
      cases e
      exact ⟨i, t, rfl, ⟨h0, h1⟩, .bl (i != 0), H', I'.tok _, rfl, qz⟩
    have f1 := PySem.F.conv_sub_bool
    obtain ⟨hp, g, d, tk, os⟩ := s
    unfold Builtin.«bool.__new__»
    repeat (any_goals (first | assumption | with_reducible exact wpAny_bind (m := truthy (.ref a)) (wpAny_mono key (fun b s1 z => wpAny_pure ⟨b, rfl, z⟩) fun _ _ y => y) | wp_step))
  · rintro obj s₁ ⟨b, rfl, hq⟩
    exact ⟨PySem.typeIs_bool _ _, PySem.F.args_object_init_2 _ _, object_init_meets PySem.F.called_bool.init.lookup PySem.F.called_bool.made (by decide) X.prog X.w X.A.in1 _ s₁ ⟨PySem.typeIs_bool _ _, rfl, hq⟩⟩
end
end Yarn
namespace Yarn
open PySem PySem.Spec PyProof.Rows L2
section
variable {X : Cx}
theorem cr_range2Y : CallR X (.type "range") (fun vs H Q => ∃ i j, vs = [V.int i, V.int j] ∧ ∀ p H2, H p = none → Same H H2 → H2 p = some (.rng i j) → Q (.ref p) H2) := fun pins s σ H vs us Q I r ⟨i, j, e, q⟩ =>
  cr_range2 pins s σ H vs us Q I r ⟨i, j, e, fun p hp => q p _ hp (same_upd hp) upd_same⟩
end
/-! ### numbers as texts -/
theorem log_small {i : Int} (h0 : 0 ≤ i) (h1 : i < 10 ^ 60) : i.natAbs.log2 < 1920 := by
  have h : i.natAbs < 2 ^ 1920 := by
    have e : (10 : Nat) ^ 60 < 2 ^ 1920 := by decide
    omega
  exact PySem.Flt.log2_lt_of (by decide) h
theorem num_len {i : Int} (h0 : 0 ≤ i) (h1 : i < 10 ^ 60) : (Str.ofString (toString i)).length ≤ 60 := toString_length_le h0 (by decide) h1
theorem line_big {n : Nat} (h : n ≤ 1000000) : n ≤ sizeLine := Nat.le_trans h (by decide)
end Yarn
namespace Yarn
open PySem PySem.Spec PyProof.Rows L2
theorem eqv_pair (a b c d : Int) : PyData.eqv (.tuple [.int a, .int b]) (.tuple [.int c, .int d]) = (decide (a = c) && decide (b = d)) := by
  have e : ∀ x y : Int, (x == y) = decide (x = y) := fun x y => by by_cases h : x = y <;> simp [h]
  simp [PyData.eqv, PyData.eqvAll]
  rw [e, e]
theorem shaped_pair (a b : Int) : SeqAt.shaped (.tuple [.int a, .int b]) = true := by
  simp [SeqAt.shaped, PyData.canLay0, PyData.canLayAll0, PyData.depth, PyData.depthAll]
theorem dp_pair {K : PySem.W.Frag} {H : Hp} (a b : Int) : DpAll K H [.int a, .int b] [.int a, .int b] := .cons (.int a) (.cons (.int b) .nil)
theorem iteNP {a b c d : Int} {A B : Prop} (h1 : a = c) (h2 : b = d) (h : B) : if (!PyData.eqv (.tuple [.int a, .int b]) (.tuple [.int c, .int d])) = true then A else B := by
  rw [eqv_pair, decide_eq_true h1, decide_eq_true h2]
  exact iteF h
theorem iteNBl {a b : Bool} {A B : Prop} (h : a = b) (hB : B) : if (!decide (V.bl a = V.bl b)) = true then A else B := by
  subst h
  rw [decide_eq_true rfl]
  exact iteF hB
theorem iteNSt {a b : Str} {A B : Prop} (h : a = b) (hB : B) : if (!decide (V.str a = V.str b)) = true then A else B := by
  subst h
  rw [decide_eq_true rfl]
  exact iteF hB
theorem str_len (x y : Str) : (x ++ y).length = x.length + y.length := by
  have h2 : (TL.tl (x ++ y)).length = (TL.tl x).length + (TL.tl y).length := by rw [TL.tl_append, List.length_append]
  rw [TL.len_tl, TL.len_tl x, TL.len_tl y]
  exact h2
end Yarn

set_option Elab.async false
set_option linter.all false
set_option maxRecDepth 100000
set_option maxHeartbeats 4000000
namespace Law
open PySem PySem.Spec PyProof.Rows L2 Yarn
def top (i : Nat) : Stmt := PySem.Challenge.pw_yarnback_k04_spans.main.body.getD i (.Pass ⟨0, 0, 0, 0⟩)
abbrev s__law_pen : Stmt := top 3
abbrev s__law_draw : Stmt := top 4
abbrev s__law_number : Stmt := top 5
abbrev s_Span_init : Stmt := inClass (top 1) 0
abbrev s_Span_eq : Stmt := inClass (top 1) 1
abbrev s_Span_len : Stmt := inClass (top 1) 2
abbrev s_Span_str : Stmt := inClass (top 1) 3
abbrev s_Span_repr : Stmt := inClass (top 1) 4
abbrev s_Span_holds : Stmt := inClass (top 1) 5
abbrev s_Span_plus : Stmt := inClass (top 1) 6
abbrev s_Span_widened : Stmt := inClass (top 1) 7
abbrev s_Span_meet : Stmt := inClass (top 1) 8
abbrev s__law_ends : Stmt := top 6
abbrev s__law_made : Stmt := top 7
abbrev s__law_is : Stmt := top 8
abbrev s_law : Stmt := top 9
theorem sc__law_pen : FnScope ["script", "cell"] ["script"] (defScope s__law_pen) := ⟨rfl, rfl, rfl, by decide +kernel, rfl, by decide +kernel, by decide +kernel⟩
theorem sc__law_draw : FnScope ["pen", "many", "digit", "at", "cell", "number", "again"] ["pen", "many"] (defScope s__law_draw) := ⟨rfl, rfl, rfl, by decide +kernel, rfl, by decide +kernel, by decide +kernel⟩
theorem sc__law_number : FnScope ["pen"] ["pen"] (defScope s__law_number) := ⟨rfl, rfl, rfl, by decide +kernel, rfl, by decide +kernel, by decide +kernel⟩
theorem sc_Span_init : FnScope ["self", "least", "most"] ["self", "least", "most"] (defScope s_Span_init) := ⟨rfl, rfl, rfl, by decide +kernel, rfl, by decide +kernel, by decide +kernel⟩
theorem sc_Span_eq : FnScope ["self", "other"] ["self", "other"] (defScope s_Span_eq) := ⟨rfl, rfl, rfl, by decide +kernel, rfl, by decide +kernel, by decide +kernel⟩
theorem sc_Span_len : FnScope ["self"] ["self"] (defScope s_Span_len) := ⟨rfl, rfl, rfl, by decide +kernel, rfl, by decide +kernel, by decide +kernel⟩
theorem sc_Span_str : FnScope ["self"] ["self"] (defScope s_Span_str) := ⟨rfl, rfl, rfl, by decide +kernel, rfl, by decide +kernel, by decide +kernel⟩
theorem sc_Span_repr : FnScope ["self"] ["self"] (defScope s_Span_repr) := ⟨rfl, rfl, rfl, by decide +kernel, rfl, by decide +kernel, by decide +kernel⟩
theorem sc_Span_holds : FnScope ["self", "number"] ["self", "number"] (defScope s_Span_holds) := ⟨rfl, rfl, rfl, by decide +kernel, rfl, by decide +kernel, by decide +kernel⟩
theorem sc_Span_plus : FnScope ["self", "other"] ["self", "other"] (defScope s_Span_plus) := ⟨rfl, rfl, rfl, by decide +kernel, rfl, by decide +kernel, by decide +kernel⟩
theorem sc_Span_widened : FnScope ["self", "by"] ["self", "by"] (defScope s_Span_widened) := ⟨rfl, rfl, rfl, by decide +kernel, rfl, by decide +kernel, by decide +kernel⟩
theorem sc_Span_meet : FnScope ["self", "other", "least", "most"] ["self", "other"] (defScope s_Span_meet) := ⟨rfl, rfl, rfl, by decide +kernel, rfl, by decide +kernel, by decide +kernel⟩
theorem sc__law_ends : FnScope ["pen", "a_least"] ["pen"] (defScope s__law_ends) := ⟨rfl, rfl, rfl, by decide +kernel, rfl, by decide +kernel, by decide +kernel⟩
theorem sc__law_made : FnScope ["pen", "ends"] ["pen", "ends"] (defScope s__law_made) := ⟨rfl, rfl, rfl, by decide +kernel, rfl, by decide +kernel, by decide +kernel⟩
theorem sc__law_is : FnScope ["span", "a_least", "a_most", "text"] ["span", "a_least", "a_most"] (defScope s__law_is) := ⟨rfl, rfl, rfl, by decide +kernel, rfl, by decide +kernel, by decide +kernel⟩
theorem sc_law : FnScope ["script", "pen", "turn", "one", "other", "first", "second", "number", "told", "a_least", "a_most", "left", "right", "a_by"] ["script"] (defScope s_law) := ⟨rfl, rfl, rfl, by decide +kernel, rfl, by decide +kernel, by decide +kernel⟩
theorem nf_Span_least_most : ¬ (("least" : Str) = "most") := by decide +kernel
theorem nf_Span_most_least : ¬ (("most" : Str) = "least") := by decide +kernel
def fs_Span (v_least v_most : V) : List (Str × V) := putF "most" v_most (putF "least" v_least ([]))
theorem fs_Span_least (v_least v_most : V) : (fs_Span v_least v_most).lookup ("least" : Str) = some v_least := by
  unfold fs_Span
  rw [lookup_putF, if_neg nf_Span_least_most]
  rw [lookup_putF, if_pos rfl]
theorem fs_Span_most (v_least v_most : V) : (fs_Span v_least v_most).lookup ("most" : Str) = some v_most := by
  unfold fs_Span
  rw [lookup_putF, if_pos rfl]
theorem fs_Span_no (v_least v_most : V) {m : Str} (h_least : ¬ m = "least") (h_most : ¬ m = "most") : (fs_Span v_least v_most).lookup m = none := by
  unfold fs_Span
  rw [lookup_putF, if_neg h_most, lookup_putF, if_neg h_least]
  all_goals rfl
structure Txt (K : PySem.W.Frag) (mg : Str → Option Value) where
  C_Span : Addr
  f__law_pen : Addr
  fd__law_pen : FuncData
  f__law_draw : Addr
  fd__law_draw : FuncData
  f__law_number : Addr
  fd__law_number : FuncData
  f_Span_init : Addr
  fd_Span_init : FuncData
  f_Span_eq : Addr
  fd_Span_eq : FuncData
  f_Span_len : Addr
  fd_Span_len : FuncData
  f_Span_str : Addr
  fd_Span_str : FuncData
  f_Span_repr : Addr
  fd_Span_repr : FuncData
  f_Span_holds : Addr
  fd_Span_holds : FuncData
  f_Span_plus : Addr
  fd_Span_plus : FuncData
  f_Span_widened : Addr
  fd_Span_widened : FuncData
  f_Span_meet : Addr
  fd_Span_meet : FuncData
  f__law_ends : Addr
  fd__law_ends : FuncData
  f__law_made : Addr
  fd__law_made : FuncData
  f__law_is : Addr
  fd__law_is : FuncData
  f_law : Addr
  fd_law : FuncData
  mgc_Span : mg "Span" = some (.ref C_Span)
  cl_Span : Cls K C_Span
  na_Span_least : NoAttr K C_Span "least"
  na_Span_most : NoAttr K C_Span "most"
  mk_Span : Mk K C_Span f_Span_init
  ne_Span : PySem.W.findIn K (.ref C_Span) "__ne__" = some (some (.builtin "object.__ne__"))
  nb_Span : PySem.W.findIn K (.ref C_Span) "__bool__" = some none
  ha_Span : PySem.W.findIn K (.ref C_Span) "__class__" = some (some (.builtin "object.__class__"))
  mo_Span : PySem.W.mroIn K C_Span (.type "object") = some true
  nF_Span_own : PySem.W.notFirst K C_Span (.ref C_Span) = true
  nF_Span_tuple : PySem.W.notFirst K C_Span (.type "tuple") = true
  ki_Span_own : PySem.W.kitOne K (.ref C_Span) (.ref C_Span) = some true
  ki_Span_tuple : PySem.W.kitOne K (.type "tuple") (.ref C_Span) = some false
  hn : PySem.W.specialIn K (.builtin "object.__class__") "__get__" = some (some (.builtin "getset_descriptor.__get__"))
  ht : PySem.W.takesIn K (.builtin "object.__class__") = some true
  mg__law_pen : mg "_law_pen" = some (.ref f__law_pen)
  F__law_pen : FunD K "_law_pen" "_law_pen" (defArgs s__law_pen) (defBody s__law_pen) (defScope s__law_pen) [] [] f__law_pen fd__law_pen
  mg__law_draw : mg "_law_draw" = some (.ref f__law_draw)
  F__law_draw : FunD K "_law_draw" "_law_draw" (defArgs s__law_draw) (defBody s__law_draw) (defScope s__law_draw) [] [] f__law_draw fd__law_draw
  mg__law_number : mg "_law_number" = some (.ref f__law_number)
  F__law_number : FunD K "_law_number" "_law_number" (defArgs s__law_number) (defBody s__law_number) (defScope s__law_number) [] [] f__law_number fd__law_number
  m_Span_init : Meth K C_Span "__init__" f_Span_init
  F_Span_init : FunD K "__init__" "Span.__init__" (defArgs s_Span_init) (defBody s_Span_init) (defScope s_Span_init) [.non] [] f_Span_init fd_Span_init
  m_Span_eq : Meth K C_Span "__eq__" f_Span_eq
  F_Span_eq : FunD K "__eq__" "Span.__eq__" (defArgs s_Span_eq) (defBody s_Span_eq) (defScope s_Span_eq) [] [] f_Span_eq fd_Span_eq
  m_Span_len : Meth K C_Span "__len__" f_Span_len
  F_Span_len : FunD K "__len__" "Span.__len__" (defArgs s_Span_len) (defBody s_Span_len) (defScope s_Span_len) [] [] f_Span_len fd_Span_len
  m_Span_str : Meth K C_Span "__str__" f_Span_str
  F_Span_str : FunD K "__str__" "Span.__str__" (defArgs s_Span_str) (defBody s_Span_str) (defScope s_Span_str) [] [] f_Span_str fd_Span_str
  m_Span_repr : Meth K C_Span "__repr__" f_Span_repr
  F_Span_repr : FunD K "__repr__" "Span.__repr__" (defArgs s_Span_repr) (defBody s_Span_repr) (defScope s_Span_repr) [] [] f_Span_repr fd_Span_repr
  m_Span_holds : Meth K C_Span "holds" f_Span_holds
  F_Span_holds : FunD K "holds" "Span.holds" (defArgs s_Span_holds) (defBody s_Span_holds) (defScope s_Span_holds) [] [] f_Span_holds fd_Span_holds
  m_Span_plus : Meth K C_Span "plus" f_Span_plus
  F_Span_plus : FunD K "plus" "Span.plus" (defArgs s_Span_plus) (defBody s_Span_plus) (defScope s_Span_plus) [] [] f_Span_plus fd_Span_plus
  m_Span_widened : Meth K C_Span "widened" f_Span_widened
  F_Span_widened : FunD K "widened" "Span.widened" (defArgs s_Span_widened) (defBody s_Span_widened) (defScope s_Span_widened) [.int 1] [] f_Span_widened fd_Span_widened
  m_Span_meet : Meth K C_Span "meet" f_Span_meet
  F_Span_meet : FunD K "meet" "Span.meet" (defArgs s_Span_meet) (defBody s_Span_meet) (defScope s_Span_meet) [] [] f_Span_meet fd_Span_meet
  mg__law_ends : mg "_law_ends" = some (.ref f__law_ends)
  F__law_ends : FunD K "_law_ends" "_law_ends" (defArgs s__law_ends) (defBody s__law_ends) (defScope s__law_ends) [] [] f__law_ends fd__law_ends
  mg__law_made : mg "_law_made" = some (.ref f__law_made)
  F__law_made : FunD K "_law_made" "_law_made" (defArgs s__law_made) (defBody s__law_made) (defScope s__law_made) [] [] f__law_made fd__law_made
  mg__law_is : mg "_law_is" = some (.ref f__law_is)
  F__law_is : FunD K "_law_is" "_law_is" (defArgs s__law_is) (defBody s__law_is) (defScope s__law_is) [] [] f__law_is fd__law_is
  mg_law : mg "law" = some (.ref f_law)
  F_law : FunD K "law" "law" (defArgs s_law) (defBody s_law) (defScope s_law) [] [] f_law fd_law
  b_abs : mg "abs" = none
  b_bool : mg "bool" = none
  b_isinstance : mg "isinstance" = none
  b_len : mg "len" = none
  b_max : mg "max" = none
  b_min : mg "min" = none
  b_range : mg "range" = none
  b_repr : mg "repr" = none
  b_str : mg "str" = none
section
variable {P : Program} {w : World} {K : PySem.W.Frag} {mg : Str → Option Value} {base : Heap}
theorem Txt.b__law_pen (T : Txt K mg) : Binds K T.fd__law_pen ["script"] [] := T.F__law_pen.bindsN (ps := ["script"]) fun _ _ _ _ _ _ us hl => match us, hl with | [_], _ => rfl
theorem Txt.b__law_draw (T : Txt K mg) : Binds K T.fd__law_draw ["pen", "many"] [] := T.F__law_draw.bindsN (ps := ["pen", "many"]) fun _ _ _ _ _ _ us hl => match us, hl with | [_, _], _ => rfl
theorem Txt.b__law_number (T : Txt K mg) : Binds K T.fd__law_number ["pen"] [] := T.F__law_number.bindsN (ps := ["pen"]) fun _ _ _ _ _ _ us hl => match us, hl with | [_], _ => rfl
theorem Txt.b_Span_eq (T : Txt K mg) : Binds K T.fd_Span_eq ["self", "other"] [] := T.F_Span_eq.bindsN (ps := ["self", "other"]) fun _ _ _ _ _ _ us hl => match us, hl with | [_, _], _ => rfl
theorem Txt.b_Span_len (T : Txt K mg) : Binds K T.fd_Span_len ["self"] [] := T.F_Span_len.bindsN (ps := ["self"]) fun _ _ _ _ _ _ us hl => match us, hl with | [_], _ => rfl
theorem Txt.b_Span_str (T : Txt K mg) : Binds K T.fd_Span_str ["self"] [] := T.F_Span_str.bindsN (ps := ["self"]) fun _ _ _ _ _ _ us hl => match us, hl with | [_], _ => rfl
theorem Txt.b_Span_repr (T : Txt K mg) : Binds K T.fd_Span_repr ["self"] [] := T.F_Span_repr.bindsN (ps := ["self"]) fun _ _ _ _ _ _ us hl => match us, hl with | [_], _ => rfl
theorem Txt.b_Span_holds (T : Txt K mg) : Binds K T.fd_Span_holds ["self", "number"] [] := T.F_Span_holds.bindsN (ps := ["self", "number"]) fun _ _ _ _ _ _ us hl => match us, hl with | [_, _], _ => rfl
theorem Txt.b_Span_plus (T : Txt K mg) : Binds K T.fd_Span_plus ["self", "other"] [] := T.F_Span_plus.bindsN (ps := ["self", "other"]) fun _ _ _ _ _ _ us hl => match us, hl with | [_, _], _ => rfl
theorem Txt.b_Span_meet (T : Txt K mg) : Binds K T.fd_Span_meet ["self", "other"] [] := T.F_Span_meet.bindsN (ps := ["self", "other"]) fun _ _ _ _ _ _ us hl => match us, hl with | [_, _], _ => rfl
theorem Txt.b__law_ends (T : Txt K mg) : Binds K T.fd__law_ends ["pen"] [] := T.F__law_ends.bindsN (ps := ["pen"]) fun _ _ _ _ _ _ us hl => match us, hl with | [_], _ => rfl
theorem Txt.b__law_made (T : Txt K mg) : Binds K T.fd__law_made ["pen", "ends"] [] := T.F__law_made.bindsN (ps := ["pen", "ends"]) fun _ _ _ _ _ _ us hl => match us, hl with | [_, _], _ => rfl
theorem Txt.b__law_is (T : Txt K mg) : Binds K T.fd__law_is ["span", "a_least", "a_most"] [] := T.F__law_is.bindsN (ps := ["span", "a_least", "a_most"]) fun _ _ _ _ _ _ us hl => match us, hl with | [_, _, _], _ => rfl
theorem Txt.b_law (T : Txt K mg) : Binds K T.fd_law ["script"] [] := T.F_law.bindsN (ps := ["script"]) fun _ _ _ _ _ _ us hl => match us, hl with | [_], _ => rfl
theorem bd_Span_init_2 (T : Txt K mg) : ∃ ds, Vals [] ds ∧ Binds K T.fd_Span_init ["self", "least", "most"] ds := T.F_Span_init.binds1 (ps := ["self", "least", "most"]) 3 1 (by simp) rfl fun _ _ _ _ _ _ _ us its hl hi => match us, hl, its, hi with | [_, _, _], _, [_], _ => ⟨_, rfl, rfl⟩
theorem bd_Span_init_1 (T : Txt K mg) : ∃ ds, Vals [.non] ds ∧ Binds K T.fd_Span_init ["self", "least", "most"] ds := T.F_Span_init.binds1 (ps := ["self", "least", "most"]) 2 0 (by simp) rfl fun _ _ _ _ _ _ _ us its hl hi => match us, hl, its, hi with | [_, _], _, [_], _ => ⟨_, rfl, rfl⟩
def g_bd_Span_init_0_least_most {α : Type} (us its ws : List α) : List α := (us.drop 0).take 1 ++ ((ws.drop 0).take 1 ++ ((ws.drop 1).take 1))
theorem bd_Span_init_0_least_most (T : Txt K mg) : ∃ its : List Value, KBn K T.fd_Span_init ["self", "least", "most"] 1 ["least", "most"] (fun us ws => g_bd_Span_init_0_least_most us its ws) (fun vs zs => g_bd_Span_init_0_least_most vs [.non] zs) :=
  T.F_Span_init.kbindsD (ps := ["self", "least", "most"]) 1 ["least", "most"] (fun us its ws => g_bd_Span_init_0_least_most us its ws) (by simp) (fun r1 r2 r3 => ((r1.drop 0).take 1).append (((r3.drop 0).take 1).append ((r3.drop 1).take 1)))
    fun _ _ _ _ _ _ _ us its ws h1 h2 h3 => match us, h1, its, h2, ws, h3 with | [_], _, [_], _, [_, _], _ => ⟨_, rfl, rfl⟩
theorem bd_Span_widened_1 (T : Txt K mg) : ∃ ds, Vals [] ds ∧ Binds K T.fd_Span_widened ["self", "by"] ds := T.F_Span_widened.binds1 (ps := ["self", "by"]) 2 1 (by simp) rfl fun _ _ _ _ _ _ _ us its hl hi => match us, hl, its, hi with | [_, _], _, [_], _ => ⟨_, rfl, rfl⟩
def g_bd_Span_widened_0_by {α : Type} (us its ws : List α) : List α := (us.drop 0).take 1 ++ ((ws.drop 0).take 1)
theorem bd_Span_widened_0_by (T : Txt K mg) : ∃ its : List Value, KBn K T.fd_Span_widened ["self", "by"] 1 ["by"] (fun us ws => g_bd_Span_widened_0_by us its ws) (fun vs zs => g_bd_Span_widened_0_by vs [.int 1] zs) :=
  T.F_Span_widened.kbindsD (ps := ["self", "by"]) 1 ["by"] (fun us its ws => g_bd_Span_widened_0_by us its ws) (by simp) (fun r1 r2 r3 => ((r1.drop 0).take 1).append ((r3.drop 0).take 1))
    fun _ _ _ _ _ _ _ us its ws h1 h2 h3 => match us, h1, its, h2, ws, h3 with | [_], _, [_], _, [_], _ => ⟨_, rfl, rfl⟩
theorem bd_Span_widened_0 (T : Txt K mg) : ∃ ds, Vals [.int 1] ds ∧ Binds K T.fd_Span_widened ["self", "by"] ds := T.F_Span_widened.binds1 (ps := ["self", "by"]) 1 0 (by simp) rfl fun _ _ _ _ _ _ _ us its hl hi => match us, hl, its, hi with | [_], _, [_], _ => ⟨_, rfl, rfl⟩
def sp__law_pen (T : Txt K mg) : Sp := fun vs H Q _ => spPen K vs H Q (fun _ _ _ => False)
theorem ok__law_pen (T : Txt K mg) : FnOk P w K mg base CX0 2 T.f__law_pen T.fd__law_pen ["script"] (sp__law_pen T) := by
  refine okD T.F__law_pen sc__law_pen (fun vs H Q E h => ?_) (fun cdv A outer s H vs Q E hr h => ?_)
  · obtain ⟨_, _, rfl, _⟩ := h; rfl
  · have hu := hu_of hr
    have hu64 := hr.units
    refine ⟨_, pss_one (ps_ret (pe_disp (pps_cons pe_str (pe_lc (own := [("cell", 1)]) (by rfl) sc__law_pen.nd (pi_list (pe_slice sl_list (pv 0) po_none (po_some pe_int))) (blkOk_by (own := [("cell", 1)]) (N := ["script", "cell"]) (sc := defScope s__law_pen) (by decide +kernel)) (fun _ _ _ _ _ => pg_name (i := 1) sc__law_pen.nd rfl (Or.inl rfl)) (fun _ _ _ _ _ => pts_nil) (fun _ _ _ _ _ => pv 1)) (pps_cons pe_str pe_int (pps_cons pe_str pe_int pps_nil))) (by rfl) (by rfl) (fun z => by cases z) (by decide))), ?_⟩
    obtain ⟨a, ns, rfl, hS, hlen, k⟩ := h
    intro p np
    have s0 : Same H (upd H p (.dK [])) := same_upd np
    refine ⟨_, rfl, _, rfl, a, _, rfl, s0.seq hS, ?_⟩
    intro q0 nq0
    obtain ⟨ms, ems, hms⟩ := cut_ints ns none (some 63)
    generalize hH1 : upd (upd H p (.dK [])) q0 (.lst (cutV (ns.map V.int) none (some 63))) = H1
    have s1 : Same (upd H p (.dK [])) H1 := by rw [← hH1]; exact same_upd nq0
    have e1 : H1 q0 = some (.lst (ms.map V.int)) := by rw [← hH1, ← ems]; exact upd_same
    have p1 : H1 p = some (.dK []) := s1 _ _ upd_same
    clear hH1
    refine ⟨q0, rfl, ⟨_, SqL.of e1⟩, fun D nD => ?_⟩
    refine lc_list (K := K) (a := q0) (xs := ms.map V.int) (fun i H' => ∃ acc : List Int, H' D = some (.lst (acc.map V.int)) ∧ acc.length ≤ i ∧ But D H1 H') ⟨[], upd_same, Nat.le_refl _, but_upd⟩
      (fun i H' hi ⟨acc, h1, h2, h3⟩ => SqL.of (h3 _ _ (ne_of_none e1 nD) e1)) ?_ ?_
    · rintro i x H' hi ⟨acc, h1, h2, h3⟩
      obtain ⟨n, hn, rfl⟩ := get_int hi
      refine ⟨rfl, ?_⟩
      have hil := (List.getElem?_eq_some_iff.mp hn).1
      refine ⟨_, rfl, _, h1, by rw [List.length_map]; exact small1000 (by omega), acc ++ [n], ?_, by rw [List.length_append]; exact Nat.add_le_add_right h2 1, h3.trans but_upd⟩
      rw [List.map_append]
      exact upd_same
    · rintro H' ⟨acc, h1, h2, h3⟩
      have p2 : H' p = some (.dK []) := h3 _ _ (ne_of_none p1 nD) p1
      rw [List.length_map] at h2
      refine ⟨p2, penD D 0 0, rfl, by show 3 ≤ 15; decide, ?_⟩
      have nDp : D ≠ p := fun e => by rw [e, p1] at nD; cases nD
      have sH : Same H (upd H' p (.dK (mergeK [] (penD D 0 0)))) := fun b o e => by
        rw [upd_ne (ne_of_none e np)]
        exact h3 _ _ (ne_of_none (s1 _ _ (s0 _ _ e)) nD) (s1 _ _ (s0 _ _ e))
      have mg3 : mergeK [] (penD D 0 0) = penD D 0 0 := pen_merge D
      rw [mg3] at sH ⊢
      exact k p _ np sH ⟨D, acc, 0, 0, upd_same, by rw [upd_ne nDp]; exact h1, by omega, Int.le_refl _, Int.le_refl _, Int.le_refl _⟩
def sp__law_draw (T : Txt K mg) : Sp := fun vs H Q _ => spDraw vs H Q (fun _ _ _ => False)
theorem ok__law_draw (T : Txt K mg) : FnOk P w K mg base CX0 2 T.f__law_draw T.fd__law_draw ["pen", "many"] (sp__law_draw T) := by
  refine okD T.F__law_draw sc__law_draw (fun vs H Q E h => ?_) (fun cdv A outer s H vs Q E hr h => ?_)
  · obtain ⟨_, _, _, rfl, _⟩ := h; rfl
  · have hu := hu_of hr
    have hu64 := hr.units
    refine ⟨_, pss_cons (ps_if (pt_cmpR op_gt (pe_dget hu (pv 0) pe_str (fun _ _ => rfl)) pe_int (nomark _)) (pss_cons (ps_set (i := 2) sc__law_draw.nd rfl (Or.inl rfl) (pe_op op_mod (pe_dget hu (pv 0) pe_str (fun _ _ => rfl)) (pv 1)))
      (pss_cons (ps_dput hu (pv 0) pe_str (pe_op op_fdivY (pe_dget hu (pv 0) pe_str (fun _ _ => rfl)) (pv 1)) rfl)
      (pss_one (ps_ret (pv 2))))) pss_nil)
      (pss_cons (ps_set (i := 3) sc__law_draw.nd rfl (Or.inl rfl) (pe_dget hu (pv 0) pe_str (fun _ _ => rfl)))
      (pss_cons (ps_dput hu (pv 0) pe_str (pe_op op_add (pv 3) pe_int) rfl)
      (pss_cons (ps_set (i := 4) sc__law_draw.nd rfl (Or.inl rfl) (pe_op op_add (pe_op op_mul (pv 3) (pv 3)) pe_int))
      (pss_cons (ps_if (pt_cmpR (op_neD hu64) (pe_dget hu (pv 0) pe_str (fun _ _ => rfl)) (pe_lstY pa_nil) (nomark _)) (pss_one (ps_set (i := 4) sc__law_draw.nd rfl (Or.inl rfl) (pe_ix ix_list (pe_dget hu (pv 0) pe_str (fun _ _ => rfl)) (pe_op op_mod (pv 3) (pe_callB call_len_seq (by rfl) T.b_len PySem.boot_len (pa_cons (pe_dget hu (pv 0) pe_str (fun _ _ => rfl)) pa_nil))) (fun _ _ => rfl)))) pss_nil)
      (pss_cons (ps_if (PW.pt (pw_and (pt_cmpR op_lt (pv 3) (pe_callB call_len_seq (by rfl) T.b_len PySem.boot_len (pa_cons (pe_dget hu (pv 0) pe_str (fun _ _ => rfl)) pa_nil)) (nomark _)) (pw_and1 (pt_cmpR op_ge (pe_callB call_abs (by rfl) T.b_abs (by decide +kernel) (pa_cons (pv 4) pa_nil)) (pe_op op_pow pe_int pe_int) (nomark _))))) (pss_cons (ps_dput hu (pv 0) pe_str (pe_op op_fdivY (pe_callB call_abs (by rfl) T.b_abs (by decide +kernel) (pa_cons (pv 4) pa_nil)) (pv 1)) rfl)
      (pss_one (ps_ret (pe_op op_mod (pe_callB call_abs (by rfl) T.b_abs (by decide +kernel) (pa_cons (pv 4) pa_nil)) (pv 1))))) pss_nil)
      (pss_cons (ps_set (i := 5) sc__law_draw.nd rfl (Or.inl rfl) (pe_op op_mod (pe_op op_mul (pe_op op_add (pe_op op_add (pe_op op_mod (pv 4) pe_int) (pe_op op_mul pe_int (pv 3))) pe_int) pe_int) pe_int))
      (pss_cons (ps_for PassesOwn.never rfl (pi_range1 (by rfl) T.b_range (pa_cons pe_int pa_nil)) (pg_name (i := 6) sc__law_draw.nd rfl (Or.inl rfl)) (pss_cons (ps_set (i := 5) sc__law_draw.nd rfl (Or.inl rfl) (pe_op op_add (pe_op op_add (pe_op op_add (pe_op op_mul (pv 5) (pv 5)) (pe_op op_mul pe_int (pv 5))) (pv 3)) (pv 6)))
      (pss_one (ps_set (i := 5) sc__law_draw.nd rfl (Or.inl rfl) (pe_op op_mod (pv 5) pe_int)))))
      (pss_one (ps_ret (pe_op op_mod (pe_op op_fdivY (pv 5) pe_int) (pv 1))))))))))), ?_⟩
    obtain ⟨p, m, n, rfl, hP, hn, hm, hm2, k⟩ := h
    obtain ⟨c, ns, a, l, hd, hc, hlen, ha, han, hl⟩ := hP.ex
    have gl : ∀ H' : Hp, H' p = some (.dK (penD c a l)) → DGet H' p (.str "left") (some (.int l)) := fun H' e => by have z := DGet.k (k := Sum.inr "left") e; rw [pen_left] at z; exact z
    have ga : ∀ H' : Hp, H' p = some (.dK (penD c a l)) → DGet H' p (.str "at") (some (.int a)) := fun H' e => by have z := DGet.k (k := Sum.inr "at") e; rw [pen_at] at z; exact z
    have gc : ∀ (H' : Hp) x y, H' p = some (.dK (penD c x y)) → DGet H' p (.str "cells") (some (.ref c)) := fun H' x y e => by have z := DGet.k (k := Sum.inr "cells") e; rw [pen_cells] at z; exact z
    have ncp : c ≠ p := fun e => by rw [e, hd] at hc; cases hc
    have dl : ∀ (H' : Hp) x y z, H' p = some (.dK (penD c x y)) → DPut H' p (.str "left") (.int z) (upd H' p (.dK (penD c x z))) := fun H' x y z e => by
      have w := DPut.k (k := Sum.inr "left") (v := .int z) e (by show 3 < sizeLine; decide)
      rw [put_left] at w; exact w
    have da : ∀ (H' : Hp) x y z, H' p = some (.dK (penD c x y)) → DPut H' p (.str "at") (.int z) (upd H' p (.dK (penD c z y))) := fun H' x y z e => by
      have w := DPut.k (k := Sum.inr "at") (v := .int z) e (by show 3 < sizeLine; decide)
      rw [put_at] at w; exact w
    have fin : ∀ (d x y : Int) (H' : Hp), But p H H' → H' p = some (.dK (penD c x y)) → 0 ≤ x → x ≤ n + 1 → 0 ≤ y → 0 ≤ d → d < m → Q (.int d) H' := fun d x y H' b e h1 h2 h3 h4 h5 =>
      k d H' h4 h5 ⟨c, ns, x, y, e, b _ _ ncp hc, hlen, h1, h2, h3⟩ b (hP.kp b)
    refine ⟨_, rfl, p, _, rfl, gl _ hd, _, _, rfl, rfl, _, rfl, ?_⟩
    refine iteD (fun hl0 => ?_) (fun hl0 => ?_)
    · refine ⟨_, rfl, p, _, rfl, gl _ hd, _, rfl, _, _, rfl, rfl, hm, ?_⟩
      refine ⟨_, rfl, p, _, rfl, gl _ hd, _, rfl, _, _, rfl, rfl, ⟨hm, by omega⟩, ?_⟩
      refine ⟨_, rfl, p, _, rfl, dl _ _ _ _ hd, _, rfl, ?_⟩
      exact fin _ _ _ _ but_upd upd_same ha (by omega) (Int.ediv_nonneg hl (by omega)) (Int.emod_nonneg _ (by omega)) (Int.emod_lt_of_pos _ hm)
    · refine ⟨_, rfl, p, _, rfl, ga _ hd, ?_⟩
      refine ⟨_, rfl, _, _, rfl, rfl, _, rfl, p, _, rfl, da _ _ _ _ hd, ?_⟩
      generalize hH1 : upd H p (.dK (penD c (a + 1) l)) = H1
      have b1 : But p H H1 := by rw [← hH1]; exact but_upd
      have e1 : H1 p = some (.dK (penD c (a + 1) l)) := by rw [← hH1]; exact upd_same
      clear hH1
      have hc1 := b1 _ _ ncp hc
      have hsz : ns.length < sizeLine := Nat.lt_of_le_of_lt hlen (by decide)
      refine ⟨_, rfl, _, rfl, _, _, rfl, rfl, .inl ⟨by omega, by omega⟩, _, _, rfl, rfl, ?_⟩
      refine ⟨_, rfl, p, _, rfl, gc _ _ _ e1, Nat.zero_le _, fun q H2 nq s2 e2 => ?_⟩
      have e1' := s2 _ _ e1
      have hc2 := s2 _ _ hc1
      have b2 : But p H H2 := b1.trans (same_but s2)
      refine ⟨_, _, .lst (SqL.of hc2) (dp_ints ns), .lst (SqL.of e2) .nil, shaped_ints ns, shaped_nil, _, rfl, ?_⟩
      refine iteNe (fun hne => ?g1) (fun hne => ?g2)
      case' g1 =>
        have hpos : 0 < ns.length := by cases ns with | nil => exact absurd rfl hne | cons x r => simp
        have h0 : (0 : Int) ≤ a % (ns.length : Int) := Int.emod_nonneg _ (by omega)
        have h1 : a % (ns.length : Int) < (ns.length : Int) := Int.emod_lt_of_pos _ (by omega)
        obtain ⟨z, hz⟩ := atI_int (xs := ns.map V.int) rfl h0 h1
        refine ⟨_, rfl, p, _, rfl, gc _ _ _ e1', _, rfl, _, rfl, p, _, rfl, gc _ _ _ e1', c, _, rfl, .inl (SqL.of hc2), _, _, rfl, rfl, (by rw [List.length_map]; show (0 : Int) < (ns.length : Int); omega), c, _, _, _, rfl, rfl, SqL.of hc2, (by rw [List.length_map]; exact hz), ?_⟩
      all_goals
        -- the place is within the list, and the number great: its digits
        refine ⟨_, rfl, _, rfl, p, _, rfl, gc _ _ _ e1', c, _, rfl, .inl (SqL.of hc2), _, _, rfl, rfl, _, rfl, ?_⟩
        refine iteD (fun h1 => ?_) (fun h1 => ?_)
        · refine ⟨_, rfl, _, rfl, _, _, rfl, rfl, ⟨by decide, by decide, by decide⟩, _, _, rfl, rfl, _, rfl, ?_⟩
          refine iteD (fun h2 => ?_) (fun h2 => ?_)
          · refine ⟨_, rfl, _, rfl, _, rfl, _, _, rfl, rfl, ⟨hm, by omega⟩, _, rfl, p, _, rfl, dl _ _ _ _ e1', ?_⟩
            refine ⟨_, rfl, _, rfl, _, rfl, _, _, rfl, rfl, hm, ?_⟩
            exact fin _ _ _ _ (b2.trans but_upd) upd_same (by omega) (by omega) (Int.ediv_nonneg (absI _) (by omega)) (Int.emod_nonneg _ (by omega)) (Int.emod_lt_of_pos _ hm)
          · skip
            refine ⟨_, rfl, _, _, rfl, rfl, by show (0 : Int) < 4294967311; decide, _, rfl, _, _, rfl, rfl, .inl ⟨by decide, by decide⟩, _, _, rfl, rfl, _, _, rfl, rfl, _, _, rfl, rfl, .inr ⟨by decide, by decide⟩, _, _, rfl, rfl, by show (0 : Int) < 4294967311; decide, ?_⟩
            refine ⟨3, rfl, by decide, by decide, for_range (n := 3) (fun i σ H' => ∃ (v : Option V) (x : Int) (y z : Option V), σ = [some (.ref p), some (.int m), v, some (.int a), z, some (.int x), y] ∧ H' = H2 ∧ 0 ≤ x ∧ x < 4294967311)
              ⟨_, _, _, _, rfl, rfl, Int.emod_nonneg _ (by decide), Int.emod_lt_of_pos _ (by decide)⟩ ?_ ?_⟩
            · rintro i σ H' hi ⟨v, x, y, z, rfl, rfl, hx0, hx1⟩
              refine ⟨_, rfl, _, rfl, _, _, rfl, rfl, .inl ⟨by omega, by omega⟩, _, rfl, _, _, rfl, rfl, .inl ⟨by decide, by decide⟩, _, _, rfl, rfl, _, rfl, _, _, rfl, rfl, _, rfl, _, _, rfl, rfl, ?_⟩
              refine ⟨_, rfl, _, _, rfl, rfl, by show (0 : Int) < 4294967311; decide, ?_⟩
              exact ⟨_, _, _, _, rfl, rfl, Int.emod_nonneg _ (by decide), Int.emod_lt_of_pos _ (by decide)⟩
            · rintro σ H' ⟨v, x, y, z, rfl, rfl, hx0, hx1⟩
              refine ⟨_, rfl, _, _, rfl, rfl, ⟨by decide, by decide⟩, _, rfl, _, _, rfl, rfl, hm, ?_⟩
              exact fin _ _ _ _ b2 e1' (by omega) (by omega) hl (Int.emod_nonneg _ (by omega)) (Int.emod_lt_of_pos _ hm)
        · skip
          refine ⟨_, rfl, _, _, rfl, rfl, by show (0 : Int) < 4294967311; decide, _, rfl, _, _, rfl, rfl, .inl ⟨by decide, by decide⟩, _, _, rfl, rfl, _, _, rfl, rfl, _, _, rfl, rfl, .inr ⟨by decide, by decide⟩, _, _, rfl, rfl, by show (0 : Int) < 4294967311; decide, ?_⟩
          refine ⟨3, rfl, by decide, by decide, for_range (n := 3) (fun i σ H' => ∃ (v : Option V) (x : Int) (y z : Option V), σ = [some (.ref p), some (.int m), v, some (.int a), z, some (.int x), y] ∧ H' = H2 ∧ 0 ≤ x ∧ x < 4294967311)
            ⟨_, _, _, _, rfl, rfl, Int.emod_nonneg _ (by decide), Int.emod_lt_of_pos _ (by decide)⟩ ?_ ?_⟩
          · rintro i σ H' hi ⟨v, x, y, z, rfl, rfl, hx0, hx1⟩
            refine ⟨_, rfl, _, rfl, _, _, rfl, rfl, .inl ⟨by omega, by omega⟩, _, rfl, _, _, rfl, rfl, .inl ⟨by decide, by decide⟩, _, _, rfl, rfl, _, rfl, _, _, rfl, rfl, _, rfl, _, _, rfl, rfl, ?_⟩
            refine ⟨_, rfl, _, _, rfl, rfl, by show (0 : Int) < 4294967311; decide, ?_⟩
            exact ⟨_, _, _, _, rfl, rfl, Int.emod_nonneg _ (by decide), Int.emod_lt_of_pos _ (by decide)⟩
          · rintro σ H' ⟨v, x, y, z, rfl, rfl, hx0, hx1⟩
            refine ⟨_, rfl, _, _, rfl, rfl, ⟨by decide, by decide⟩, _, rfl, _, _, rfl, rfl, hm, ?_⟩
            exact fin _ _ _ _ b2 e1' (by omega) (by omega) hl (Int.emod_nonneg _ (by omega)) (Int.emod_lt_of_pos _ hm)
def sp__law_number (T : Txt K mg) : Sp := fun vs H Q _ => spNumber vs H Q (fun _ _ _ => False)
theorem ok__law_number (T : Txt K mg) : FnOk P w K mg base CX0 3 T.f__law_number T.fd__law_number ["pen"] (sp__law_number T) := by
  refine okD T.F__law_number sc__law_number (fun vs H Q E h => ?_) (fun cdv A outer s H vs Q E hr h => ?_)
  · obtain ⟨_, _, rfl, _⟩ := h; rfl
  · have hu := hu_of hr
    have hu64 := hr.units
    refine ⟨_, pss_one (ps_ret (pe_ix ix_list (pe_lstY (pa_cons (pe_call (ok__law_draw (P := P) (w := w) (base := base) T) (hr.mono (by decide)) rfl T.mg__law_draw T.F__law_draw.kp (T.b__law_draw) .nil pass0 (pa_cons (pv 0) (pa_cons pe_int pa_nil))) (pa_cons (pe_call (ok__law_draw (P := P) (w := w) (base := base) T) (hr.mono (by decide)) rfl T.mg__law_draw T.F__law_draw.kp (T.b__law_draw) .nil pass0 (pa_cons (pv 0) (pa_cons pe_int pa_nil))) (pa_cons (pe_call (ok__law_draw (P := P) (w := w) (base := base) T) (hr.mono (by decide)) rfl T.mg__law_draw T.F__law_draw.kp (T.b__law_draw) .nil pass0 (pa_cons (pv 0) (pa_cons (pe_op op_pow pe_int pe_int) pa_nil))) pa_nil)))) (pe_call (ok__law_draw (P := P) (w := w) (base := base) T) (hr.mono (by decide)) rfl T.mg__law_draw T.F__law_draw.kp (T.b__law_draw) .nil pass0 (pa_cons (pv 0) (pa_cons pe_int pa_nil))) (fun _ _ => rfl))), ?_⟩
    obtain ⟨p, n, rfl, hP, hn, k⟩ := h
    refine ⟨_, rfl, p, 4, n, rfl, hP, by omega, by decide, by decide, fun d1 H1 a1 c1 P1 b1 k1 => ?_⟩
    refine ⟨_, rfl, p, 300, _, rfl, P1, by omega, by decide, by decide, fun d2 H2 a2 c2 P2 b2 k2 => ?_⟩
    refine ⟨_, rfl, _, _, rfl, rfl, ⟨by decide, by decide, by decide⟩, p, _, _, rfl, P2, by omega, by decide, by decide, fun d3 H3 a3 c3 P3 b3 k3 => ?_⟩
    refine ⟨by show 3 ≤ sizeLine; decide, fun q H4 nq s4 e4 => ?_⟩
    refine ⟨_, rfl, p, 3, _, rfl, P3.same s4, by omega, by decide, by decide, fun d5 H5 a5 c5 P5 b5 k5 => ?_⟩
    have c3' : d3 < 10 ^ 15 := c3
    obtain ⟨v, hv, z, rfl, z0, z1⟩ := atI_all (P := fun v => ∃ z : Int, v = .int z ∧ 0 ≤ z ∧ z < 10 ^ 15) (xs := [.int d1, .int d2, .int d3]) (i := d5)
      (by intro x hx; simp at hx; rcases hx with rfl | rfl | rfl
          · exact ⟨_, rfl, by omega, by omega⟩
          · exact ⟨_, rfl, by omega, by omega⟩
          · exact ⟨_, rfl, by omega, by omega⟩) a5 c5
    refine ⟨q, _, _, _, rfl, rfl, SqL.of (k5.lst e4), hv, ?_⟩
    have b4 : But p H3 H4 := same_but s4
    exact k z H5 z0 z1 (P5.mono (by omega)) ((((b1.trans b2).trans b3).trans b4).trans b5) (((((k1.trans k2).trans k3).trans (same_kp s4))).trans k5)
/-- a span at a value -/
def SpanV (T : Txt K mg) (H : Hp) (v : V) (l m : Int) : Prop := ∃ a dx, v = .ref a ∧ H a = some (.ins T.C_Span dx (fs_Span (.int l) (.int m)))
theorem SpanV.kp {T : Txt K mg} {H H' : Hp} {v : V} {l m : Int} (k : Kp H H') (h : SpanV T H v l m) : SpanV T H' v l m := let ⟨a, dx, e, z⟩ := h; ⟨a, dx, e, k.ins z⟩
theorem SpanV.same {T : Txt K mg} {H H' : Hp} {v : V} {l m : Int} (k : Same H H') (h : SpanV T H v l m) : SpanV T H' v l m := h.kp (same_kp k)
/-- a span is made -/
def MkSpan (T : Txt K mg) (H : Hp) (Q : VK) (l m : Int) : Prop := ∀ (v : V) (H' : Hp), Same H H' → SpanV T H' v l m → Q v H'
theorem TyX.span {T : Txt K mg} {H : Hp} {a dx : Addr} {fs : List (Str × V)} (h : H a = some (.ins T.C_Span dx fs)) : TyX K H (.ref a) (.ref T.C_Span) := .base (.ins h T.cl_Span T.ha_Span T.hn T.ht T.mo_Span)
def sp_Span_init (T : Txt K mg) : Sp := fun vs H Q _ => ∃ (x dx : Addr) (l : Int) (y : V) (m : Int), vs = [.ref x, .int l, y] ∧ (y = .non ∧ m = l ∨ y = .int m) ∧ H x = some (.ins T.C_Span dx []) ∧
  ∀ H', But x H H' → H' x = some (.ins T.C_Span dx (fs_Span (.int l) (.int m))) → Q .non H'
theorem ok_Span_init (T : Txt K mg) : FnOk P w K mg base CX0 2 T.f_Span_init T.fd_Span_init ["self", "least", "most"] (sp_Span_init T) := by
  refine okD T.F_Span_init sc_Span_init (fun vs H Q E h => ?_) (fun cdv A outer s H vs Q E hr h => ?_)
  · obtain ⟨_, _, _, _, _, rfl, _⟩ := h; rfl
  · have hu := hu_of hr
    have hu64 := hr.units
    refine ⟨_, pss_cons (ps_fldY (pv 0) (pv 1) rfl)
      (pss_one (ps_fldY (pv 0) (pe_ifExp (pt_cmpR op_isN (pv 2) pe_non (nomark _)) (pv 1) (pv 2)) rfl)), ?_⟩
    obtain ⟨x, dx, l, y, m, rfl, hy, hx, k⟩ := h
    refine ⟨_, rfl, _, rfl, x, _, dx, _, rfl, hx, T.cl_Span, T.na_Span_least, by show 0 < 1000; decide, fun H1 b1 e1 => ?_⟩
    refine ⟨_, rfl, rfl, _, rfl, ?_⟩
    rcases hy with ⟨rfl, rfl⟩ | rfl
    · refine iteT ?_
      refine ⟨_, rfl, _, rfl, x, _, dx, _, rfl, e1, T.cl_Span, T.na_Span_most, by show 1 < 1000; decide, fun H2 b2 e2 => ?_⟩
      exact k H2 (b1.trans b2) e2
    · refine iteF ?_
      refine ⟨_, rfl, _, rfl, x, _, dx, _, rfl, e1, T.cl_Span, T.na_Span_most, by show 1 < 1000; decide, fun H2 b2 e2 => ?_⟩
      exact k H2 (b1.trans b2) e2
def sp_Span_eq (T : Txt K mg) : Sp := fun vs H Q _ => ∃ (x y : V) (l m : Int), vs = [x, y] ∧ SpanV T H x l m ∧ ((∃ l' m', SpanV T H y l' m' ∧ Q (.bl (decide (l = l') && decide (m = m'))) H) ∨
  (∃ t, TyX K H y t ∧ PySem.W.kitOne K t (.ref T.C_Span) = some false ∧ Q (.bl false) H))
theorem ok_Span_eq (T : Txt K mg) : FnOk P w K mg base CX0 2 T.f_Span_eq T.fd_Span_eq ["self", "other"] (sp_Span_eq T) := by
  refine okD T.F_Span_eq sc_Span_eq (fun vs H Q E h => ?_) (fun cdv A outer s H vs Q E hr h => ?_)
  · obtain ⟨_, _, _, _, rfl, _⟩ := h; rfl
  · have hu := hu_of hr
    have hu64 := hr.units
    refine ⟨_, pss_one (ps_ret (pe_and (pe_callB call_isi (by rfl) T.b_isinstance (by decide +kernel) (pa_cons (pv 1) (pa_cons (pe_glob (v := .ref T.C_Span) rfl T.mgc_Span rfl) pa_nil))) (pe_and (pe_cmpR op_eq (pe_fld (pv 0) (by rfl)) (pe_fld (pv 1) (by rfl)) (nomark _)) (pe_one (pe_cmpR op_eq (pe_fld (pv 0) (by rfl)) (pe_fld (pv 1) (by rfl)) (nomark _)))))), ?_⟩
    obtain ⟨x, y, l, m, rfl, ⟨a, dx, rfl, hx⟩, h⟩ := h
    rcases h with ⟨l', m', ⟨b, dy, rfl, hy⟩, k⟩ | ⟨t, ht, hk, k⟩
    · refine ⟨_, rfl, _, _, _, _, true, rfl, .own _, TyX.span hy, T.ki_Span_own, _, rfl, ?_⟩
      refine iteT ?_
      refine ⟨_, rfl, a, _, dx, _, _, rfl, hx, T.cl_Span, T.na_Span_least, fs_Span_least _ _, _, rfl, b, _, dy, _, _, rfl, hy, T.cl_Span, T.na_Span_least, fs_Span_least _ _, rfl, _, rfl, ?_⟩
      refine iteEI (fun e => ?_) (fun e => ?_)
      · refine ⟨_, rfl, a, _, dx, _, _, rfl, hx, T.cl_Span, T.na_Span_most, fs_Span_most _ _, _, rfl, b, _, dy, _, _, rfl, hy, T.cl_Span, T.na_Span_most, fs_Span_most _ _, rfl, ?_⟩
        rw [decide_eq_true e, Bool.true_and] at k
        rw [dec_int]
        exact k
      · rw [decide_eq_false e, Bool.false_and] at k
        exact k
    · refine ⟨_, rfl, _, _, _, _, false, rfl, .own _, ht, hk, _, rfl, ?_⟩
      exact iteF k
def strS (l m : Int) : Str := if l = m then Str.ofString (toString l) else Str.ofString (toString l) ++ " to " ++ Str.ofString (toString m)
def reprS (l m : Int) : Str := "Span(" ++ Str.ofString (toString l) ++ ", " ++ Str.ofString (toString m) ++ ")"
theorem lit_to : (" to " : Str).length = 4 := by decide +kernel
theorem lit_sp : ("Span(" : Str).length = 5 := by decide +kernel
theorem lit_co : (", " : Str).length = 2 := by decide +kernel
theorem lit_cl : (")" : Str).length = 1 := by decide +kernel
def sp_Span_len (T : Txt K mg) : Sp := fun vs H Q _ => ∃ (x : V) (l m : Int), vs = [x] ∧ SpanV T H x l m ∧ 0 ≤ l ∧ l ≤ m ∧ m < 10 ^ 18 ∧ ∀ H', Same H H' → Q (.int (m + 1 - l)) H'
theorem ok_Span_len (T : Txt K mg) : FnOk P w K mg base CX0 1 T.f_Span_len T.fd_Span_len ["self"] (sp_Span_len T) := by
  refine okD T.F_Span_len sc_Span_len (fun vs H Q E h => ?_) (fun cdv A outer s H vs Q E hr h => ?_)
  · obtain ⟨_, _, _, rfl, _⟩ := h; rfl
  · have hu := hu_of hr
    have hu64 := hr.units
    refine ⟨_, pss_one (ps_ret (pe_callB call_lenR (by rfl) T.b_len PySem.boot_len (pa_cons (pe_callTy cr_range2Y (by rfl) T.b_range (by decide +kernel) (pa_cons (pe_fld (pv 0) (by rfl)) (pa_cons (pe_op op_add (pe_fld (pv 0) (by rfl)) pe_int) pa_nil))) pa_nil))), ?_⟩
    obtain ⟨x, l, m, rfl, ⟨a, dx, rfl, hx⟩, h0, h1, h2, k⟩ := h
    refine ⟨_, rfl, a, _, dx, _, _, rfl, hx, T.cl_Span, T.na_Span_least, fs_Span_least _ _, _, rfl, a, _, dx, _, _, rfl, hx, T.cl_Span, T.na_Span_most, fs_Span_most _ _, _, _, rfl, rfl, _, _, rfl, fun q H2 nq s2 e2 => ?_⟩
    refine ⟨q, _, _, rfl, e2, by omega, ?_⟩
    have e : (((m + 1 - l).toNat : Nat) : Int) = m + 1 - l := by omega
    show Q (.int (((m + 1 - l).toNat : Nat) : Int)) H2
    rw [e]
    exact k H2 s2
def sp_Span_str (T : Txt K mg) : Sp := fun vs H Q _ => ∃ (x : V) (l m : Int), vs = [x] ∧ SpanV T H x l m ∧ 0 ≤ l ∧ l ≤ m ∧ m < 10 ^ 18 ∧ Q (.str (strS l m)) H
theorem ok_Span_str (T : Txt K mg) : FnOk P w K mg base CX0 1 T.f_Span_str T.fd_Span_str ["self"] (sp_Span_str T) := by
  refine okD T.F_Span_str sc_Span_str (fun vs H Q E h => ?_) (fun cdv A outer s H vs Q E hr h => ?_)
  · obtain ⟨_, _, _, rfl, _⟩ := h; rfl
  · have hu := hu_of hr
    have hu64 := hr.units
    refine ⟨_, pss_cons (ps_if (pt_cmpR op_eq (pe_fld (pv 0) (by rfl)) (pe_fld (pv 0) (by rfl)) (nomark _)) (pss_one (ps_ret (pe_callTy call_str_int (by rfl) T.b_str (by decide +kernel) (pa_cons (pe_fld (pv 0) (by rfl)) pa_nil)))) pss_nil)
      (pss_one (ps_ret (pe_joined (.cons (pe_fmt (pe_fld (pv 0) (by rfl))) (.cons pe_str (.cons (pe_fmt (pe_fld (pv 0) (by rfl))) .nil)))))), ?_⟩
    obtain ⟨x, l, m, rfl, ⟨a, dx, rfl, hx⟩, h0, h1, h2, k⟩ := h
    refine ⟨_, rfl, a, _, dx, _, _, rfl, hx, T.cl_Span, T.na_Span_least, fs_Span_least _ _, _, rfl, a, _, dx, _, _, rfl, hx, T.cl_Span, T.na_Span_most, fs_Span_most _ _, rfl, _, rfl, ?_⟩
    have n1 := num_len (i := l) (by omega) (by omega)
    have n2 := num_len (i := m) (by omega) (by omega)
    unfold strS at k
    refine iteEI (fun e => ?_) (fun e => ?_)
    · rw [if_pos e] at k
      exact ⟨_, rfl, a, _, dx, _, _, rfl, hx, T.cl_Span, T.na_Span_least, fs_Span_least _ _, _, rfl, log_small (by omega) (by omega), k⟩
    · rw [if_neg e] at k
      refine ⟨_, rfl, a, _, dx, _, _, rfl, hx, T.cl_Span, T.na_Span_least, fs_Span_least _ _, .inr ⟨_, rfl, log_small (by omega) (by omega), _, rfl, line_big ?_, _, rfl, line_big ?_, ?_⟩⟩
      · rw [Str.empty_append]; omega
      · rw [Str.empty_append, str_len, lit_to]; omega
      refine ⟨_, rfl, a, _, dx, _, _, rfl, hx, T.cl_Span, T.na_Span_most, fs_Span_most _ _, .inr ⟨_, rfl, log_small (by omega) (by omega), _, rfl, line_big ?_, ?_⟩⟩
      · rw [Str.empty_append, str_len, str_len, lit_to]; omega
      rw [Str.empty_append]
      exact k
def sp_Span_repr (T : Txt K mg) : Sp := fun vs H Q _ => ∃ (x : V) (l m : Int), vs = [x] ∧ SpanV T H x l m ∧ 0 ≤ l ∧ l ≤ m ∧ m < 10 ^ 18 ∧ Q (.str (reprS l m)) H
theorem ok_Span_repr (T : Txt K mg) : FnOk P w K mg base CX0 1 T.f_Span_repr T.fd_Span_repr ["self"] (sp_Span_repr T) := by
  refine okD T.F_Span_repr sc_Span_repr (fun vs H Q E h => ?_) (fun cdv A outer s H vs Q E hr h => ?_)
  · obtain ⟨_, _, _, rfl, _⟩ := h; rfl
  · have hu := hu_of hr
    have hu64 := hr.units
    refine ⟨_, pss_one (ps_ret (pe_joined (.cons pe_str (.cons (pe_fmt (pe_fld (pv 0) (by rfl))) (.cons pe_str (.cons (pe_fmt (pe_fld (pv 0) (by rfl))) (.cons pe_str .nil))))))), ?_⟩
    obtain ⟨x, l, m, rfl, ⟨a, dx, rfl, hx⟩, h0, h1, h2, k⟩ := h
    have n1 := num_len (i := l) (by omega) (by omega)
    have n2 := num_len (i := m) (by omega) (by omega)
    refine ⟨_, rfl, line_big ?_, _, rfl, a, _, dx, _, _, rfl, hx, T.cl_Span, T.na_Span_least, fs_Span_least _ _, .inr ⟨_, rfl, log_small (by omega) (by omega), _, rfl, line_big ?_, _, rfl, line_big ?_, ?_⟩⟩
    · rw [Str.empty_append, lit_sp]; omega
    · rw [Str.empty_append, str_len, lit_sp]; omega
    · rw [Str.empty_append, str_len, str_len, lit_sp, lit_co]; omega
    refine ⟨_, rfl, a, _, dx, _, _, rfl, hx, T.cl_Span, T.na_Span_most, fs_Span_most _ _, .inr ⟨_, rfl, log_small (by omega) (by omega), _, rfl, line_big ?_, _, rfl, line_big ?_, ?_⟩⟩
    · rw [Str.empty_append, str_len, str_len, str_len, lit_sp, lit_co]; omega
    · rw [Str.empty_append, str_len, str_len, str_len, str_len, lit_sp, lit_co, lit_cl]; omega
    rw [Str.empty_append]
    exact k
def sp_Span_holds (T : Txt K mg) : Sp := fun vs H Q _ => ∃ (x : V) (l m n : Int), vs = [x, .int n] ∧ SpanV T H x l m ∧ Q (.bl (decide (l ≤ n) && decide (n ≤ m))) H
theorem ok_Span_holds (T : Txt K mg) : FnOk P w K mg base CX0 1 T.f_Span_holds T.fd_Span_holds ["self", "number"] (sp_Span_holds T) := by
  refine okD T.F_Span_holds sc_Span_holds (fun vs H Q E h => ?_) (fun cdv A outer s H vs Q E hr h => ?_)
  · obtain ⟨_, _, _, _, rfl, _⟩ := h; rfl
  · have hu := hu_of hr
    have hu64 := hr.units
    refine ⟨_, pss_one (ps_ret (pe_chain op_le op_le (pe_fld (pv 0) (by rfl)) (pv 1) (pe_fld (pv 0) (by rfl)))), ?_⟩
    obtain ⟨x, l, m, n, rfl, ⟨a, dx, rfl, hx⟩, k⟩ := h
    refine ⟨_, rfl, a, _, dx, _, _, rfl, hx, T.cl_Span, T.na_Span_least, fs_Span_least _ _, _, rfl, _, _, rfl, rfl, _, rfl, ?_⟩
    refine iteD (fun h1 => ?_) (fun h1 => ?_)
    · rw [decide_eq_true h1, Bool.true_and] at k
      exact ⟨_, rfl, a, _, dx, _, _, rfl, hx, T.cl_Span, T.na_Span_most, fs_Span_most _ _, _, _, rfl, rfl, k⟩
    · rw [decide_eq_false h1, Bool.false_and] at k
      exact k
def sp_Span_plus (T : Txt K mg) : Sp := fun vs H Q _ => ∃ (x y : V) (l m l' m' : Int), vs = [x, y] ∧ SpanV T H x l m ∧ SpanV T H y l' m' ∧ MkSpan T H Q (l + l') (m + m')
theorem ok_Span_plus (T : Txt K mg) : FnOk P w K mg base CX0 4 T.f_Span_plus T.fd_Span_plus ["self", "other"] (sp_Span_plus T) := by
  refine okD T.F_Span_plus sc_Span_plus (fun vs H Q E h => ?_) (fun cdv A outer s H vs Q E hr h => ?_)
  · obtain ⟨_, _, _, _, _, _, rfl, _⟩ := h; rfl
  · have hu := hu_of hr
    have hu64 := hr.units
    obtain ⟨ds_bd_Span_init_2, bd_Span_init_2⟩ := bd_Span_init_2 T
    refine ⟨_, pss_one (ps_ret (pe_makeY T.mk_Span (ok_Span_init (P := P) (w := w) (base := base) T) (hr.mono (by decide)) rfl T.mgc_Span bd_Span_init_2.2 bd_Span_init_2.1 pass0 (pa_cons (pe_op op_add (pe_fld (pv 0) (by rfl)) (pe_fld (pv 1) (by rfl))) (pa_cons (pe_op op_add (pe_fld (pv 0) (by rfl)) (pe_fld (pv 1) (by rfl))) pa_nil)))), ?_⟩
    obtain ⟨x, y, l, m, l', m', rfl, ⟨a, dx, rfl, hx⟩, ⟨b, dy, rfl, hy⟩, k⟩ := h
    refine ⟨_, rfl, a, _, dx, _, _, rfl, hx, T.cl_Span, T.na_Span_least, fs_Span_least _ _, _, rfl, b, _, dy, _, _, rfl, hy, T.cl_Span, T.na_Span_least, fs_Span_least _ _, _, _, rfl, rfl, ?_⟩
    refine ⟨_, rfl, a, _, dx, _, _, rfl, hx, T.cl_Span, T.na_Span_most, fs_Span_most _ _, _, rfl, b, _, dy, _, _, rfl, hy, T.cl_Span, T.na_Span_most, fs_Span_most _ _, _, _, rfl, rfl, ?_⟩
    refine fun x1 dx1 Ha1 n1 g1 sa1 ea1 => ⟨x1, dx1, _, _, _, rfl, .inr rfl, ea1, fun H1 b1 e1 => ⟨rfl, ?_⟩⟩
    have s1 := same_new n1 sa1 b1
    exact k _ _ s1 ⟨x1, dx1, rfl, e1⟩
def sp_Span_widened (T : Txt K mg) : Sp := fun vs H Q _ => ∃ (x : V) (l m b : Int), vs = [x, .int b] ∧ SpanV T H x l m ∧ MkSpan T H Q (if l - b > 0 then l - b else 0) (m + b)
theorem ok_Span_widened (T : Txt K mg) : FnOk P w K mg base CX0 4 T.f_Span_widened T.fd_Span_widened ["self", "by"] (sp_Span_widened T) := by
  refine okD T.F_Span_widened sc_Span_widened (fun vs H Q E h => ?_) (fun cdv A outer s H vs Q E hr h => ?_)
  · obtain ⟨_, _, _, _, rfl, _⟩ := h; rfl
  · have hu := hu_of hr
    have hu64 := hr.units
    obtain ⟨ds_bd_Span_init_2, bd_Span_init_2⟩ := bd_Span_init_2 T
    refine ⟨_, pss_one (ps_ret (pe_makeY T.mk_Span (ok_Span_init (P := P) (w := w) (base := base) T) (hr.mono (by decide)) rfl T.mgc_Span bd_Span_init_2.2 bd_Span_init_2.1 pass0 (pa_cons (pe_callB (call_max2 rfl) (by rfl) T.b_max (by decide +kernel) (pa_cons pe_int (pa_cons (pe_op op_sub (pe_fld (pv 0) (by rfl)) (pv 1)) pa_nil))) (pa_cons (pe_op op_add (pe_fld (pv 0) (by rfl)) (pv 1)) pa_nil)))), ?_⟩
    obtain ⟨x, l, m, b, rfl, ⟨a, dx, rfl, hx⟩, k⟩ := h
    refine ⟨_, rfl, a, _, dx, _, _, rfl, hx, T.cl_Span, T.na_Span_least, fs_Span_least _ _, _, rfl, _, _, rfl, rfl, _, _, rfl, ?_⟩
    refine ⟨_, rfl, a, _, dx, _, _, rfl, hx, T.cl_Span, T.na_Span_most, fs_Span_most _ _, _, rfl, _, _, rfl, rfl, ?_⟩
    refine fun x1 dx1 Ha1 n1 g1 sa1 ea1 => ⟨x1, dx1, _, _, _, rfl, .inr rfl, ea1, fun H1 b1 e1 => ⟨rfl, ?_⟩⟩
    have s1 := same_new n1 sa1 b1
    exact k _ _ s1 ⟨x1, dx1, rfl, e1⟩
def sp_Span_meet (T : Txt K mg) : Sp := fun vs H Q _ => ∃ (x y : V) (l m l' m' : Int), vs = [x, y] ∧ SpanV T H x l m ∧ SpanV T H y l' m' ∧
  ((if l' > l then l' else l) ≤ (if m' < m then m' else m) → MkSpan T H Q (if l' > l then l' else l) (if m' < m then m' else m)) ∧
  (¬ (if l' > l then l' else l) ≤ (if m' < m then m' else m) → Q .non H)
theorem ok_Span_meet (T : Txt K mg) : FnOk P w K mg base CX0 4 T.f_Span_meet T.fd_Span_meet ["self", "other"] (sp_Span_meet T) := by
  refine okD T.F_Span_meet sc_Span_meet (fun vs H Q E h => ?_) (fun cdv A outer s H vs Q E hr h => ?_)
  · obtain ⟨_, _, _, _, _, _, rfl, _⟩ := h; rfl
  · have hu := hu_of hr
    have hu64 := hr.units
    obtain ⟨ds_bd_Span_init_2, bd_Span_init_2⟩ := bd_Span_init_2 T
    refine ⟨_, pss_cons (ps_set (i := 2) sc_Span_meet.nd rfl (Or.inl rfl) (pe_callB (call_max2 rfl) (by rfl) T.b_max (by decide +kernel) (pa_cons (pe_fld (pv 0) (by rfl)) (pa_cons (pe_fld (pv 1) (by rfl)) pa_nil))))
      (pss_cons (ps_set (i := 3) sc_Span_meet.nd rfl (Or.inl rfl) (pe_callB (call_min2 rfl) (by rfl) T.b_min (by decide +kernel) (pa_cons (pe_fld (pv 0) (by rfl)) (pa_cons (pe_fld (pv 1) (by rfl)) pa_nil))))
      (pss_one (ps_ret (pe_ifExp (pt_cmpR op_le (pv 2) (pv 3) (nomark _)) (pe_makeY T.mk_Span (ok_Span_init (P := P) (w := w) (base := base) T) (hr.mono (by decide)) rfl T.mgc_Span bd_Span_init_2.2 bd_Span_init_2.1 pass0 (pa_cons (pv 2) (pa_cons (pv 3) pa_nil))) pe_non)))), ?_⟩
    obtain ⟨x, y, l, m, l', m', rfl, ⟨a, dx, rfl, hx⟩, ⟨b, dy, rfl, hy⟩, k, kn⟩ := h
    refine ⟨_, rfl, a, _, dx, _, _, rfl, hx, T.cl_Span, T.na_Span_least, fs_Span_least _ _, _, rfl, b, _, dy, _, _, rfl, hy, T.cl_Span, T.na_Span_least, fs_Span_least _ _, _, _, rfl, ?_⟩
    refine ⟨_, rfl, a, _, dx, _, _, rfl, hx, T.cl_Span, T.na_Span_most, fs_Span_most _ _, _, rfl, b, _, dy, _, _, rfl, hy, T.cl_Span, T.na_Span_most, fs_Span_most _ _, _, _, rfl, ?_⟩
    refine ⟨_, rfl, _, rfl, _, _, rfl, rfl, _, rfl, ?_⟩
    refine iteD (fun hle => ?_) (fun hle => ?_)
    · refine ⟨_, rfl, _, rfl, ?_⟩
      refine fun x1 dx1 Ha1 n1 g1 sa1 ea1 => ⟨x1, dx1, _, _, _, rfl, .inr rfl, ea1, fun H1 b1 e1 => ⟨rfl, ?_⟩⟩
      have s1 := same_new n1 sa1 b1
      exact k hle _ _ s1 ⟨x1, dx1, rfl, e1⟩
    · exact kn hle
def sp__law_ends (T : Txt K mg) : Sp := fun vs H Q _ => ∃ (p : Addr) (n : Int), vs = [.ref p] ∧ Pen H p n ∧ n ≤ 2 ^ 58 ∧
  ∀ (q : Addr) (l m : Int) (H' : Hp), H' q = some (.tup [.int l, .int m]) → 0 ≤ l → l ≤ m → m < 10 ^ 16 → Pen H' p (n + 16) → But p H H' → Kp H H' → Q (.ref q) H'
theorem ok__law_ends (T : Txt K mg) : FnOk P w K mg base CX0 4 T.f__law_ends T.fd__law_ends ["pen"] (sp__law_ends T) := by
  refine okD T.F__law_ends sc__law_ends (fun vs H Q E h => ?_) (fun cdv A outer s H vs Q E hr h => ?_)
  · obtain ⟨_, _, rfl, _⟩ := h; rfl
  · have hu := hu_of hr
    have hu64 := hr.units
    refine ⟨_, pss_cons (ps_set (i := 1) sc__law_ends.nd rfl (Or.inl rfl) (pe_call (ok__law_number (P := P) (w := w) (base := base) T) (hr.mono (by decide)) rfl T.mg__law_number T.F__law_number.kp (T.b__law_number) .nil pass0 (pa_cons (pv 0) pa_nil)))
      (pss_one (ps_ret (pe_tupY (pa_cons (pv 1) (pa_cons (pe_op op_add (pv 1) (pe_ix ix_list (pe_lstY (pa_cons pe_int (pa_cons pe_int (pa_cons pe_int (pa_cons (pe_call (ok__law_draw (P := P) (w := w) (base := base) T) (hr.mono (by decide)) rfl T.mg__law_draw T.F__law_draw.kp (T.b__law_draw) .nil pass0 (pa_cons (pv 0) (pa_cons pe_int pa_nil))) (pa_cons (pe_call (ok__law_number (P := P) (w := w) (base := base) T) (hr.mono (by decide)) rfl T.mg__law_number T.F__law_number.kp (T.b__law_number) .nil pass0 (pa_cons (pv 0) pa_nil)) pa_nil)))))) (pe_call (ok__law_draw (P := P) (w := w) (base := base) T) (hr.mono (by decide)) rfl T.mg__law_draw T.F__law_draw.kp (T.b__law_draw) .nil pass0 (pa_cons (pv 0) (pa_cons pe_int pa_nil))) (fun _ _ => rfl))) pa_nil))))), ?_⟩
    obtain ⟨p, n, rfl, P0, hn, k⟩ := h
    refine ⟨_, rfl, p, _, rfl, P0, by omega, fun d1 H1 l1 u1 P1 b1 k1 => ?_⟩
    refine ⟨_, rfl, _, rfl, ?_⟩
    refine ⟨_, rfl, p, _, _, rfl, P1, by omega, by omega, by omega, fun d2 H2 l2 u2 P2 b2 k2 => ?_⟩
    refine ⟨_, rfl, p, _, rfl, P2, by omega, fun d3 H3 l3 u3 P3 b3 k3 => ?_⟩
    refine ⟨by show 5 ≤ sizeLine; decide, fun q4 H4 n4 s4 e4 => ?_⟩
    have P4 := P3.same s4
    refine ⟨_, rfl, p, _, _, rfl, P4, by omega, by omega, by omega, fun d5 H5 l5 u5 P5 b5 k5 => ?_⟩
    obtain ⟨w6, hw6, z, rfl, z0, z1⟩ := atI_all (P := fun v => ∃ z : Int, v = .int z ∧ 0 ≤ z ∧ z < 10 ^ 15) (xs := [.int 0, .int 0, .int 1, .int d2, .int d3]) (i := d5)
      (by intro x hx; simp at hx; rcases hx with rfl | rfl | rfl | rfl <;> exact ⟨_, rfl, by omega, by omega⟩) l5 u5
    refine ⟨q4, _, _, _, rfl, rfl, SqL.of (k5.lst e4), hw6, _, _, rfl, rfl, ?_⟩
    refine ⟨by show 2 ≤ sizeLine; decide, fun q6 H6 n6 s6 e6 => ?_⟩
    exact k q6 _ _ H6 e6 l1 (by omega) (by omega) ((P5.same s6).mono (by omega)) (((((b1.trans b2).trans b3).trans (same_but s4)).trans b5).trans (same_but s6)) (((((k1.trans k2).trans k3).trans (same_kp s4)).trans k5).trans (same_kp s6))
def sp__law_made (T : Txt K mg) : Sp := fun vs H Q _ => ∃ (p q : Addr) (l m n : Int), vs = [.ref p, .ref q] ∧ H q = some (.tup [.int l, .int m]) ∧ Pen H p n ∧ n ≤ 2 ^ 58 ∧
  ∀ (v : V) (H' : Hp), SpanV T H' v l m → Pen H' p (n + 4) → But p H H' → Kp H H' → Q v H'
theorem ok__law_made (T : Txt K mg) : FnOk P w K mg base CX0 5 T.f__law_made T.fd__law_made ["pen", "ends"] (sp__law_made T) := by
  refine okD T.F__law_made sc__law_made (fun vs H Q E h => ?_) (fun cdv A outer s H vs Q E hr h => ?_)
  · obtain ⟨_, _, _, _, _, rfl, _⟩ := h; rfl
  · have hu := hu_of hr
    have hu64 := hr.units
    obtain ⟨ds_bd_Span_init_1, bd_Span_init_1⟩ := bd_Span_init_1 T
    obtain ⟨its_bd_Span_init_0_least_most, bd_Span_init_0_least_most⟩ := bd_Span_init_0_least_most T
    obtain ⟨ds_bd_Span_init_2, bd_Span_init_2⟩ := bd_Span_init_2 T
    refine ⟨_, pss_cons (ps_if (PW.pt (pw_and (pt_cmpR op_eq (pe_ix ix_tup (pv 1) pe_int (fun _ _ => rfl)) (pe_ix ix_tup (pv 1) pe_int (fun _ _ => rfl)) (nomark _)) (pw_and1 (pt_cmpR op_eq (pe_call (ok__law_draw (P := P) (w := w) (base := base) T) (hr.mono (by decide)) rfl T.mg__law_draw T.F__law_draw.kp (T.b__law_draw) .nil pass0 (pa_cons (pv 0) (pa_cons pe_int pa_nil))) pe_int (nomark _))))) (pss_one (ps_ret (pe_makeY T.mk_Span (ok_Span_init (P := P) (w := w) (base := base) T) (hr.mono (by decide)) rfl T.mgc_Span bd_Span_init_1.2 bd_Span_init_1.1 pass0 (pa_cons (pe_ix ix_tup (pv 1) pe_int (fun _ _ => rfl)) pa_nil)))) pss_nil)
      (pss_one (ps_ret (pe_ix ix_list (pe_lstY (pa_cons (pe_makeY T.mk_Span (ok_Span_init (P := P) (w := w) (base := base) T) (hr.mono (by decide)) rfl T.mgc_Span bd_Span_init_2.2 bd_Span_init_2.1 pass0 (pa_cons (pe_ix ix_tup (pv 1) pe_int (fun _ _ => rfl)) (pa_cons (pe_ix ix_tup (pv 1) pe_int (fun _ _ => rfl)) pa_nil))) (pa_cons (pe_makeKY T.mk_Span (ok_Span_init (P := P) (w := w) (base := base) T) (hr.mono (by decide)) rfl T.mgc_Span bd_Span_init_0_least_most pass0 (pk_cons (pe_ix ix_tup (pv 1) pe_int (fun _ _ => rfl)) (pk_cons (pe_ix ix_tup (pv 1) pe_int (fun _ _ => rfl)) pk_nil))) pa_nil))) (pe_call (ok__law_draw (P := P) (w := w) (base := base) T) (hr.mono (by decide)) rfl T.mg__law_draw T.F__law_draw.kp (T.b__law_draw) .nil pass0 (pa_cons (pv 0) (pa_cons pe_int pa_nil))) (fun _ _ => rfl)))), ?_⟩
    obtain ⟨p, q, l, m, n, rfl, hq, P0, hn, k⟩ := h
    have rest : True := trivial
    refine ⟨_, rfl, q, _, _, _, rfl, rfl, SqT.of hq, rfl, _, rfl, q, _, _, _, rfl, rfl, SqT.of hq, rfl, rfl, _, rfl, ?_⟩
    refine iteEI (fun e => ?_) (fun e => ?_)
    · skip
      refine ⟨_, rfl, p, _, _, rfl, P0, by omega, by omega, by omega, fun d1 H1 l1 u1 P1 b1 k1 => ?_⟩
      refine ⟨rfl, _, rfl, ?_⟩
      have hq1 := k1.tup hq
      refine iteEI (fun e1 => ?_) (fun e1 => ?_)
      · refine ⟨_, rfl, q, _, _, _, rfl, rfl, SqT.of hq1, rfl, ?_⟩
        refine fun x2 dx2 Ha2 n2 g2 sa2 ea2 => ⟨x2, dx2, _, _, _, rfl, .inl ⟨rfl, rfl⟩, ea2, fun H2 b2 e2 => ⟨rfl, ?_⟩⟩
        have s2 := same_new n2 sa2 b2
        exact k _ _ ⟨x2, dx2, rfl, by rw [e2, e]⟩ ((P1.same s2).mono (by omega)) (b1.trans (same_but s2)) (k1.trans (same_kp s2))
      · have P1' : Pen H1 p (n + 1) := P1
        refine ⟨_, rfl, q, _, _, _, rfl, rfl, SqT.of hq1, rfl, _, rfl, q, _, _, _, rfl, rfl, SqT.of hq1, rfl, ?_⟩
        refine fun x5 dx5 Ha5 n5 g5 sa5 ea5 => ⟨x5, dx5, _, _, _, rfl, .inr rfl, ea5, fun H5 b5 e5 => ⟨rfl, ?_⟩⟩
        have s5 := same_new n5 sa5 b5
        have g5 := s5 _ _ hq1
        refine ⟨_, rfl, q, _, _, _, rfl, rfl, SqT.of g5, rfl, _, rfl, q, _, _, _, rfl, rfl, SqT.of g5, rfl, ?_⟩
        refine ⟨rfl, rfl, fun x6 dx6 Ha6 n6 g6 sa6 ea6 => ⟨x6, dx6, _, _, _, rfl, .inr rfl, ea6, fun H6 b6 e6 => ⟨rfl, ?_⟩⟩⟩
        have s6 := same_new n6 sa6 b6
        refine ⟨by show 2 ≤ sizeLine; decide, fun q7 H7 n7 s7 e7 => ?_⟩
        have P7 := ((P1'.same s5).same s6).same s7
        refine ⟨_, rfl, p, _, _, rfl, P7, by omega, by omega, by omega, fun d8 H8 l8 u8 P8 b8 k8 => ?_⟩
        have hs : Same H1 H7 := (s5.trans s6).trans s7
        have v5 : SpanV T H8 (.ref x5) l m := ((SpanV.same s6 ⟨x5, dx5, rfl, e5⟩).same s7).kp k8
        have v6 : SpanV T H8 (.ref x6) l m := (SpanV.same s7 ⟨x6, dx6, rfl, e6⟩).kp k8
        obtain ⟨w9, hw9, hv9⟩ := atI_all (P := fun v => SpanV T H8 v l m) (xs := [.ref x5, .ref x6]) (i := d8)
          (by intro x hx; simp at hx; rcases hx with rfl | rfl <;> assumption) l8 u8
        refine ⟨q7, _, _, _, rfl, rfl, SqL.of (k8.lst e7), hw9, ?_⟩
        exact k _ _ hv9 (P8.mono (by omega)) (b1.trans ((same_but hs).trans b8)) (k1.trans ((same_kp hs).trans k8))
    · have P1' : Pen H p (n + 1) := P0.mono (by omega)
      refine ⟨_, rfl, q, _, _, _, rfl, rfl, SqT.of hq, rfl, _, rfl, q, _, _, _, rfl, rfl, SqT.of hq, rfl, ?_⟩
      refine fun x5 dx5 Ha5 n5 g5 sa5 ea5 => ⟨x5, dx5, _, _, _, rfl, .inr rfl, ea5, fun H5 b5 e5 => ⟨rfl, ?_⟩⟩
      have s5 := same_new n5 sa5 b5
      have g5 := s5 _ _ hq
      refine ⟨_, rfl, q, _, _, _, rfl, rfl, SqT.of g5, rfl, _, rfl, q, _, _, _, rfl, rfl, SqT.of g5, rfl, ?_⟩
      refine ⟨rfl, rfl, fun x6 dx6 Ha6 n6 g6 sa6 ea6 => ⟨x6, dx6, _, _, _, rfl, .inr rfl, ea6, fun H6 b6 e6 => ⟨rfl, ?_⟩⟩⟩
      have s6 := same_new n6 sa6 b6
      refine ⟨by show 2 ≤ sizeLine; decide, fun q7 H7 n7 s7 e7 => ?_⟩
      have P7 := ((P1'.same s5).same s6).same s7
      refine ⟨_, rfl, p, _, _, rfl, P7, by omega, by omega, by omega, fun d8 H8 l8 u8 P8 b8 k8 => ?_⟩
      have hs : Same H H7 := (s5.trans s6).trans s7
      have v5 : SpanV T H8 (.ref x5) l m := ((SpanV.same s6 ⟨x5, dx5, rfl, e5⟩).same s7).kp k8
      have v6 : SpanV T H8 (.ref x6) l m := (SpanV.same s7 ⟨x6, dx6, rfl, e6⟩).kp k8
      obtain ⟨w9, hw9, hv9⟩ := atI_all (P := fun v => SpanV T H8 v l m) (xs := [.ref x5, .ref x6]) (i := d8)
        (by intro x hx; simp at hx; rcases hx with rfl | rfl <;> assumption) l8 u8
      refine ⟨q7, _, _, _, rfl, rfl, SqL.of (k8.lst e7), hw9, ?_⟩
      exact k _ _ hv9 (P8.mono (by omega)) (id ((same_but hs).trans b8)) (id ((same_kp hs).trans k8))
def sp__law_is (T : Txt K mg) : Sp := fun vs H Q _ => ∃ (x : V) (l m : Int), vs = [x, .int l, .int m] ∧ SpanV T H x l m ∧ 0 ≤ l ∧ l ≤ m ∧ m < 10 ^ 18 - 1 ∧ ∀ H', Same H H' → Q (.bl true) H'
theorem ok__law_is (T : Txt K mg) : FnOk P w K mg base CX0 6 T.f__law_is T.fd__law_is ["span", "a_least", "a_most"] (sp__law_is T) := by
  refine okD T.F__law_is sc__law_is (fun vs H Q E h => ?_) (fun cdv A outer s H vs Q E hr h => ?_)
  · obtain ⟨_, _, _, rfl, _⟩ := h; rfl
  · have hu := hu_of hr
    have hu64 := hr.units
    obtain ⟨ds_bd_Span_init_2, bd_Span_init_2⟩ := bd_Span_init_2 T
    refine ⟨_, pss_cons (ps_if (PW.pt (pw_or (pt_not (pt_val (pe_callB call_isi (by rfl) T.b_isinstance (by decide +kernel) (pa_cons (pv 0) (pa_cons (pe_glob (v := .ref T.C_Span) rfl T.mgc_Span rfl) pa_nil))))) (pw_or1 (pt_cmpR (op_neD hu64) (pe_tupY (pa_cons (pe_fld (pv 0) (by rfl)) (pa_cons (pe_fld (pv 0) (by rfl)) pa_nil))) (pe_tupY (pa_cons (pv 1) (pa_cons (pv 2) pa_nil))) (nomark _))))) (pss_one (ps_ret pe_bl)) pss_nil)
      (pss_cons (ps_if (PW.pt (pw_or (pt_cmpR op_ne (pe_callB (call_lenO (ok_Span_len (P := P) (w := w) (base := base) T) (hr.mono (by decide)) T.m_Span_len.at_ T.m_Span_len.fn T.b_Span_len pass0) (by rfl) T.b_len PySem.boot_len (pa_cons (pv 0) pa_nil)) (pe_op op_add (pe_op op_sub (pv 2) (pv 1)) pe_int) (nomark _)) (pw_or1 (pt_not (pt_val (pe_callTy (call_boolO (ok_Span_len (P := P) (w := w) (base := base) T) (hr.mono (by decide)) T.m_Span_len.at_ T.m_Span_len.fn T.nb_Span T.b_Span_len pass0) (by rfl) T.b_bool (by decide +kernel) (pa_cons (pv 0) pa_nil))))))) (pss_one (ps_ret pe_bl)) pss_nil)
      (pss_cons (ps_set (i := 3) sc__law_is.nd rfl (Or.inl rfl) (pe_ifExp (pt_cmpR op_eq (pv 1) (pv 2) (nomark _)) (pe_callTy call_str_int (by rfl) T.b_str (by decide +kernel) (pa_cons (pv 1) pa_nil)) (pe_op op_add_str (pe_op op_add_str (pe_callTy call_str_int (by rfl) T.b_str (by decide +kernel) (pa_cons (pv 1) pa_nil)) pe_str) (pe_callTy call_str_int (by rfl) T.b_str (by decide +kernel) (pa_cons (pv 2) pa_nil)))))
      (pss_cons (ps_if (PW.pt (pw_or (pt_cmpR op_ne (pe_callTy (call_strO (ok_Span_str (P := P) (w := w) (base := base) T) (hr.mono (by decide)) T.m_Span_str.at_ T.m_Span_str.fn T.b_Span_str pass0) (by rfl) T.b_str (by decide +kernel) (pa_cons (pv 0) pa_nil)) (pv 3) (nomark _)) (pw_or1 (pt_cmpR op_ne (pe_callB (call_reprO (ok_Span_repr (P := P) (w := w) (base := base) T) (hr.mono (by decide)) T.m_Span_repr.at_ T.m_Span_repr.fn T.b_Span_repr pass0) (by rfl) T.b_repr (by decide +kernel) (pa_cons (pv 0) pa_nil)) (pe_op op_add_str (pe_op op_add_str (pe_op op_add_str (pe_op op_add_str pe_str (pe_callTy call_str_int (by rfl) T.b_str (by decide +kernel) (pa_cons (pv 1) pa_nil))) pe_str) (pe_callTy call_str_int (by rfl) T.b_str (by decide +kernel) (pa_cons (pv 2) pa_nil))) pe_str) (nomark _))))) (pss_one (ps_ret pe_bl)) pss_nil)
      (pss_one (ps_ret (pe_and (pe_cmpR (op_eqO (ok_Span_eq (P := P) (w := w) (base := base) T) (hr.mono (by decide)) T.m_Span_eq.at_ T.m_Span_eq.fn T.b_Span_eq pass0) (pv 0) (pe_makeY T.mk_Span (ok_Span_init (P := P) (w := w) (base := base) T) (hr.mono (by decide)) rfl T.mgc_Span bd_Span_init_2.2 bd_Span_init_2.1 pass0 (pa_cons (pv 1) (pa_cons (pv 2) pa_nil))) (nomark _)) (pe_and (pe_cmpR (op_neO (ok_Span_eq (P := P) (w := w) (base := base) T) (hr.mono (by decide)) T.m_Span_eq.at_ T.m_Span_eq.fn T.ne_Span T.mo_Span T.b_Span_eq pass0) (pv 0) (pe_makeY T.mk_Span (ok_Span_init (P := P) (w := w) (base := base) T) (hr.mono (by decide)) rfl T.mgc_Span bd_Span_init_2.2 bd_Span_init_2.1 pass0 (pa_cons (pv 1) (pa_cons (pe_op op_add (pv 2) pe_int) pa_nil))) (nomark _)) (pe_one (pe_cmpR (op_neO (ok_Span_eq (P := P) (w := w) (base := base) T) (hr.mono (by decide)) T.m_Span_eq.at_ T.m_Span_eq.fn T.ne_Span T.mo_Span T.b_Span_eq pass0) (pv 0) (pe_tupY (pa_cons (pv 1) (pa_cons (pv 2) pa_nil))) (nomark _)))))))))), ?_⟩
    obtain ⟨x, l, m, rfl, hv, h0, h1, h2, k⟩ := h
    obtain ⟨a, dx, rfl, hx⟩ := id hv
    refine ⟨_, rfl, _, _, _, _, true, rfl, .own _, TyX.span hx, T.ki_Span_own, _, rfl, ?_⟩
    -- (span.least, span.most) != (a_least, a_most)
    refine ⟨_, rfl, a, _, dx, _, _, rfl, hx, T.cl_Span, T.na_Span_least, fs_Span_least _ _, _, rfl, a, _, dx, _, _, rfl, hx, T.cl_Span, T.na_Span_most, fs_Span_most _ _, by show 2 ≤ sizeLine; decide, fun q1 H1 n1 s1 e1 => ?_⟩
    refine ⟨_, rfl, _, rfl, by show 2 ≤ sizeLine; decide, fun q2 H2 n2 s2 e2 => ?_⟩
    refine ⟨_, _, .tup (SqT.of (s2 _ _ e1)) (dp_pair l m), .tup (SqT.of e2) (dp_pair l m), shaped_pair _ _, shaped_pair _ _, _, rfl, ?_⟩
    refine iteNP rfl rfl ?_
    have hv2 := hv.same (s1.trans s2)
    have hx2 := (s1.trans s2) _ _ hx
    -- len(span) != a_most - a_least + 1
    refine ⟨_, rfl, a, dx, _, rfl, hx2, _, _, _, rfl, hv2, h0, h1, by omega, fun H3 s3 => ⟨_, rfl, by omega, by omega, _, rfl, _, rfl, _, _, rfl, rfl, _, _, rfl, rfl, rfl, _, rfl, ?_⟩⟩
    refine iteNI (fun z => absurd (by omega) z) (fun _ => ?_)
    -- not bool(span)
    have hv3 := hv2.same s3
    have hx3 := s3 _ _ hx2
    refine ⟨_, rfl, a, dx, _, rfl, hx3, _, _, _, rfl, hv3, h0, h1, by omega, fun H4 s4 => ⟨_, rfl, by omega, by omega, _, rfl, ?_⟩⟩
    have hb : ((m + 1 - l) != 0) = true := by
      rw [bne_iff_ne]
      omega
    rw [hb]
    -- the text
    have hv4 := hv3.same s4
    have hx4 := s4 _ _ hx3
    have sH : Same H H4 := ((s1.trans s2).trans s3).trans s4
    have L1 := num_len (i := l) (by omega) (by omega)
    have L2 := num_len (i := m) (by omega) (by omega)
    refine ⟨_, rfl, _, rfl, rfl, _, rfl, ?_⟩
    refine iteEI (fun e => ?_) (fun e => ?_)
    · refine ⟨_, rfl, _, rfl, log_small (by omega) (by omega), ?_⟩
      have et : strS l m = Str.ofString (toString l) := if_pos e
      refine ⟨_, rfl, a, dx, _, rfl, hx4, _, _, _, rfl, hv4, h0, h1, by omega, _, rfl, _, rfl, rfl, _, rfl, ?_⟩
      refine iteNSt et ?_
      refine ⟨_, rfl, a, dx, _, rfl, hx4, _, _, _, rfl, hv4, h0, h1, by omega, _, rfl, _, rfl, _, rfl, log_small (by omega) (by omega), _, _, rfl, rfl, line_big ?_, _, _, rfl, rfl, line_big ?_, _, rfl, _, rfl, log_small (by omega) (by omega), _, _, rfl, rfl, line_big ?_, _, _, rfl, rfl, line_big ?_, ?_⟩
      · rw [lit_sp]; omega
      · rw [str_len, lit_sp, lit_co]; omega
      · rw [str_len, str_len, lit_sp, lit_co]; omega
      · rw [str_len, str_len, str_len, lit_sp, lit_co, lit_cl]; omega
      refine ⟨rfl, _, rfl, ?_⟩
      refine iteNSt rfl ?_
      -- span == Span(..)
      refine ⟨_, rfl, _, rfl, _, rfl, ?_⟩
      refine fun x5 dx5 Ha5 n5 g5 sa5 ea5 => ⟨x5, dx5, _, _, _, rfl, .inr rfl, ea5, fun H5 b5 e5 => ⟨rfl, ?_⟩⟩
      have s5 := same_new n5 sa5 b5
      have hv5 := hv4.same s5
      have hx5 := s5 _ _ hx4
      refine ⟨a, dx, _, _, rfl, hx5, .ins e5, T.nF_Span_own, _, _, _, _, rfl, hv5, .inl ⟨_, _, ⟨x5, dx5, rfl, e5⟩, _, rfl, ?_⟩⟩
      rw [bothT rfl rfl]
      -- span != Span(.., + 1)
      refine ⟨_, rfl, _, rfl, _, rfl, _, _, rfl, rfl, ?_⟩
      refine fun x6 dx6 Ha6 n6 g6 sa6 ea6 => ⟨x6, dx6, _, _, _, rfl, .inr rfl, ea6, fun H6 b6 e6 => ⟨rfl, ?_⟩⟩
      have s6 := same_new n6 sa6 b6
      have hv6 := hv5.same s6
      have hx6 := s6 _ _ hx5
      refine ⟨a, dx, _, _, rfl, hx6, .ins e6, T.nF_Span_own, _, _, _, _, rfl, hv6, .inl ⟨_, _, ⟨x6, dx6, rfl, e6⟩, _, rfl, _, rfl, ?_⟩⟩
      rw [decide_eq_true rfl, decide_eq_false (show ¬ m = m + 1 by omega)]
      -- span != (.., ..)
      refine ⟨_, rfl, _, rfl, _, rfl, by show 2 ≤ sizeLine; decide, fun q7 H7 n7 s7 e7 => ?_⟩
      refine ⟨a, dx, _, _, rfl, s7 _ _ hx6, .tup e7, T.nF_Span_tuple, _, _, _, _, rfl, hv6.same s7, .inr ⟨_, .base (.tup e7), T.ki_Span_tuple, _, rfl, ?_⟩⟩
      exact k _ (((sH.trans s5).trans s6).trans s7)
    · refine ⟨_, rfl, _, rfl, log_small (by omega) (by omega), _, _, rfl, rfl, line_big ?_, _, rfl, _, rfl, log_small (by omega) (by omega), _, _, rfl, rfl, line_big ?_, ?_⟩
      · rw [lit_to]; omega
      · rw [str_len, lit_to]; omega
      have et : strS l m = Str.ofString (toString l) ++ " to " ++ Str.ofString (toString m) := if_neg e
      refine ⟨_, rfl, a, dx, _, rfl, hx4, _, _, _, rfl, hv4, h0, h1, by omega, _, rfl, _, rfl, rfl, _, rfl, ?_⟩
      refine iteNSt et ?_
      refine ⟨_, rfl, a, dx, _, rfl, hx4, _, _, _, rfl, hv4, h0, h1, by omega, _, rfl, _, rfl, _, rfl, log_small (by omega) (by omega), _, _, rfl, rfl, line_big ?_, _, _, rfl, rfl, line_big ?_, _, rfl, _, rfl, log_small (by omega) (by omega), _, _, rfl, rfl, line_big ?_, _, _, rfl, rfl, line_big ?_, ?_⟩
      · rw [lit_sp]; omega
      · rw [str_len, lit_sp, lit_co]; omega
      · rw [str_len, str_len, lit_sp, lit_co]; omega
      · rw [str_len, str_len, str_len, lit_sp, lit_co, lit_cl]; omega
      refine ⟨rfl, _, rfl, ?_⟩
      refine iteNSt rfl ?_
      -- span == Span(..)
      refine ⟨_, rfl, _, rfl, _, rfl, ?_⟩
      refine fun x5 dx5 Ha5 n5 g5 sa5 ea5 => ⟨x5, dx5, _, _, _, rfl, .inr rfl, ea5, fun H5 b5 e5 => ⟨rfl, ?_⟩⟩
      have s5 := same_new n5 sa5 b5
      have hv5 := hv4.same s5
      have hx5 := s5 _ _ hx4
      refine ⟨a, dx, _, _, rfl, hx5, .ins e5, T.nF_Span_own, _, _, _, _, rfl, hv5, .inl ⟨_, _, ⟨x5, dx5, rfl, e5⟩, _, rfl, ?_⟩⟩
      rw [bothT rfl rfl]
      -- span != Span(.., + 1)
      refine ⟨_, rfl, _, rfl, _, rfl, _, _, rfl, rfl, ?_⟩
      refine fun x6 dx6 Ha6 n6 g6 sa6 ea6 => ⟨x6, dx6, _, _, _, rfl, .inr rfl, ea6, fun H6 b6 e6 => ⟨rfl, ?_⟩⟩
      have s6 := same_new n6 sa6 b6
      have hv6 := hv5.same s6
      have hx6 := s6 _ _ hx5
      refine ⟨a, dx, _, _, rfl, hx6, .ins e6, T.nF_Span_own, _, _, _, _, rfl, hv6, .inl ⟨_, _, ⟨x6, dx6, rfl, e6⟩, _, rfl, _, rfl, ?_⟩⟩
      rw [decide_eq_true rfl, decide_eq_false (show ¬ m = m + 1 by omega)]
      -- span != (.., ..)
      refine ⟨_, rfl, _, rfl, _, rfl, by show 2 ≤ sizeLine; decide, fun q7 H7 n7 s7 e7 => ?_⟩
      refine ⟨a, dx, _, _, rfl, s7 _ _ hx6, .tup e7, T.nF_Span_tuple, _, _, _, _, rfl, hv6.same s7, .inr ⟨_, .base (.tup e7), T.ki_Span_tuple, _, rfl, ?_⟩⟩
      exact k _ (((sH.trans s5).trans s6).trans s7)
def sp_law (T : Txt K mg) : Sp := fun vs H Q _ => sp_law0 K vs H Q (fun _ _ _ => False)
theorem ok_law (T : Txt K mg) : FnOk P w K mg base CX0 8 T.f_law T.fd_law ["script"] (sp_law T) := by
  refine okD T.F_law sc_law (fun vs H Q E h => ?_) (fun cdv A outer s H vs Q E hr h => ?_)
  · obtain ⟨_, _, rfl, _⟩ := h; rfl
  · have hu := hu_of hr
    have hu64 := hr.units
    obtain ⟨ds_bd_Span_widened_1, bd_Span_widened_1⟩ := bd_Span_widened_1 T
    obtain ⟨its_bd_Span_widened_0_by, bd_Span_widened_0_by⟩ := bd_Span_widened_0_by T
    obtain ⟨ds_bd_Span_widened_0, bd_Span_widened_0⟩ := bd_Span_widened_0 T
    obtain ⟨ds_bd_Span_init_2, bd_Span_init_2⟩ := bd_Span_init_2 T
    refine ⟨_, pss_cons (ps_set (i := 1) sc_law.nd rfl (Or.inl rfl) (pe_call (ok__law_pen (P := P) (w := w) (base := base) T) (hr.mono (by decide)) rfl T.mg__law_pen T.F__law_pen.kp (T.b__law_pen) .nil pass0 (pa_cons (pv 0) pa_nil)))
      (pss_cons (ps_for PassesOwn.never rfl (pi_range1 (by rfl) T.b_range (pa_cons (pe_op op_add pe_int (pe_callB (call_min2 rfl) (by rfl) T.b_min (by decide +kernel) (pa_cons pe_int (pa_cons (pe_callB call_len_seq (by rfl) T.b_len PySem.boot_len (pa_cons (pv 0) pa_nil)) pa_nil)))) pa_nil)) (pg_name (i := 2) sc_law.nd rfl (Or.inl rfl)) (pss_cons (ps_set (i := 3) sc_law.nd rfl (Or.inl rfl) (pe_call (ok__law_ends (P := P) (w := w) (base := base) T) (hr.mono (by decide)) rfl T.mg__law_ends T.F__law_ends.kp (T.b__law_ends) .nil pass0 (pa_cons (pv 1) pa_nil)))
      (pss_cons (ps_set (i := 4) sc_law.nd rfl (Or.inl rfl) (pe_ix ix_list (pe_lstY (pa_cons (pe_call (ok__law_ends (P := P) (w := w) (base := base) T) (hr.mono (by decide)) rfl T.mg__law_ends T.F__law_ends.kp (T.b__law_ends) .nil pass0 (pa_cons (pv 1) pa_nil)) (pa_cons (pe_tupY (pa_cons (pe_ix ix_tup (pv 3) pe_int (fun _ _ => rfl)) (pa_cons (pe_op op_add (pe_ix ix_tup (pv 3) pe_int (fun _ _ => rfl)) (pe_call (ok__law_draw (P := P) (w := w) (base := base) T) (hr.mono (by decide)) rfl T.mg__law_draw T.F__law_draw.kp (T.b__law_draw) .nil pass0 (pa_cons (pv 1) (pa_cons pe_int pa_nil)))) pa_nil))) (pa_cons (pe_tupY (pa_cons (pe_op op_add (pe_ix ix_tup (pv 3) pe_int (fun _ _ => rfl)) pe_int) (pa_cons (pe_op op_add (pe_ix ix_tup (pv 3) pe_int (fun _ _ => rfl)) pe_int) pa_nil))) (pa_cons (pv 3) pa_nil))))) (pe_call (ok__law_draw (P := P) (w := w) (base := base) T) (hr.mono (by decide)) rfl T.mg__law_draw T.F__law_draw.kp (T.b__law_draw) .nil pass0 (pa_cons (pv 1) (pa_cons pe_int pa_nil))) (fun _ _ => rfl)))
      (pss_cons (ps_par (i := 5) (j := 6) (by rfl) sc_law.nd rfl rfl (by decide) rfl rfl (pa_cons (pe_call (ok__law_made (P := P) (w := w) (base := base) T) (hr.mono (by decide)) rfl T.mg__law_made T.F__law_made.kp (T.b__law_made) .nil pass0 (pa_cons (pv 1) (pa_cons (pv 3) pa_nil))) (pa_cons (pe_call (ok__law_made (P := P) (w := w) (base := base) T) (hr.mono (by decide)) rfl T.mg__law_made T.F__law_made.kp (T.b__law_made) .nil pass0 (pa_cons (pv 1) (pa_cons (pv 4) pa_nil))) pa_nil)) (by rfl))
      (pss_cons (ps_for PassesOwn.never rfl (pi_list (pe_lstY (pa_cons (pe_ix ix_tup (pv 3) pe_int (fun _ _ => rfl)) (pa_cons (pe_ix ix_tup (pv 3) pe_int (fun _ _ => rfl)) (pa_cons (pe_op op_add (pe_ix ix_tup (pv 3) pe_int (fun _ _ => rfl)) pe_int) (pa_cons (pe_callB (call_max2 rfl) (by rfl) T.b_max (by decide +kernel) (pa_cons pe_int (pa_cons (pe_op op_sub (pe_ix ix_tup (pv 3) pe_int (fun _ _ => rfl)) pe_int) pa_nil))) (pa_cons (pe_call (ok__law_number (P := P) (w := w) (base := base) T) (hr.mono (by decide)) rfl T.mg__law_number T.F__law_number.kp (T.b__law_number) .nil pass0 (pa_cons (pv 1) pa_nil)) pa_nil))))))) (pg_name (i := 7) sc_law.nd rfl (Or.inl rfl)) (pss_cons (ps_set (i := 8) sc_law.nd rfl (Or.inl rfl) (pe_meth (pv 5) T.cl_Span T.m_Span_holds (ok_Span_holds (P := P) (w := w) (base := base) T) (hr.mono (by decide)) (T.b_Span_holds) .nil pass0 (pa_cons (pv 7) pa_nil)))
      (pss_one (ps_if (PW.pt (pw_or (pt_not (pt_val (pe_callB call_isi (by rfl) T.b_isinstance (by decide +kernel) (pa_cons (pv 8) (pa_cons (pe_bltn (v := .ty "bool") (by rfl) T.b_bool (by decide +kernel) rfl) pa_nil))))) (pw_or1 (pt_cmpR op_ne (pv 8) (pe_and (pe_cmpR op_le (pe_ix ix_tup (pv 3) pe_int (fun _ _ => rfl)) (pv 7) (nomark _)) (pe_one (pe_cmpR op_le (pv 7) (pe_ix ix_tup (pv 3) pe_int (fun _ _ => rfl)) (nomark _)))) (nomark _))))) (pss_one (ps_ret pe_bl)) pss_nil))))
      (pss_cons (ps_if (pt_not (pt_val (pe_call (ok__law_is (P := P) (w := w) (base := base) T) (hr.mono (by decide)) rfl T.mg__law_is T.F__law_is.kp (T.b__law_is) .nil pass0 (pa_cons (pe_meth (pv 5) T.cl_Span T.m_Span_plus (ok_Span_plus (P := P) (w := w) (base := base) T) (hr.mono (by decide)) (T.b_Span_plus) .nil pass0 (pa_cons (pv 6) pa_nil)) (pa_cons (pe_op op_add (pe_ix ix_tup (pv 3) pe_int (fun _ _ => rfl)) (pe_ix ix_tup (pv 4) pe_int (fun _ _ => rfl))) (pa_cons (pe_op op_add (pe_ix ix_tup (pv 3) pe_int (fun _ _ => rfl)) (pe_ix ix_tup (pv 4) pe_int (fun _ _ => rfl))) pa_nil)))))) (pss_one (ps_ret pe_bl)) pss_nil)
      (pss_cons (ps_par (i := 9) (j := 10) (by rfl) sc_law.nd rfl rfl (by decide) rfl rfl (pa_cons (pe_callB (call_max2 rfl) (by rfl) T.b_max (by decide +kernel) (pa_cons (pe_ix ix_tup (pv 3) pe_int (fun _ _ => rfl)) (pa_cons (pe_ix ix_tup (pv 4) pe_int (fun _ _ => rfl)) pa_nil))) (pa_cons (pe_callB (call_min2 rfl) (by rfl) T.b_min (by decide +kernel) (pa_cons (pe_ix ix_tup (pv 3) pe_int (fun _ _ => rfl)) (pa_cons (pe_ix ix_tup (pv 4) pe_int (fun _ _ => rfl)) pa_nil))) pa_nil)) (by rfl))
      (pss_cons (ps_for PassesOwn.never rfl (pi_tup (pe_tupY (pa_cons (pe_tupY (pa_cons (pv 5) (pa_cons (pv 6) pa_nil))) (pa_cons (pe_tupY (pa_cons (pv 6) (pa_cons (pv 5) pa_nil))) pa_nil)))) (pg_tup (by rfl) (pgs_cons (pg_name (i := 11) sc_law.nd rfl (Or.inl rfl)) (pgs_cons (pg_name (i := 12) sc_law.nd rfl (Or.inl rfl)) pgs_nil))) (pss_cons (ps_if (PW.pt (pw_and (pt_cmpR op_gt (pv 9) (pv 10) (nomark _)) (pw_and1 (pt_cmpR op_notN (pe_meth (pv 11) T.cl_Span T.m_Span_meet (ok_Span_meet (P := P) (w := w) (base := base) T) (hr.mono (by decide)) (T.b_Span_meet) .nil pass0 (pa_cons (pv 12) pa_nil)) pe_non (nomark _))))) (pss_one (ps_ret pe_bl)) pss_nil)
      (pss_one (ps_if (PW.pt (pw_and (pt_cmpR op_le (pv 9) (pv 10) (nomark _)) (pw_and1 (pt_not (pt_val (pe_call (ok__law_is (P := P) (w := w) (base := base) T) (hr.mono (by decide)) rfl T.mg__law_is T.F__law_is.kp (T.b__law_is) .nil pass0 (pa_cons (pe_meth (pv 11) T.cl_Span T.m_Span_meet (ok_Span_meet (P := P) (w := w) (base := base) T) (hr.mono (by decide)) (T.b_Span_meet) .nil pass0 (pa_cons (pv 12) pa_nil)) (pa_cons (pv 9) (pa_cons (pv 10) pa_nil))))))))) (pss_one (ps_ret pe_bl)) pss_nil))))
      (pss_cons (ps_set (i := 13) sc_law.nd rfl (Or.inl rfl) (pe_call (ok__law_number (P := P) (w := w) (base := base) T) (hr.mono (by decide)) rfl T.mg__law_number T.F__law_number.kp (T.b__law_number) .nil pass0 (pa_cons (pv 1) pa_nil)))
      (pss_cons (ps_if (pt_not (pt_val (pe_call (ok__law_is (P := P) (w := w) (base := base) T) (hr.mono (by decide)) rfl T.mg__law_is T.F__law_is.kp (T.b__law_is) .nil pass0 (pa_cons (pe_meth (pv 5) T.cl_Span T.m_Span_widened (ok_Span_widened (P := P) (w := w) (base := base) T) (hr.mono (by decide)) bd_Span_widened_1.2 bd_Span_widened_1.1 pass0 (pa_cons (pv 13) pa_nil)) (pa_cons (pe_callB (call_max2 rfl) (by rfl) T.b_max (by decide +kernel) (pa_cons pe_int (pa_cons (pe_op op_sub (pe_ix ix_tup (pv 3) pe_int (fun _ _ => rfl)) (pv 13)) pa_nil))) (pa_cons (pe_op op_add (pe_ix ix_tup (pv 3) pe_int (fun _ _ => rfl)) (pv 13)) pa_nil)))))) (pss_one (ps_ret pe_bl)) pss_nil)
      (pss_cons (ps_if (PW.pt (pw_or (pt_not (pt_val (pe_call (ok__law_is (P := P) (w := w) (base := base) T) (hr.mono (by decide)) rfl T.mg__law_is T.F__law_is.kp (T.b__law_is) .nil pass0 (pa_cons (pe_meth0 (pv 5) T.cl_Span T.m_Span_widened (ok_Span_widened (P := P) (w := w) (base := base) T) (hr.mono (by decide)) bd_Span_widened_0.2 bd_Span_widened_0.1 pass0) (pa_cons (pe_callB (call_max2 rfl) (by rfl) T.b_max (by decide +kernel) (pa_cons pe_int (pa_cons (pe_op op_sub (pe_ix ix_tup (pv 3) pe_int (fun _ _ => rfl)) pe_int) pa_nil))) (pa_cons (pe_op op_add (pe_ix ix_tup (pv 3) pe_int (fun _ _ => rfl)) pe_int) pa_nil)))))) (pw_or1 (pt_cmpR (op_neO (ok_Span_eq (P := P) (w := w) (base := base) T) (hr.mono (by decide)) T.m_Span_eq.at_ T.m_Span_eq.fn T.ne_Span T.mo_Span T.b_Span_eq pass0) (pe_methN0 (pv 5) T.cl_Span T.m_Span_widened (ok_Span_widened (P := P) (w := w) (base := base) T) (hr.mono (by decide)) bd_Span_widened_0_by pass0 (pk_cons pe_int pk_nil)) (pv 5) (nomark _))))) (pss_one (ps_ret pe_bl)) pss_nil)
      (pss_cons (ps_if (PW.pt (pw_or (pt_not (pt_val (pe_call (ok__law_is (P := P) (w := w) (base := base) T) (hr.mono (by decide)) rfl T.mg__law_is T.F__law_is.kp (T.b__law_is) .nil pass0 (pa_cons (pv 5) (pa_cons (pe_ix ix_tup (pv 3) pe_int (fun _ _ => rfl)) (pa_cons (pe_ix ix_tup (pv 3) pe_int (fun _ _ => rfl)) pa_nil)))))) (pw_or1 (pt_not (pt_val (pe_call (ok__law_is (P := P) (w := w) (base := base) T) (hr.mono (by decide)) rfl T.mg__law_is T.F__law_is.kp (T.b__law_is) .nil pass0 (pa_cons (pv 6) (pa_cons (pe_ix ix_tup (pv 4) pe_int (fun _ _ => rfl)) (pa_cons (pe_ix ix_tup (pv 4) pe_int (fun _ _ => rfl)) pa_nil))))))))) (pss_one (ps_ret pe_bl)) pss_nil)
      (pss_one (ps_if (pt_cmpR op_ne (pe_cmpR op_eq (pe_bm PySem.F.plainAttrs_list PySem.F.slot_list_count PySem.F.type_list_count (mt_countO (eqB_own (ok_Span_eq (P := P) (w := w) (base := base) T) T.m_Span_eq.at_ T.m_Span_eq.fn T.b_Span_eq pass0) (hr.mono (by decide))) (pe_lstY (pa_cons (pv 5) (pa_cons (pv 6) pa_nil))) (pa_cons (pe_makeY T.mk_Span (ok_Span_init (P := P) (w := w) (base := base) T) (hr.mono (by decide)) rfl T.mgc_Span bd_Span_init_2.2 bd_Span_init_2.1 pass0 (pa_cons (pe_ix ix_tup (pv 3) pe_int (fun _ _ => rfl)) (pa_cons (pe_ix ix_tup (pv 3) pe_int (fun _ _ => rfl)) pa_nil))) pa_nil)) pe_int (nomark _)) (pe_cmpR (op_eqD hu64) (pv 3) (pv 4) (nomark _)) (nomark _)) (pss_one (ps_ret pe_bl)) pss_nil))))))))))))))
      (pss_one (ps_ret pe_bl))), ?_⟩
    obtain ⟨a, ns, rfl, hS, hlen, k⟩ := h
    refine ⟨_, rfl, a, ns, rfl, hS, hlen, fun p H0 np s0 P0 => ?_⟩
    refine ⟨_, rfl, a, _, rfl, .inl (s0.seq hS), _, _, rfl, _, _, rfl, rfl, ?_⟩
    rw [List.length_map]
    have hN : (2 + (if (ns.length : Int) < 8 then (ns.length : Int) else 8)) ≤ 10 := by split <;> omega
    refine ⟨_, rfl, by show -(2 ^ 62 : Int) ≤ _; omega, by show _ < (2 ^ 62 : Int); omega, ?_⟩
    refine for_range (lo := 0) (n := (2 + (if (ns.length : Int) < 8 then (ns.length : Int) else 8)).toNat) (fun i σ H' => ∃ (v2 v3 v4 v5 v6 v7 v8 v9 v10 v11 v12 v13 : Option V), σ = [some (.ref a), some (.ref p), v2, v3, v4, v5, v6, v7, v8, v9, v10, v11, v12, v13] ∧ Pen H' p (i * 100)) ⟨_, _, _, _, _, _, _, _, _, _, _, _, rfl, P0.mono (by omega)⟩ ?_ ?_
    · rintro i σ H' hi ⟨v2, v3, v4, v5, v6, v7, v8, v9, v10, v11, v12, v13, rfl, P0⟩
      have hi10 : i < 10 := by omega
      refine ⟨_, rfl, p, _, rfl, P0, by omega, fun q1 l1 m1 H1 e1 x1 y1 z1 P1 b1 k1 => ?_⟩
      -- other
      refine ⟨_, rfl, p, _, rfl, P1, by omega, fun q2 l2 m2 H2 e2 x2 y2 z2 P2 b2 k2 => ?_⟩
      have e12 := k2.tup e1
      refine ⟨_, rfl, q1, _, _, _, rfl, rfl, SqT.of e12, rfl, _, rfl, q1, _, _, _, rfl, rfl, SqT.of e12, rfl, _, rfl, p, _, _, rfl, P2, by omega, by omega, by omega, fun d3 H3 l3 u3 P3 b3 k3 => ⟨_, _, rfl, rfl, by show 2 ≤ sizeLine; decide, fun q4 H4 n4 s4 e4 => ?_⟩⟩
      have e14 := s4 _ _ (k3.tup e12)
      have e24 := s4 _ _ (k3.tup e2)
      refine ⟨_, rfl, q1, _, _, _, rfl, rfl, SqT.of e14, rfl, _, _, rfl, rfl, _, rfl, q1, _, _, _, rfl, rfl, SqT.of e14, rfl, _, _, rfl, rfl, by show 2 ≤ sizeLine; decide, fun q5 H5 n5 s5 e5 => ?_⟩
      refine ⟨_, rfl, by show 4 ≤ sizeLine; decide, fun q6 H6 n6 s6 e6 => ?_⟩
      have P6 := (((P3.same s4).same s5).same s6)
      refine ⟨_, rfl, p, _, _, rfl, P6, by omega, by omega, by omega, fun d7 H7 l7 u7 P7 b7 k7 => ?_⟩
      have k37 : Kp H4 H7 := ((same_kp s5).trans (same_kp s6)).trans k7
      have e17 := k37.tup e14
      have e27 := k37.tup e24
      have e47 := k37.tup e4
      have e57 := k7.tup (s6 _ _ e5)
      obtain ⟨w8, hw8, qo, lo, mo, rfl, eo, xo, yo, zo⟩ := atI_all (P := fun v => ∃ q l m, v = .ref q ∧ H7 q = some (.tup [.int l, .int m]) ∧ 0 ≤ l ∧ l ≤ m ∧ m < 10 ^ 17) (xs := [.ref q2, .ref q4, .ref q5, .ref q1]) (i := d7)
        (by intro x hx; simp at hx; rcases hx with rfl | rfl | rfl | rfl
            · exact ⟨_, _, _, rfl, e27, x2, y2, by omega⟩
            · exact ⟨_, _, _, rfl, e47, by omega, by omega, by omega⟩
            · exact ⟨_, _, _, rfl, e57, by omega, by omega, by omega⟩
            · exact ⟨_, _, _, rfl, e17, x1, y1, by omega⟩) l7 u7
      refine ⟨q6, _, _, _, rfl, rfl, SqL.of (k7.lst e6), hw8, ?_⟩
      -- first, second
      refine ⟨_, rfl, _, rfl, p, q1, l1, m1, _, rfl, e17, P7, by omega, fun fv H8 hf P8 b8 k8 => ?_⟩
      refine ⟨_, rfl, _, rfl, p, qo, lo, mo, _, rfl, k8.tup eo, P8, by omega, fun sv H9 hs P9 b9 k9 => ⟨_, _, rfl, ?_⟩⟩
      have hf9 := hf.kp k9
      have e19 := k9.tup (k8.tup e17)
      have eo9 := k9.tup (k8.tup eo)
      -- the numbers
      refine ⟨_, rfl, q1, _, _, _, rfl, rfl, SqT.of e19, rfl, _, rfl, q1, _, _, _, rfl, rfl, SqT.of e19, rfl, _, rfl, q1, _, _, _, rfl, rfl, SqT.of e19, rfl, _, _, rfl, rfl, _, rfl, q1, _, _, _, rfl, rfl, SqT.of e19, rfl, _, _, rfl, rfl, _, _, rfl, ?_⟩
      refine ⟨_, rfl, p, _, rfl, P9, by omega, fun d10 H10 l10 u10 P10 b10 k10 => ?_⟩
      refine ⟨by show 5 ≤ sizeLine; decide, fun q11 H11 n11 s11 e11 => ?_⟩
      have kk : Kp H9 H11 := k10.trans (same_kp s11)
      have P11 := P10.same s11
      have hf11 := hf9.kp kk
      have hs11 := hs.kp kk
      have e111 := kk.tup e19
      have eo11 := kk.tup eo9
      refine ⟨q11, rfl, ⟨_, SqL.of e11⟩, ?_⟩
      refine for_list (K := K) (a := q11) (xs := [.int l1, .int m1, .int (m1 + 1), .int (if l1 - 1 > 0 then l1 - 1 else 0), .int d10]) (fun j σ H' => ∃ (w7 w8 : Option V), σ = [some (.ref a), some (.ref p), some (.int (0 + i)), some (.ref q1), some (.ref qo), some fv, some sv, w7, w8, v9, v10, v11, v12, v13] ∧ H' = H11)
        ⟨_, _, rfl, rfl⟩ (fun j σ H' _ ⟨_, _, _, e⟩ => by rw [e]; exact SqL.of e11) ?_ ?_
      · rintro j y σ H' hj ⟨w7, w8, rfl, rfl⟩
        obtain ⟨n, rfl⟩ : ∃ n, y = V.int n := by
          have hm := List.mem_of_getElem? hj
          simp at hm
          rcases hm with rfl | rfl | rfl | rfl | rfl <;> exact ⟨_, rfl⟩
        obtain ⟨fa, fdx, rfl, hfa⟩ := id hf11
        refine ⟨_, rfl, fa, fdx, _, rfl, hfa, fs_Span_no _ _ (by decide +kernel) (by decide +kernel), _, rfl, _, l1, m1, n, rfl, hf11, ?_⟩
        refine ⟨_, rfl, _, _, _, _, true, rfl, .ty "bool", .base (.bl _), kit_ty (by decide +kernel), _, rfl, ?_⟩
        refine ⟨_, rfl, _, rfl, q1, _, _, _, rfl, rfl, SqT.of e111, rfl, _, rfl, _, _, rfl, rfl, _, rfl, ?_⟩
        refine iteD (fun h1 => ?_) (fun h1 => ?_)
        · refine ⟨_, rfl, _, rfl, q1, _, _, _, rfl, rfl, SqT.of e111, rfl, _, _, rfl, rfl, rfl, _, rfl, ?_⟩
          refine iteNBl (by rw [decide_eq_true h1, Bool.true_and]) ?_
          exact ⟨_, _, rfl, rfl⟩
        · refine ⟨rfl, _, rfl, ?_⟩
          refine iteNBl (by rw [decide_eq_false h1, Bool.false_and]) ?_
          exact ⟨_, _, rfl, rfl⟩
      rintro σ H' ⟨w7, w8, rfl, rfl⟩
      obtain ⟨fa, fdx, rfl, hfa⟩ := id hf11
      obtain ⟨sa, sdx, rfl, hsa⟩ := id hs11
      -- first.plus(second)
      refine ⟨_, rfl, fa, fdx, _, rfl, hfa, fs_Span_no _ _ (by decide +kernel) (by decide +kernel), _, rfl, _, _, l1, m1, lo, mo, rfl, hf11, hs11, fun pv H12 s12 h12 => ?_⟩
      have e12' := s12 _ _ e111
      have eo12 := s12 _ _ eo11
      refine ⟨_, rfl, q1, _, _, _, rfl, rfl, SqT.of e12', rfl, _, rfl, qo, _, _, _, rfl, rfl, SqT.of eo12, rfl, _, _, rfl, rfl, _, rfl, q1, _, _, _, rfl, rfl, SqT.of e12', rfl, _, rfl, qo, _, _, _, rfl, rfl, SqT.of eo12, rfl, _, _, rfl, rfl, ?_⟩
      refine ⟨_, _, _, rfl, h12, by omega, by omega, by omega, fun H13 s13 => ⟨_, rfl, ?_⟩⟩
      have e13 := s13 _ _ e12'
      have eo13 := s13 _ _ eo12
      -- a_least, a_most
      refine ⟨_, rfl, q1, _, _, _, rfl, rfl, SqT.of e13, rfl, _, rfl, qo, _, _, _, rfl, rfl, SqT.of eo13, rfl, _, _, rfl, _, rfl, q1, _, _, _, rfl, rfl, SqT.of e13, rfl, _, rfl, qo, _, _, _, rfl, rfl, SqT.of eo13, rfl, _, _, rfl, _, _, rfl, ?_⟩
      have s113 := s12.trans s13
      have hf13 := hf11.same s113
      have hs13 := hs11.same s113
      have P13 := P11.same s113
      -- the two turns
      refine ⟨_, rfl, _, rfl, by show 2 ≤ sizeLine; decide, fun q14 H14 n14 s14 e14 => ?_⟩
      refine ⟨_, rfl, _, rfl, by show 2 ≤ sizeLine; decide, fun q15 H15 n15 s15 e15 => ?_⟩
      refine ⟨by show 2 ≤ sizeLine; decide, fun q16 H16 n16 s16 e16 => ?_⟩
      have e14' := s16 _ _ (s15 _ _ e14)
      have e15' := s16 _ _ e15
      have s1316 := (s14.trans s15).trans s16
      have hf16 := hf13.same s1316
      have hs16 := hs13.same s1316
      have P16 := P13.same s1316
      refine ⟨q16, rfl, ⟨_, SqT.of e16⟩, for_tup (K := K) (a := q16) (xs := [.ref q14, .ref q15]) (fun j σ H' => ∃ (w7 w8 w11 w12 : Option V), σ = [some (.ref a), some (.ref p), some (.int (0 + i)), some (.ref q1), some (.ref qo), some (.ref fa), some (.ref sa), w7, w8, some (.int (if lo > l1 then lo else l1)), some (.int (if mo < m1 then mo else m1)), w11, w12, v13] ∧ Same H16 H')
        ⟨_, _, _, _, rfl, Same.refl _⟩ (fun j σ H' _ ⟨_, _, _, _, _, sj⟩ => SqT.of (sj _ _ e16)) ?_ ?_⟩
      · rintro j y σ H' hj ⟨w7, w8, w11, w12, rfl, sj⟩
        obtain ⟨qt, u1, u2, lu, mu, lv, mv, rfl, et, hu, hv, hl, hm⟩ : ∃ (qt : Addr) (u1 u2 : V) (lu mu lv mv : Int), y = .ref qt ∧ H16 qt = some (.tup [u1, u2]) ∧ SpanV T H16 u1 lu mu ∧ SpanV T H16 u2 lv mv ∧ (if lv > lu then lv else lu) = (if lo > l1 then lo else l1) ∧ (if mv < mu then mv else mu) = (if mo < m1 then mo else m1) := by
          have hm := List.mem_of_getElem? hj
          simp at hm
          rcases hm with rfl | rfl
          · exact ⟨_, _, _, _, _, _, _, rfl, e14', hf16, hs16, rfl, rfl⟩
          · exact ⟨_, _, _, _, _, _, _, rfl, e15', hs16, hf16, by split <;> split <;> omega, by split <;> split <;> omega⟩
        have hu' := hu.same sj
        have hv' := hv.same sj
        obtain ⟨ua, udx, rfl, hua⟩ := id hu'
        refine ⟨qt, _, rfl, SqT.of (sj _ _ et), rfl, _, _, rfl, _, _, rfl, rfl, ?_⟩
        refine ⟨_, rfl, _, rfl, _, _, rfl, rfl, _, rfl, ?_⟩
        refine iteD (fun hgt => ?_) (fun hgt => ?_)
        · refine ⟨_, rfl, ua, udx, _, rfl, hua, fs_Span_no _ _ (by decide +kernel) (by decide +kernel), _, rfl, _, _, lu, mu, lv, mv, rfl, hu', hv', fun hle => absurd hle (by rw [hl, hm]; omega), fun _ => ⟨rfl, _, rfl, ?_⟩⟩
          refine ⟨_, rfl, _, rfl, _, _, rfl, rfl, _, rfl, ?_⟩
          refine iteD (fun hle => absurd hle (by omega)) (fun _ => ?_)
          exact ⟨_, _, _, _, rfl, sj⟩
        · refine ⟨_, rfl, _, rfl, _, _, rfl, rfl, _, rfl, ?_⟩
          refine iteD (fun hle => ?_) (fun hle => absurd (by omega) hle)
          refine ⟨_, rfl, ua, udx, _, rfl, hua, fs_Span_no _ _ (by decide +kernel) (by decide +kernel), _, rfl, _, _, lu, mu, lv, mv, rfl, hu', hv', fun _ wv H17 s17 h17 => ?_, fun hn => absurd (by rw [hl, hm]; exact hle) hn⟩
          rw [hl, hm] at h17
          refine ⟨_, rfl, _, rfl, _, _, _, rfl, h17, by split <;> omega, hle, by split <;> omega, fun H18 s18 => ⟨_, rfl, ?_⟩⟩
          exact ⟨_, _, _, _, rfl, (sj.trans s17).trans s18⟩
      rintro σ H' ⟨w7, w8, w11, w12, rfl, s19⟩
      have P19 := P16.same s19
      have hf19 := hf16.same s19
      have hs19 := hs16.same s19
      have e19' := s19 _ _ (s1316 _ _ e13)
      have eo19 := s19 _ _ (s1316 _ _ eo13)
      have hfa19 : H' fa = some (.ins T.C_Span fdx (fs_Span (.int l1) (.int m1))) := s19 _ _ (s1316 _ _ (s113 _ _ hfa))
      have hsa19 : H' sa = some (.ins T.C_Span sdx (fs_Span (.int lo) (.int mo))) := s19 _ _ (s1316 _ _ (s113 _ _ hsa))
      -- widened by a number
      refine ⟨_, rfl, p, _, rfl, P19, by omega, fun d20 H20 l20 u20 P20 b20 k20 => ?_⟩
      have e20 := k20.tup e19'
      have hf20 := hf19.kp k20
      have hfa20 := k20.ins hfa19
      refine ⟨_, rfl, fa, fdx, _, rfl, hfa20, fs_Span_no _ _ (by decide +kernel) (by decide +kernel), _, rfl, _, _, _, d20, rfl, hf20, fun wv H21 s21 h21 => ?_⟩
      have e21 := s21 _ _ e20
      refine ⟨_, rfl, q1, _, _, _, rfl, rfl, SqT.of e21, rfl, _, rfl, _, _, rfl, rfl, _, _, rfl, _, rfl, q1, _, _, _, rfl, rfl, SqT.of e21, rfl, _, rfl, _, _, rfl, rfl, ?_⟩
      refine ⟨_, _, _, rfl, h21, by split <;> omega, by split <;> omega, by omega, fun H22 s22 => ⟨_, rfl, ?_⟩⟩
      have s2022 := s21.trans s22
      -- widened by one; by none
      have e22 := s22 _ _ e21
      refine ⟨_, rfl, fa, fdx, _, rfl, s2022 _ _ hfa20, fs_Span_no _ _ (by decide +kernel) (by decide +kernel), _, _, _, 1, rfl, hf20.same s2022, fun wv H23 s23 h23 => ?_⟩
      have e23 := s23 _ _ e22
      refine ⟨_, rfl, q1, _, _, _, rfl, rfl, SqT.of e23, rfl, _, _, rfl, rfl, _, _, rfl, _, rfl, q1, _, _, _, rfl, rfl, SqT.of e23, rfl, _, _, rfl, rfl, ?_⟩
      refine ⟨_, _, _, rfl, h23, by split <;> omega, by split <;> omega, by omega, fun H24 s24 => ⟨_, rfl, ?_⟩⟩
      have s2024 := (s2022.trans s23).trans s24
      refine ⟨_, rfl, fa, fdx, _, rfl, s2024 _ _ hfa20, fs_Span_no _ _ (by decide +kernel) (by decide +kernel), rfl, rfl, _, _, _, 0, rfl, hf20.same s2024, fun wv H25 s25 h25 => ?_⟩
      obtain ⟨wa, wdx, rfl, hwa⟩ := id h25
      have s2025 := s2024.trans s25
      refine ⟨_, rfl, wa, wdx, _, _, rfl, hwa, .ins (s2025 _ _ hfa20), T.nF_Span_own, _, _, _, _, rfl, h25, .inl ⟨_, _, hf20.same s2025, _, rfl, _, rfl, ?_⟩⟩
      refine iteSp (by split <;> omega) (by omega) ?_
      -- _law_is(first), _law_is(second)
      have e25 := s2025 _ _ e20
      refine ⟨_, rfl, _, rfl, q1, _, _, _, rfl, rfl, SqT.of e25, rfl, _, rfl, q1, _, _, _, rfl, rfl, SqT.of e25, rfl, _, _, _, rfl, hf20.same s2025, x1, y1, by omega, fun H26 s26 => ⟨_, rfl, ?_⟩⟩
      have s2026 := s2025.trans s26
      have hs26 := (hs19.kp k20).same s2026
      have eo26 := s2026 _ _ (k20.tup eo19)
      refine ⟨_, rfl, _, rfl, qo, _, _, _, rfl, rfl, SqT.of eo26, rfl, _, rfl, qo, _, _, _, rfl, rfl, SqT.of eo26, rfl, _, _, _, rfl, hs26, xo, yo, by omega, fun H27 s27 => ⟨_, rfl, ?_⟩⟩
      have s2027 := s2026.trans s27
      have P27 := P20.same s2027
      -- the count by ==
      refine ⟨_, rfl, _, rfl, by show 2 ≤ sizeLine; decide, fun q28 H28 n28 s28 e28 => ?_⟩
      refine ⟨.inl ⟨rfl, _, SqL.of e28⟩, ?_⟩
      have e27' := s28 _ _ (s2027 _ _ e20)
      refine ⟨_, rfl, q1, _, _, _, rfl, rfl, SqT.of e27', rfl, _, rfl, q1, _, _, _, rfl, rfl, SqT.of e27', rfl, ?_⟩
      refine fun x29 dx29 Ha29 n29 g29 sa29 ea29 => ⟨x29, dx29, _, _, _, rfl, .inr rfl, ea29, fun H29 b29 e29 => ⟨rfl, ?_⟩⟩
      have s29 := same_new n29 sa29 b29
      have sb29 := s28.trans s29
      have hf29 := (hf20.same s2027).same sb29
      have hs29 := (hs26.same s27).same sb29
      have hfa29 := sb29 _ _ (s2027 _ _ hfa20)
      have hsa29 := sb29 _ _ (s2027 _ _ (k20.ins hsa19))
      have hn : SpanV T H29 (.ref x29) l1 m1 := ⟨x29, dx29, rfl, e29⟩
      have x29f : x29 ≠ fa := fun z => by rw [z] at n29; rw [s28 _ _ (s2027 _ _ hfa20)] at n29; cases n29
      have x29s : x29 ≠ sa := fun z => by rw [z] at n29; rw [s28 _ _ (s2027 _ _ (k20.ins hsa19))] at n29; cases n29
      refine ⟨q28, _, _, fun m => if m = 0 then true else (decide (lo = l1) && decide (mo = m1)), rfl, rfl, s29 _ _ e28, fun m v hv => ?_, rfl, ?_⟩
      · match m, hv with
        | 0, hv =>
          cases (Option.some.inj hv)
          refine ⟨fa, x29, fdx, _, _, rfl, rfl, hfa29, .ins e29, T.nF_Span_own, fun _ => rfl, _, _, _, _, rfl, hf29, .inl ⟨_, _, hn, ?_, rfl⟩⟩
          rw [bothT rfl rfl]
          rfl
        | 1, hv =>
          cases (Option.some.inj hv)
          refine ⟨sa, x29, sdx, _, _, rfl, rfl, hsa29, .ins e29, T.nF_Span_own, fun z => absurd z.symm x29s, _, _, _, _, rfl, hs29, .inl ⟨_, _, hn, ?_, rfl⟩⟩
          rfl
        | n + 2, hv => cases hv
      have q1z := s29 _ _ e27'
      have qoz := sb29 _ _ (s27 _ _ eo26)
      refine ⟨_, rfl, _, rfl, _, _, .tup (SqT.of q1z) (dp_pair l1 m1), .tup (SqT.of qoz) (dp_pair lo mo), shaped_pair _ _, shaped_pair _ _, rfl, _, rfl, ?_⟩
      refine iteNBl ?_ ?_
      · rw [eqv_pair]
        by_cases h1 : lo = l1
        · by_cases h2 : mo = m1
          · subst h1 h2
            simp [Yarn.cnt]
          · have h2' : ¬ m1 = mo := fun z => h2 z.symm
            simp [Yarn.cnt, h2, h2']
        · have h1' : ¬ l1 = lo := fun z => h1 z.symm
          simp [Yarn.cnt, h1, h1']
      exact ⟨_, _, _, _, _, _, _, _, _, _, _, _, rfl, (P27.same sb29).mono (by omega)⟩
    · rintro σ H' ⟨v2, v3, v4, v5, v6, v7, v8, v9, v10, v11, v12, v13, rfl, P0⟩
      exact k _
end
theorem all_mk {l : PySem.W.OpenLaw} {w : World} {K : PySem.W.Frag} {h : Heap} {mg : Str → Option Value} {fa C_Span f__law_pen f__law_draw f__law_number f_Span_init f_Span_eq f_Span_len f_Span_str f_Span_repr f_Span_holds f_Span_plus f_Span_widened f_Span_meet f__law_ends f__law_made f__law_is f_law : Addr} (X : K.In h) (G : h.Ns mainGlobals mg) (hfa : mg "law" = some (.ref fa))
    {oc__law_pen kV__law_pen dc__law_pen pm__law_pen cd__law_pen ct__law_pen : Value} {od__law_pen an__law_pen : Option Addr} {sl__law_pen : Array (Option Value)}
    {oc__law_draw kV__law_draw dc__law_draw pm__law_draw cd__law_draw ct__law_draw : Value} {od__law_draw an__law_draw : Option Addr} {sl__law_draw : Array (Option Value)}
    {oc__law_number kV__law_number dc__law_number pm__law_number cd__law_number ct__law_number : Value} {od__law_number an__law_number : Option Addr} {sl__law_number : Array (Option Value)}
    {oc_Span_init kV_Span_init dc_Span_init pm_Span_init cd_Span_init ct_Span_init : Value} {od_Span_init an_Span_init : Option Addr} {sl_Span_init : Array (Option Value)}
    {T_Span_init : Addr} {ocT_Span_init : Value} {odT_Span_init : Option Addr} {nT_Span_init : Nat} {slT_Span_init : Array (Option Value)}
    {oc_Span_eq kV_Span_eq dc_Span_eq pm_Span_eq cd_Span_eq ct_Span_eq : Value} {od_Span_eq an_Span_eq : Option Addr} {sl_Span_eq : Array (Option Value)}
    {oc_Span_len kV_Span_len dc_Span_len pm_Span_len cd_Span_len ct_Span_len : Value} {od_Span_len an_Span_len : Option Addr} {sl_Span_len : Array (Option Value)}
    {oc_Span_str kV_Span_str dc_Span_str pm_Span_str cd_Span_str ct_Span_str : Value} {od_Span_str an_Span_str : Option Addr} {sl_Span_str : Array (Option Value)}
    {oc_Span_repr kV_Span_repr dc_Span_repr pm_Span_repr cd_Span_repr ct_Span_repr : Value} {od_Span_repr an_Span_repr : Option Addr} {sl_Span_repr : Array (Option Value)}
    {oc_Span_holds kV_Span_holds dc_Span_holds pm_Span_holds cd_Span_holds ct_Span_holds : Value} {od_Span_holds an_Span_holds : Option Addr} {sl_Span_holds : Array (Option Value)}
    {oc_Span_plus kV_Span_plus dc_Span_plus pm_Span_plus cd_Span_plus ct_Span_plus : Value} {od_Span_plus an_Span_plus : Option Addr} {sl_Span_plus : Array (Option Value)}
    {oc_Span_widened kV_Span_widened dc_Span_widened pm_Span_widened cd_Span_widened ct_Span_widened : Value} {od_Span_widened an_Span_widened : Option Addr} {sl_Span_widened : Array (Option Value)}
    {t_Span_widened_0 : Tok}
    {T_Span_widened : Addr} {ocT_Span_widened : Value} {odT_Span_widened : Option Addr} {nT_Span_widened : Nat} {slT_Span_widened : Array (Option Value)}
    {oc_Span_meet kV_Span_meet dc_Span_meet pm_Span_meet cd_Span_meet ct_Span_meet : Value} {od_Span_meet an_Span_meet : Option Addr} {sl_Span_meet : Array (Option Value)}
    {oc__law_ends kV__law_ends dc__law_ends pm__law_ends cd__law_ends ct__law_ends : Value} {od__law_ends an__law_ends : Option Addr} {sl__law_ends : Array (Option Value)}
    {oc__law_made kV__law_made dc__law_made pm__law_made cd__law_made ct__law_made : Value} {od__law_made an__law_made : Option Addr} {sl__law_made : Array (Option Value)}
    {oc__law_is kV__law_is dc__law_is pm__law_is cd__law_is ct__law_is : Value} {od__law_is an__law_is : Option Addr} {sl__law_is : Array (Option Value)}
    {oc_law kV_law dc_law pm_law cd_law ct_law : Value} {od_law an_law : Option Addr} {sl_law : Array (Option Value)}
    (aC_Span : PySem.W.nsIn K mainGlobals "Span" = some (some (.ref C_Span)))
    (pg_Span : PySem.W.plainGet K C_Span Str.empty = true)
    (hd_Span : PySem.W.hasDictIn K C_Span = true)
    (po_Span : PySem.W.plainOver K C_Span = true)
    (sa_Span : PySem.W.findIn K (.ref C_Span) "__setattr__" = some (some (.builtin "object.__setattr__")))
    (na_Span_least : PySem.W.findIn K (.ref C_Span) "least" = some none)
    (na_Span_most : PySem.W.findIn K (.ref C_Span) "most" = some none)
    (mks_Span : PySem.W.makesIn K C_Span = true)
    (kc_Span : PySem.W.keepIn K (.ref C_Span) = true)
    (ne_Span : PySem.W.findIn K (.ref C_Span) "__ne__" = some (some (.builtin "object.__ne__")))
    (nb_Span : PySem.W.findIn K (.ref C_Span) "__bool__" = some none)
    (ha_Span : PySem.W.findIn K (.ref C_Span) "__class__" = some (some (.builtin "object.__class__")))
    (mo_Span : PySem.W.mroIn K C_Span (.type "object") = some true)
    (nF_Span_own : PySem.W.notFirst K C_Span (.ref C_Span) = true)
    (nF_Span_tuple : PySem.W.notFirst K C_Span (.type "tuple") = true)
    (ic_Span : PySem.W.isClsIn K C_Span = true)
    (ty_Span : PySem.W.typeIn K (.ref C_Span) = some (.type "type"))
    (su_Span_tuple : PySem.W.subIn K (.type "tuple") (.ref C_Span) = some false)
    (hn : PySem.W.specialIn K (.builtin "object.__class__") "__get__" = some (some (.builtin "getset_descriptor.__get__")))
    (ht : PySem.W.takesIn K (.builtin "object.__class__") = some true)
    (a__law_pen : PySem.W.nsIn K mainGlobals "_law_pen" = some (some (.ref f__law_pen)))
    (l__law_pen : K.lookup f__law_pen = some ⟨oc__law_pen, od__law_pen, .func (PySem.W.fnOf "_law_pen" "_law_pen" (defArgs s__law_pen) (defBody s__law_pen) (defScope s__law_pen) .none kV__law_pen dc__law_pen pm__law_pen an__law_pen cd__law_pen ct__law_pen), sl__law_pen⟩)
    (c__law_pen : PySem.W.codeIn K cd__law_pen "_law_pen" = true)
    (k__law_pen : PySem.W.keepIn K (.ref f__law_pen) = true)
    (a__law_draw : PySem.W.nsIn K mainGlobals "_law_draw" = some (some (.ref f__law_draw)))
    (l__law_draw : K.lookup f__law_draw = some ⟨oc__law_draw, od__law_draw, .func (PySem.W.fnOf "_law_draw" "_law_draw" (defArgs s__law_draw) (defBody s__law_draw) (defScope s__law_draw) .none kV__law_draw dc__law_draw pm__law_draw an__law_draw cd__law_draw ct__law_draw), sl__law_draw⟩)
    (c__law_draw : PySem.W.codeIn K cd__law_draw "_law_draw" = true)
    (k__law_draw : PySem.W.keepIn K (.ref f__law_draw) = true)
    (a__law_number : PySem.W.nsIn K mainGlobals "_law_number" = some (some (.ref f__law_number)))
    (l__law_number : K.lookup f__law_number = some ⟨oc__law_number, od__law_number, .func (PySem.W.fnOf "_law_number" "_law_number" (defArgs s__law_number) (defBody s__law_number) (defScope s__law_number) .none kV__law_number dc__law_number pm__law_number an__law_number cd__law_number ct__law_number), sl__law_number⟩)
    (c__law_number : PySem.W.codeIn K cd__law_number "_law_number" = true)
    (k__law_number : PySem.W.keepIn K (.ref f__law_number) = true)
    (a_Span_init : PySem.W.findIn K (.ref C_Span) "__init__" = some (some (.ref f_Span_init)))
    (i_Span_init : PySem.W.isFn K (.ref f_Span_init) = true)
    (l_Span_init : K.lookup f_Span_init = some ⟨oc_Span_init, od_Span_init, .func (PySem.W.fnOf "__init__" "Span.__init__" (defArgs s_Span_init) (defBody s_Span_init) (defScope s_Span_init) (.ref T_Span_init) kV_Span_init dc_Span_init pm_Span_init an_Span_init cd_Span_init ct_Span_init), sl_Span_init⟩)
    (c_Span_init : PySem.W.codeIn K cd_Span_init "Span.__init__" = true)
    (k_Span_init : PySem.W.keepIn K (.ref f_Span_init) = true)
    (lT_Span_init : K.lookup T_Span_init = some ⟨ocT_Span_init, odT_Span_init, .seq (List.toArray [Value.none]) nT_Span_init, slT_Span_init⟩)
    (a_Span_eq : PySem.W.findIn K (.ref C_Span) "__eq__" = some (some (.ref f_Span_eq)))
    (i_Span_eq : PySem.W.isFn K (.ref f_Span_eq) = true)
    (l_Span_eq : K.lookup f_Span_eq = some ⟨oc_Span_eq, od_Span_eq, .func (PySem.W.fnOf "__eq__" "Span.__eq__" (defArgs s_Span_eq) (defBody s_Span_eq) (defScope s_Span_eq) .none kV_Span_eq dc_Span_eq pm_Span_eq an_Span_eq cd_Span_eq ct_Span_eq), sl_Span_eq⟩)
    (c_Span_eq : PySem.W.codeIn K cd_Span_eq "Span.__eq__" = true)
    (k_Span_eq : PySem.W.keepIn K (.ref f_Span_eq) = true)
    (a_Span_len : PySem.W.findIn K (.ref C_Span) "__len__" = some (some (.ref f_Span_len)))
    (i_Span_len : PySem.W.isFn K (.ref f_Span_len) = true)
    (l_Span_len : K.lookup f_Span_len = some ⟨oc_Span_len, od_Span_len, .func (PySem.W.fnOf "__len__" "Span.__len__" (defArgs s_Span_len) (defBody s_Span_len) (defScope s_Span_len) .none kV_Span_len dc_Span_len pm_Span_len an_Span_len cd_Span_len ct_Span_len), sl_Span_len⟩)
    (c_Span_len : PySem.W.codeIn K cd_Span_len "Span.__len__" = true)
    (k_Span_len : PySem.W.keepIn K (.ref f_Span_len) = true)
    (a_Span_str : PySem.W.findIn K (.ref C_Span) "__str__" = some (some (.ref f_Span_str)))
    (i_Span_str : PySem.W.isFn K (.ref f_Span_str) = true)
    (l_Span_str : K.lookup f_Span_str = some ⟨oc_Span_str, od_Span_str, .func (PySem.W.fnOf "__str__" "Span.__str__" (defArgs s_Span_str) (defBody s_Span_str) (defScope s_Span_str) .none kV_Span_str dc_Span_str pm_Span_str an_Span_str cd_Span_str ct_Span_str), sl_Span_str⟩)
    (c_Span_str : PySem.W.codeIn K cd_Span_str "Span.__str__" = true)
    (k_Span_str : PySem.W.keepIn K (.ref f_Span_str) = true)
    (a_Span_repr : PySem.W.findIn K (.ref C_Span) "__repr__" = some (some (.ref f_Span_repr)))
    (i_Span_repr : PySem.W.isFn K (.ref f_Span_repr) = true)
    (l_Span_repr : K.lookup f_Span_repr = some ⟨oc_Span_repr, od_Span_repr, .func (PySem.W.fnOf "__repr__" "Span.__repr__" (defArgs s_Span_repr) (defBody s_Span_repr) (defScope s_Span_repr) .none kV_Span_repr dc_Span_repr pm_Span_repr an_Span_repr cd_Span_repr ct_Span_repr), sl_Span_repr⟩)
    (c_Span_repr : PySem.W.codeIn K cd_Span_repr "Span.__repr__" = true)
    (k_Span_repr : PySem.W.keepIn K (.ref f_Span_repr) = true)
    (a_Span_holds : PySem.W.findIn K (.ref C_Span) "holds" = some (some (.ref f_Span_holds)))
    (i_Span_holds : PySem.W.isFn K (.ref f_Span_holds) = true)
    (l_Span_holds : K.lookup f_Span_holds = some ⟨oc_Span_holds, od_Span_holds, .func (PySem.W.fnOf "holds" "Span.holds" (defArgs s_Span_holds) (defBody s_Span_holds) (defScope s_Span_holds) .none kV_Span_holds dc_Span_holds pm_Span_holds an_Span_holds cd_Span_holds ct_Span_holds), sl_Span_holds⟩)
    (c_Span_holds : PySem.W.codeIn K cd_Span_holds "Span.holds" = true)
    (k_Span_holds : PySem.W.keepIn K (.ref f_Span_holds) = true)
    (a_Span_plus : PySem.W.findIn K (.ref C_Span) "plus" = some (some (.ref f_Span_plus)))
    (i_Span_plus : PySem.W.isFn K (.ref f_Span_plus) = true)
    (l_Span_plus : K.lookup f_Span_plus = some ⟨oc_Span_plus, od_Span_plus, .func (PySem.W.fnOf "plus" "Span.plus" (defArgs s_Span_plus) (defBody s_Span_plus) (defScope s_Span_plus) .none kV_Span_plus dc_Span_plus pm_Span_plus an_Span_plus cd_Span_plus ct_Span_plus), sl_Span_plus⟩)
    (c_Span_plus : PySem.W.codeIn K cd_Span_plus "Span.plus" = true)
    (k_Span_plus : PySem.W.keepIn K (.ref f_Span_plus) = true)
    (a_Span_widened : PySem.W.findIn K (.ref C_Span) "widened" = some (some (.ref f_Span_widened)))
    (i_Span_widened : PySem.W.isFn K (.ref f_Span_widened) = true)
    (l_Span_widened : K.lookup f_Span_widened = some ⟨oc_Span_widened, od_Span_widened, .func (PySem.W.fnOf "widened" "Span.widened" (defArgs s_Span_widened) (defBody s_Span_widened) (defScope s_Span_widened) (.ref T_Span_widened) kV_Span_widened dc_Span_widened pm_Span_widened an_Span_widened cd_Span_widened ct_Span_widened), sl_Span_widened⟩)
    (c_Span_widened : PySem.W.codeIn K cd_Span_widened "Span.widened" = true)
    (k_Span_widened : PySem.W.keepIn K (.ref f_Span_widened) = true)
    (lT_Span_widened : K.lookup T_Span_widened = some ⟨ocT_Span_widened, odT_Span_widened, .seq (List.toArray [Value.int 1 t_Span_widened_0]) nT_Span_widened, slT_Span_widened⟩)
    (a_Span_meet : PySem.W.findIn K (.ref C_Span) "meet" = some (some (.ref f_Span_meet)))
    (i_Span_meet : PySem.W.isFn K (.ref f_Span_meet) = true)
    (l_Span_meet : K.lookup f_Span_meet = some ⟨oc_Span_meet, od_Span_meet, .func (PySem.W.fnOf "meet" "Span.meet" (defArgs s_Span_meet) (defBody s_Span_meet) (defScope s_Span_meet) .none kV_Span_meet dc_Span_meet pm_Span_meet an_Span_meet cd_Span_meet ct_Span_meet), sl_Span_meet⟩)
    (c_Span_meet : PySem.W.codeIn K cd_Span_meet "Span.meet" = true)
    (k_Span_meet : PySem.W.keepIn K (.ref f_Span_meet) = true)
    (a__law_ends : PySem.W.nsIn K mainGlobals "_law_ends" = some (some (.ref f__law_ends)))
    (l__law_ends : K.lookup f__law_ends = some ⟨oc__law_ends, od__law_ends, .func (PySem.W.fnOf "_law_ends" "_law_ends" (defArgs s__law_ends) (defBody s__law_ends) (defScope s__law_ends) .none kV__law_ends dc__law_ends pm__law_ends an__law_ends cd__law_ends ct__law_ends), sl__law_ends⟩)
    (c__law_ends : PySem.W.codeIn K cd__law_ends "_law_ends" = true)
    (k__law_ends : PySem.W.keepIn K (.ref f__law_ends) = true)
    (a__law_made : PySem.W.nsIn K mainGlobals "_law_made" = some (some (.ref f__law_made)))
    (l__law_made : K.lookup f__law_made = some ⟨oc__law_made, od__law_made, .func (PySem.W.fnOf "_law_made" "_law_made" (defArgs s__law_made) (defBody s__law_made) (defScope s__law_made) .none kV__law_made dc__law_made pm__law_made an__law_made cd__law_made ct__law_made), sl__law_made⟩)
    (c__law_made : PySem.W.codeIn K cd__law_made "_law_made" = true)
    (k__law_made : PySem.W.keepIn K (.ref f__law_made) = true)
    (a__law_is : PySem.W.nsIn K mainGlobals "_law_is" = some (some (.ref f__law_is)))
    (l__law_is : K.lookup f__law_is = some ⟨oc__law_is, od__law_is, .func (PySem.W.fnOf "_law_is" "_law_is" (defArgs s__law_is) (defBody s__law_is) (defScope s__law_is) .none kV__law_is dc__law_is pm__law_is an__law_is cd__law_is ct__law_is), sl__law_is⟩)
    (c__law_is : PySem.W.codeIn K cd__law_is "_law_is" = true)
    (k__law_is : PySem.W.keepIn K (.ref f__law_is) = true)
    (a_law : PySem.W.nsIn K mainGlobals "law" = some (some (.ref f_law)))
    (l_law : K.lookup f_law = some ⟨oc_law, od_law, .func (PySem.W.fnOf "law" "law" (defArgs s_law) (defBody s_law) (defScope s_law) .none kV_law dc_law pm_law an_law cd_law ct_law), sl_law⟩)
    (c_law : PySem.W.codeIn K cd_law "law" = true)
    (k_law : PySem.W.keepIn K (.ref f_law) = true)
    (z_abs : PySem.W.nsIn K mainGlobals "abs" = some none)
    (z_bool : PySem.W.nsIn K mainGlobals "bool" = some none)
    (z_isinstance : PySem.W.nsIn K mainGlobals "isinstance" = some none)
    (z_len : PySem.W.nsIn K mainGlobals "len" = some none)
    (z_max : PySem.W.nsIn K mainGlobals "max" = some none)
    (z_min : PySem.W.nsIn K mainGlobals "min" = some none)
    (z_range : PySem.W.nsIn K mainGlobals "range" = some none)
    (z_repr : PySem.W.nsIn K mainGlobals "repr" = some none)
    (z_str : PySem.W.nsIn K mainGlobals "str" = some none)
    : ∃ fd : FuncData, (∀ (s : Shared) (v : Value), BindsTo s fd ⟨[v], []⟩ [("script", v)]) ∧ ∀ base : Heap, K.In base → base.Ns mainGlobals mg → FnOk l.prog w K mg base CX0 8 fa fd ["script"] (sp_law0 K) := by
  have e : fa = f_law := by
    have z := hfa.symm.trans (PySem.W.mg_of X G a_law)
    cases z
    rfl
  have T : ∃ T : Txt K mg, T.f_law = fa ∧ ∀ (s : Shared) (v : Value), BindsTo s T.fd_law ⟨[v], []⟩ [("script", v)] := by
    refine ⟨{ C_Span := C_Span, f__law_pen := f__law_pen, f__law_draw := f__law_draw, f__law_number := f__law_number, f_Span_init := f_Span_init, f_Span_eq := f_Span_eq, f_Span_len := f_Span_len, f_Span_str := f_Span_str, f_Span_repr := f_Span_repr, f_Span_holds := f_Span_holds, f_Span_plus := f_Span_plus, f_Span_widened := f_Span_widened, f_Span_meet := f_Span_meet, f__law_ends := f__law_ends, f__law_made := f__law_made, f__law_is := f__law_is, f_law := f_law, fd__law_pen := _, fd__law_draw := _, fd__law_number := _, fd_Span_init := _, fd_Span_eq := _, fd_Span_len := _, fd_Span_str := _, fd_Span_repr := _, fd_Span_holds := _, fd_Span_plus := _, fd_Span_widened := _, fd_Span_meet := _, fd__law_ends := _, fd__law_made := _, fd__law_is := _, fd_law := _, mgc_Span := PySem.W.mg_of X G aC_Span, cl_Span := ⟨pg_Span, hd_Span, po_Span, sa_Span⟩, na_Span_least := na_Span_least, na_Span_most := na_Span_most, mk_Span := ⟨mks_Span, a_Span_init, i_Span_init, kc_Span⟩, ne_Span := ne_Span, nb_Span := nb_Span, ha_Span := ha_Span, mo_Span := mo_Span, nF_Span_own := nF_Span_own, nF_Span_tuple := nF_Span_tuple, ki_Span_own := if_pos (beq_self_eq_true _), ki_Span_tuple := kit_own ic_Span ty_Span su_Span_tuple, hn := hn, ht := ht, mg__law_pen := PySem.W.mg_of X G a__law_pen, F__law_pen := ⟨⟨_, _, _, _, _, _, _, _, _, _, rfl, l__law_pen, c__law_pen, .inl ⟨rfl, rfl⟩, .inl rfl⟩, k__law_pen⟩, mg__law_draw := PySem.W.mg_of X G a__law_draw, F__law_draw := ⟨⟨_, _, _, _, _, _, _, _, _, _, rfl, l__law_draw, c__law_draw, .inl ⟨rfl, rfl⟩, .inl rfl⟩, k__law_draw⟩, mg__law_number := PySem.W.mg_of X G a__law_number, F__law_number := ⟨⟨_, _, _, _, _, _, _, _, _, _, rfl, l__law_number, c__law_number, .inl ⟨rfl, rfl⟩, .inl rfl⟩, k__law_number⟩, m_Span_init := ⟨a_Span_init, i_Span_init, k_Span_init⟩, F_Span_init := ⟨⟨_, _, _, _, _, _, _, _, _, _, rfl, l_Span_init, c_Span_init, .inr ⟨by simp, T_Span_init, _, [Value.none], _, rfl, lT_Span_init, rfl, .cons rfl .nil⟩, .inl rfl⟩, k_Span_init⟩, m_Span_eq := ⟨a_Span_eq, i_Span_eq, k_Span_eq⟩, F_Span_eq := ⟨⟨_, _, _, _, _, _, _, _, _, _, rfl, l_Span_eq, c_Span_eq, .inl ⟨rfl, rfl⟩, .inl rfl⟩, k_Span_eq⟩, m_Span_len := ⟨a_Span_len, i_Span_len, k_Span_len⟩, F_Span_len := ⟨⟨_, _, _, _, _, _, _, _, _, _, rfl, l_Span_len, c_Span_len, .inl ⟨rfl, rfl⟩, .inl rfl⟩, k_Span_len⟩, m_Span_str := ⟨a_Span_str, i_Span_str, k_Span_str⟩, F_Span_str := ⟨⟨_, _, _, _, _, _, _, _, _, _, rfl, l_Span_str, c_Span_str, .inl ⟨rfl, rfl⟩, .inl rfl⟩, k_Span_str⟩, m_Span_repr := ⟨a_Span_repr, i_Span_repr, k_Span_repr⟩, F_Span_repr := ⟨⟨_, _, _, _, _, _, _, _, _, _, rfl, l_Span_repr, c_Span_repr, .inl ⟨rfl, rfl⟩, .inl rfl⟩, k_Span_repr⟩, m_Span_holds := ⟨a_Span_holds, i_Span_holds, k_Span_holds⟩, F_Span_holds := ⟨⟨_, _, _, _, _, _, _, _, _, _, rfl, l_Span_holds, c_Span_holds, .inl ⟨rfl, rfl⟩, .inl rfl⟩, k_Span_holds⟩, m_Span_plus := ⟨a_Span_plus, i_Span_plus, k_Span_plus⟩, F_Span_plus := ⟨⟨_, _, _, _, _, _, _, _, _, _, rfl, l_Span_plus, c_Span_plus, .inl ⟨rfl, rfl⟩, .inl rfl⟩, k_Span_plus⟩, m_Span_widened := ⟨a_Span_widened, i_Span_widened, k_Span_widened⟩, F_Span_widened := ⟨⟨_, _, _, _, _, _, _, _, _, _, rfl, l_Span_widened, c_Span_widened, .inr ⟨by simp, T_Span_widened, _, [Value.int 1 t_Span_widened_0], _, rfl, lT_Span_widened, rfl, .cons ⟨_, rfl⟩ .nil⟩, .inl rfl⟩, k_Span_widened⟩, m_Span_meet := ⟨a_Span_meet, i_Span_meet, k_Span_meet⟩, F_Span_meet := ⟨⟨_, _, _, _, _, _, _, _, _, _, rfl, l_Span_meet, c_Span_meet, .inl ⟨rfl, rfl⟩, .inl rfl⟩, k_Span_meet⟩, mg__law_ends := PySem.W.mg_of X G a__law_ends, F__law_ends := ⟨⟨_, _, _, _, _, _, _, _, _, _, rfl, l__law_ends, c__law_ends, .inl ⟨rfl, rfl⟩, .inl rfl⟩, k__law_ends⟩, mg__law_made := PySem.W.mg_of X G a__law_made, F__law_made := ⟨⟨_, _, _, _, _, _, _, _, _, _, rfl, l__law_made, c__law_made, .inl ⟨rfl, rfl⟩, .inl rfl⟩, k__law_made⟩, mg__law_is := PySem.W.mg_of X G a__law_is, F__law_is := ⟨⟨_, _, _, _, _, _, _, _, _, _, rfl, l__law_is, c__law_is, .inl ⟨rfl, rfl⟩, .inl rfl⟩, k__law_is⟩, mg_law := PySem.W.mg_of X G a_law, F_law := ⟨⟨_, _, _, _, _, _, _, _, _, _, rfl, l_law, c_law, .inl ⟨rfl, rfl⟩, .inl rfl⟩, k_law⟩, b_abs := PySem.W.mg_none_of X G z_abs, b_bool := PySem.W.mg_none_of X G z_bool, b_isinstance := PySem.W.mg_none_of X G z_isinstance, b_len := PySem.W.mg_none_of X G z_len, b_max := PySem.W.mg_none_of X G z_max, b_min := PySem.W.mg_none_of X G z_min, b_range := PySem.W.mg_none_of X G z_range, b_repr := PySem.W.mg_none_of X G z_repr, b_str := PySem.W.mg_none_of X G z_str }, e.symm, fun s v => .of_eq rfl⟩
  obtain ⟨T, rfl, hb⟩ := T
  exact ⟨T.fd_law, hb, fun base _ _ => ok_law T⟩
theorem walk {l : PySem.W.OpenLaw} {q : Program} {loose : List Str} {XP : (Str → Option Value) → Heap → Prop} {YP : World → Heap → Prop} {d : DefRec} {K : Params → PySem.W.Frag} (hn : l.most = some 63) (hdf : d.params.defaults = [])
    (hY : ∀ (w : World) (h : Heap), YP w h → (K w.params).In h)
    (F : ∀ (w : World) (mg : Str → Option Value) (fa : Addr) (h : Heap), (K w.params).In h → h.Ns mainGlobals mg → mg d.name = some (.ref fa) →
      ∃ fd : FuncData, (∀ (s : Shared) (u : Value), BindsTo s fd ⟨[u], []⟩ [("script", u)]) ∧ ∀ base : Heap, (K w.params).In base → base.Ns mainGlobals mg → FnOk l.prog w (K w.params) mg base CX0 8 fa fd ["script"] (sp_law0 (K w.params))) :
    PySem.W.WalkO q loose XP YP l.row.toRowW d [] (fun f vs => PySem.call f vs) :=
  L2.walk_of (n := 63) (k := 8) (x := "script") (CX := fun _ => CX0) (sp := fun w => sp_law0 (K w.params)) hn (by decide) hdf ⟨rfl, by decide, by decide⟩ hY F (fun _ _ a ns hl _ hS => ⟨a, ns, rfl, hS, hl, fun _ => rfl⟩) fun _ _ _ _ _ z => z
end Law
open PySem PySem.W PyProof.Rows
set_option maxRecDepth 100000 in
set_option maxHeartbeats 0 in
theorem PySem.Challenge.cw_yarnback_k04_spans_holds : PySem.Challenge.rw_yarnback_k04_spans.Holds := by
  w_on; o_law; k_head; (case hw => w_witness2)
  k_fill
  refine Law.walk (l := PySem.Challenge.rw_yarnback_k04_spans) rfl rfl (fun w h Y => PySem.W.kIn_of Y) ?F
  case F =>
    intro w mg fa h KX G hmg
    refine' Law.all_mk KX G hmg ?aC_Span ?pg_Span ?hd_Span ?po_Span ?sa_Span ?na_Span_least ?na_Span_most ?mks_Span ?kc_Span ?ne_Span ?nb_Span ?ha_Span ?mo_Span ?nF_Span_own ?nF_Span_tuple ?ic_Span ?ty_Span ?su_Span_tuple ?hn ?ht ?a__law_pen ?l__law_pen ?c__law_pen ?k__law_pen ?a__law_draw ?l__law_draw ?c__law_draw ?k__law_draw ?a__law_number ?l__law_number ?c__law_number ?k__law_number ?a_Span_init ?i_Span_init ?l_Span_init ?c_Span_init ?k_Span_init ?lT_Span_init ?a_Span_eq ?i_Span_eq ?l_Span_eq ?c_Span_eq ?k_Span_eq ?a_Span_len ?i_Span_len ?l_Span_len ?c_Span_len ?k_Span_len ?a_Span_str ?i_Span_str ?l_Span_str ?c_Span_str ?k_Span_str ?a_Span_repr ?i_Span_repr ?l_Span_repr ?c_Span_repr ?k_Span_repr ?a_Span_holds ?i_Span_holds ?l_Span_holds ?c_Span_holds ?k_Span_holds ?a_Span_plus ?i_Span_plus ?l_Span_plus ?c_Span_plus ?k_Span_plus ?a_Span_widened ?i_Span_widened ?l_Span_widened ?c_Span_widened ?k_Span_widened ?lT_Span_widened ?a_Span_meet ?i_Span_meet ?l_Span_meet ?c_Span_meet ?k_Span_meet ?a__law_ends ?l__law_ends ?c__law_ends ?k__law_ends ?a__law_made ?l__law_made ?c__law_made ?k__law_made ?a__law_is ?l__law_is ?c__law_is ?k__law_is ?a_law ?l_law ?c_law ?k_law ?z_abs ?z_bool ?z_isinstance ?z_len ?z_max ?z_min ?z_range ?z_repr ?z_str
    (case aC_Span => k_is)
    (case pg_Span => k_is)
    (case hd_Span => k_is)
    (case po_Span => k_is)
    (case sa_Span => k_is)
    (case na_Span_least => k_is)
    (case na_Span_most => k_is)
    (case mks_Span => k_is)
    (case kc_Span => k_is)
    (case ne_Span => k_is)
    (case nb_Span => k_is)
    (case ha_Span => k_is)
    (case mo_Span => k_is)
    (case nF_Span_own => k_is)
    (case nF_Span_tuple => k_is)
    (case ic_Span => k_is)
    (case ty_Span => k_is)
    (case su_Span_tuple => k_is)
    (case hn => k_is)
    (case ht => k_is)
    (case a__law_pen => k_is)
    (case l__law_pen => k_is)
    (case c__law_pen => k_is)
    (case k__law_pen => k_is)
    (case a__law_draw => k_is)
    (case l__law_draw => k_is)
    (case c__law_draw => k_is)
    (case k__law_draw => k_is)
    (case a__law_number => k_is)
    (case l__law_number => k_is)
    (case c__law_number => k_is)
    (case k__law_number => k_is)
    (case a_Span_init => k_is)
    (case i_Span_init => k_is)
    (case l_Span_init => k_is)
    (case c_Span_init => k_is)
    (case k_Span_init => k_is)
    (case lT_Span_init => k_is)
    (case a_Span_eq => k_is)
    (case i_Span_eq => k_is)
    (case l_Span_eq => k_is)
    (case c_Span_eq => k_is)
    (case k_Span_eq => k_is)
    (case a_Span_len => k_is)
    (case i_Span_len => k_is)
    (case l_Span_len => k_is)
    (case c_Span_len => k_is)
    (case k_Span_len => k_is)
    (case a_Span_str => k_is)
    (case i_Span_str => k_is)
    (case l_Span_str => k_is)
    (case c_Span_str => k_is)
    (case k_Span_str => k_is)
    (case a_Span_repr => k_is)
    (case i_Span_repr => k_is)
    (case l_Span_repr => k_is)
    (case c_Span_repr => k_is)
    (case k_Span_repr => k_is)
    (case a_Span_holds => k_is)
    (case i_Span_holds => k_is)
    (case l_Span_holds => k_is)
    (case c_Span_holds => k_is)
    (case k_Span_holds => k_is)
    (case a_Span_plus => k_is)
    (case i_Span_plus => k_is)
    (case l_Span_plus => k_is)
    (case c_Span_plus => k_is)
    (case k_Span_plus => k_is)
    (case a_Span_widened => k_is)
    (case i_Span_widened => k_is)
    (case l_Span_widened => k_is)
    (case c_Span_widened => k_is)
    (case k_Span_widened => k_is)
    (case lT_Span_widened => k_is)
    (case a_Span_meet => k_is)
    (case i_Span_meet => k_is)
    (case l_Span_meet => k_is)
    (case c_Span_meet => k_is)
    (case k_Span_meet => k_is)
    (case a__law_ends => k_is)
    (case l__law_ends => k_is)
    (case c__law_ends => k_is)
    (case k__law_ends => k_is)
    (case a__law_made => k_is)
    (case l__law_made => k_is)
    (case c__law_made => k_is)
    (case k__law_made => k_is)
    (case a__law_is => k_is)
    (case l__law_is => k_is)
    (case c__law_is => k_is)
    (case k__law_is => k_is)
    (case a_law => k_is)
    (case l_law => k_is)
    (case c_law => k_is)
    (case k_law => k_is)
    (case z_abs => k_is)
    (case z_bool => k_is)
    (case z_isinstance => k_is)
    (case z_len => k_is)
    (case z_max => k_is)
    (case z_min => k_is)
    (case z_range => k_is)
    (case z_repr => k_is)
    (case z_str => k_is)
