import PyProof.Rows.All
import Wide.All
import OpenK.AllK
import Wide.FinOn
import HandS.ForMost
import HandS.Defaults
import HandS.MakeKw
import HandS.MakeKwOnly
import HandS.Wide
import HandS.Flow
import HandS.Style
import HandS.IsInst
import HandS.StrMore
import HandS.Codes
import KE.KCallOwn
import KE.KFmtOwn
import HandS.OwnEq
import HandS.FStr
import HandS.Sort
import HandS.Exc
import HandS.ExcInit
import HandS.ExcIs
import HandS.ExcField
import HandS.ExcOwn
import HandS.CallSlots
import HandS.WordsExc
import KE.KExcInit
import KE.KExcIs
import KE.KDictWalk
import HandS.Iter
import HandS.More
import HandS.WideBits
import PySem.Challenge.RW_yarnback_k02_weights_together_and_less
set_option Elab.async false
set_option linter.all false
set_option maxRecDepth 100000
set_option maxHeartbeats 4000000
namespace Yarn
open PySem PySem.Spec PyProof.Rows L2

/-! ### closing a reading upwards: what holds of a continuation holds of a weaker one -/
def clA (t : TA) : TA := fun σ H K => ∃ K0, t σ H K0 ∧ ∀ xs H1, K0 xs H1 → K xs H1
def clE (t : TE) : TE := fun σ H K => ∃ K0, t σ H K0 ∧ ∀ x H1, K0 x H1 → K x H1
section
variable {X : Cx}
theorem PA.cl {es : List Expr} {t : TA} (h : PA X es t) : PA X es (clA t) := ⟨fun pos pins s σ H Q I q => by
  obtain ⟨K0, q0, m⟩ := q
  exact thn (h.run pos pins s σ H K0 I q0) fun us s1 ⟨vs, H1, I1, r, z⟩ => ⟨vs, H1, I1, r, m _ _ z⟩⟩
theorem PK.cl {ks : List Keyword} {t : TA} (h : PK X ks t) : PK X ks (clA t) := ⟨fun pos pins s σ H Q I q => by
  obtain ⟨K0, q0, m⟩ := q
  exact thn (h.run pos pins s σ H K0 I q0) fun us s1 ⟨vs, H1, I1, r, z⟩ => ⟨vs, H1, I1, r, m _ _ z⟩⟩
theorem PE.cl {e : Expr} {t : TE} (h : PE X e t) : PE X e (clE t) := ⟨fun pins s σ H Q I q => by
  obtain ⟨K0, q0, m⟩ := q
  exact thn (h.run pins s σ H K0 I q0) fun u s1 ⟨x, H1, I1, r, z⟩ => ⟨x, H1, I1, r, m _ _ z⟩⟩
theorem PE.weak {e : Expr} {t t' : TE} (h : PE X e t) (m : ∀ σ H Q, t' σ H Q → t σ H Q) : PE X e t' := ⟨fun pins s σ H Q I q => h.run pins s σ H Q I (m σ H Q q)⟩
theorem PS.weak {e : Stmt} {t t' : TS} (h : PS X e t) (m : ∀ D σ H, t' D σ H → t D σ H) : PS X e t' := ⟨fun pins s σ H D I q => h.run pins s σ H D I (m D σ H q)⟩
end

/-! ### what a step keeps -/
/-- all but the object at p -/
def But (p : Addr) (H H' : Hp) : Prop := ∀ a o, a ≠ p → H a = some o → H' a = some o
theorem But.trans {p : Addr} {H H1 H2 : Hp} (a : But p H H1) (b : But p H1 H2) : But p H H2 := fun c o h e => b c o h (a c o h e)
theorem same_but {p : Addr} {H H1 : Hp} (a : Same H H1) : But p H H1 := fun c o _ e => a c o e
theorem same_upd {H : Hp} {p : Addr} {o : HO} (h : H p = none) : Same H (upd H p o) := fun a u e => by rw [upd_ne (ne_of_none e h)]; exact e
theorem but_upd {H : Hp} {p : Addr} {o : HO} : But p H (upd H p o) := fun a u h e => by rw [upd_ne h]; exact e
/-- an object is made at x (new), and then filled -/
theorem same_new {H H1 H2 : Hp} {x : Addr} (n : H x = none) (s : Same H H1) (b : But x H1 H2) : Same H H2 := fun a o e => b a o (ne_of_none e n) (s a o e)

/-! ### displays, by what the heap behind them keeps -/
def tLstY (t : TA) : TE := fun σ H Q => t σ H fun xs H1 => xs.length ≤ sizeLine ∧ ∀ p H2, H1 p = none → Same H1 H2 → H2 p = some (.lst xs) → Q (.ref p) H2
def tTupY (t : TA) : TE := fun σ H Q => t σ H fun xs H1 => xs.length ≤ sizeLine ∧ ∀ p H2, H1 p = none → Same H1 H2 → H2 p = some (.tup xs) → Q (.ref p) H2
section
variable {X : Cx} {es : List Expr} {t : TA} {pos : Pos}
theorem pe_lstY (h : PA X es t) : PE X (.List es pos) (tLstY t) :=
  PE.weak (pe_lst (PA.cl h)) fun σ H Q q => ⟨_, q, fun xs H1 z => ⟨z.1, fun p hp => z.2 p _ hp (same_upd hp) upd_same⟩⟩
theorem pe_tupY {x1} (h : PA X es t) : PE X (.Tuple es x1 pos) (tTupY t) :=
  PE.weak (pe_tup (PA.cl h)) fun σ H Q q => ⟨_, q, fun xs H1 z => ⟨z.1, fun p hp => z.2 p _ hp (same_upd hp) upd_same⟩⟩
end

/-! ### a slice of a list -/
def rSlLY (K : PySem.W.Frag) : V → Option Int → Option Int → Hp → VK → Prop := fun x lo hi H Q => ∃ a xs, x = .ref a ∧ SqL K H a xs ∧ ∀ p H2, H p = none → Same H H2 → H2 p = some (.lst (cutV xs lo hi)) → Q (.ref p) H2

/-! ### an instance is made -/
def tMakeY (C : Addr) (sp : Sp) (dvs : List V) (E : XK) (t : TA) : TE := fun σ H Q => t σ H fun vs H1 => ∀ x dx H2, H1 x = none → dx ≠ x → Same H1 H2 → H2 x = some (.ins C dx []) →
  sp (.ref x :: (vs ++ dvs)) H2 (fun v H3 => v = .non ∧ Q (.ref x) H3) E
def tMakeNY (C : Addr) (n m : Nat) (sp : Sp) (gV : List V → List V → List V) (E : XK) (t tk : TA) : TE := fun σ H Q => t σ H fun vs H1 => tk σ H1 fun zs H2 => vs.length = n ∧ zs.length = m ∧
  ∀ x dx H3, H2 x = none → dx ≠ x → Same H2 H3 → H3 x = some (.ins C dx []) → sp (gV (.ref x :: vs) zs) H3 (fun v H4 => v = .non ∧ Q (.ref x) H4) E
section
variable {X : Cx} {CX : CXT} {k n : Nat} {f C : Addr} {fd : FuncData} {ps ks : List Str} {sp : Sp} {E : XK} {dvs : List V} {ds : List Value} {x : Str} {p pos : Pos} {e : Expr} {es : List Expr} {kws : List Keyword} {t tk : TA} {g : List Value → List Value → List Value} {gV : List V → List V → List V}
theorem same_made {H : Hp} {x dx : Addr} (hx : H x = none) (hd : H dx = none) (ne : dx ≠ x) : Same H (upd (upd H dx (.own x)) x (.ins C dx [])) := fun a o z => by
  rw [upd_ne (ne_of_none z hx), upd_ne (ne_of_none z hd)]
  exact z
theorem pe_makeY (M : Mk X.K C f) (F : FnOk X.prog X.w X.K X.mg X.base CX k f fd ps sp) (hr : Room (k + 1) X.A) (hg : Gl X x) (hm : X.mg x = some (.ref C)) (hb : Binds X.K fd ps ds) (hd : Vals dvs ds) (hx : Passes CX X E) (ha : PA X (e :: es) t)
    (hdb : (x == ("__debug__" : Str)) = false := by decide)
    (he : starEach (e :: es) X.env = (false, eval e X.env) :: starEach es X.env := by rfl) (hpl : (backTo pos (starEach es X.env)).any (·.1) = false := by rfl) :
    PE X (.Call (.Name x p) (e :: es) [] pos) (tMakeY C sp dvs E t) :=
  PE.weak (pe_make M F hr hg hm hb hd hx (PA.cl ha) hdb he hpl) fun σ H Q q => ⟨_, q, fun vs H1 z y dy h1 h2 h3 => z y dy _ h1 h3 (same_made h1 h2 h3) upd_same⟩
theorem pe_makeY0 (M : Mk X.K C f) (F : FnOk X.prog X.w X.K X.mg X.base CX k f fd ps sp) (hr : Room (k + 1) X.A) (hg : Gl X x) (hm : X.mg x = some (.ref C)) (hb : Binds X.K fd ps ds) (hd : Vals dvs ds) (hx : Passes CX X E)
    (hdb : (x == ("__debug__" : Str)) = false := by decide) :
    PE X (.Call (.Name x p) [] [] pos) (tMakeY C sp dvs E tNil) :=
  PE.weak (pe_make0 M F hr hg hm hb hd hx hdb) fun σ H Q q => fun y dy h1 h2 h3 => q y dy _ h1 h3 (same_made h1 h2 h3) upd_same
theorem pe_makeNY (M : Mk X.K C f) (F : FnOk X.prog X.w X.K X.mg X.base CX k f fd ps sp) (hr : Room (k + 1) X.A) (hg : Gl X x) (hm : X.mg x = some (.ref C)) (hb : KBn X.K fd ps (n + 1) ks g gV) (hx : Passes CX X E)
    (ha : PA X (e :: es) t) (hkw : PK X kws tk) (hall : (backToKw pos (keywordEach kws X.env)).all (·.1.isSome) = true := by rfl) (hks : (backToKw pos (keywordEach kws X.env)).filterMap (·.1) = ks := by rfl)
    (hdb : (x == ("__debug__" : Str)) = false := by decide) (he : starEach (e :: es) X.env = (false, eval e X.env) :: starEach es X.env := by rfl)
    (hpl : ((backTo pos (starEach (e :: es) X.env)).any (·.1) || (backToKw pos (keywordEach kws X.env)).any (·.1.isNone)) = false := by rfl) :
    PE X (.Call (.Name x p) (e :: es) kws pos) (tMakeNY C n ks.length sp gV E t tk) :=
  PE.weak (pe_makeN M F hr hg hm hb hx (PA.cl ha) (PK.cl hkw) hall hks hdb he hpl) fun σ H Q q =>
    ⟨_, q, fun vs H1 z => ⟨_, z, fun zs H2 ⟨l1, l2, w⟩ => ⟨l1, l2, fun y dy h1 h2 h3 => w y dy _ h1 h3 (same_made h1 h2 h3) upd_same⟩⟩⟩
theorem pe_makeKY (M : Mk X.K C f) (F : FnOk X.prog X.w X.K X.mg X.base CX k f fd ps sp) (hr : Room (k + 1) X.A) (hg : Gl X x) (hm : X.mg x = some (.ref C)) (hb : KBn X.K fd ps 1 ks g gV) (hx : Passes CX X E) (hkw : PK X kws tk)
    (hall : (backToKw pos (keywordEach kws X.env)).all (·.1.isSome) = true := by rfl) (hks : (backToKw pos (keywordEach kws X.env)).filterMap (·.1) = ks := by rfl) (hdb : (x == ("__debug__" : Str)) = false := by decide)
    (hpl : ((backTo pos (starEach [] X.env)).any (·.1) || (backToKw pos (keywordEach kws X.env)).any (·.1.isNone)) = false := by rfl) :
    PE X (.Call (.Name x p) [] kws pos) (tMakeNY C 0 ks.length sp gV E tNil tk) :=
  PE.weak (pe_makeK0 M F hr hg hm hb hx (PK.cl hkw) hall hks hdb hpl) fun σ H Q q =>
    ⟨_, q, fun zs H2 ⟨l1, l2, w⟩ => ⟨l1, l2, fun y dy h1 h2 h3 => w y dy _ h1 h3 (same_made h1 h2 h3) upd_same⟩⟩
end

/-! ### a field is stored -/
def sFldY (K : PySem.W.Frag) (ta tv : TE) (f : Str) : TS := fun D σ H => tv σ H fun y H1 => ta σ H1 fun x H2 => ∃ a C dx fs, x = .ref a ∧ H2 a = some (.ins C dx fs) ∧ Cls K C ∧ NoAttr K C f ∧ fs.length < 1000 ∧
  ∀ H3, But a H2 H3 → H3 a = some (.ins C dx (putF f y fs)) → D.nx σ H3
theorem ps_fldY {X : Cx} {o value : Expr} {f : Str} {pos pos' : Pos} {ta tv : TE} (ha : PE X o ta) (hv : PE X value tv) (hs : swapsWith value (some (.Attribute o f pos')) pos.line X.env = pure false) :
    PS X (.Assign [.Attribute o f pos'] value pos) (sFldY X.K ta tv f) :=
  PS.weak (ps_fld (PE.cl ha) (PE.cl hv) hs) fun D σ H q => ⟨_, q, fun y H1 z => ⟨_, z, fun x H2 ⟨a, C, dx, fs, e, h, c, n, l, w⟩ => ⟨a, C, dx, fs, e, h, c, n, l, w _ but_upd upd_same⟩⟩⟩
end Yarn

set_option Elab.async false
set_option linter.all false
set_option maxRecDepth 100000
set_option maxHeartbeats 4000000
namespace Yarn
open PySem PySem.Spec PyProof.Rows L2

section
variable {X : Cx} {CX : CXT} {pins : List (Addr × Obj)} {σ : L2.St} {H : Hp} {s : Shared} {C f : Addr} {fd : FuncData} {ps : List Str} {sp : Sp} {E : XK} {n : Nat}
/-- a def of the text runs somewhere below the running body -/
theorem at_fn {A : Around} {Q : VK} {us : List Value} {vs : List V} (F : FnOk X.prog X.w X.K X.mg X.base CX n f fd ps sp) (hr : Room n A) (e0 : Env0 X.prog X.w X.K X.mg X.base A X.stack s H)
    (hb : Binds X.K fd ps []) (hx : Passes CX X E) (I : Inv X pins σ H s) (r : Vals vs us) (h : sp vs H Q E) :
    wpAny (model X.prog X.w) A (call (.ref f) us) (EP X pins σ Q) X.xe s := by
  have hl := F.len _ _ _ _ h
  have hb' : BindsTo s fd ⟨us, []⟩ (ps.zip us) := by
    have z := hb s us I.kIn (by rw [List.append_nil, ← r.length]; exact hl)
    rw [List.append_nil] at z
    exact z
  refine wpAny_call (codeAny_mono (F.run A X.stack s H ⟨us, []⟩ us vs Q E hr e0 hb' r h) fun r s' hq => ?_)
  cases r with
  | error e => exact hx pins σ H s e s' I hq
  | ok fl =>
    cases fl with
    | ret u => exact I.after hq
    | next => exact hq.elim
    | brk => exact hq.elim
    | cont => exact hq.elim
theorem room_in1 {A : Around} (h : Room (n + 1) A) : Room n A.in1 := h.in1

/-! ### == and != by an own __eq__ -/
/-- the class of a value as it is looked up -/
inductive ClOf (H : Hp) : V → Value → Prop where
  | non : ClOf H .non (.type "NoneType")
  | bl (b : Bool) : ClOf H (.bl b) (.type "bool")
  | int (i : Int) : ClOf H (.int i) (.type "int")
  | str (x : Str) : ClOf H (.str x) (.type "str")
  | tup {a : Addr} {xs : List V} (e : H a = some (.tup xs)) : ClOf H (.ref a) (.type "tuple")
  | lst {a : Addr} {xs : List V} (e : H a = some (.lst xs)) : ClOf H (.ref a) (.type "list")
  | ins {a C dx : Addr} {fs : List (Str × V)} (e : H a = some (.ins C dx fs)) : ClOf H (.ref a) (.ref C)
theorem looks_cls {M : Model} {h : Heap} {a : Addr} {o : Obj} (e : h.get? a = some o) : PySem.W.Looks M h (typeOf (.ref a)) o.cls := fun A Q E s k q => wpAny_typeOf_ref (k _ _ e) q
theorem ClOf.looks {M : Model} {y : V} {u t : Value} (I : Inv X pins σ H s) (r : RelV y u) (c : ClOf H y t) : PySem.W.Looks M s.heap (typeOf u) t := by
  cases c with
  | non => cases (show u = Value.none from r); exact PySem.W.Looks.of_pure rfl
  | bl b => cases (show u = Value.bool b from r); exact PySem.W.Looks.of_pure rfl
  | int i => obtain ⟨t, q⟩ := (show ∃ t, u = Value.int i t from r); cases q; exact PySem.W.Looks.of_pure rfl
  | str x => obtain ⟨t, q⟩ := (show ∃ t, u = Value.str x t from r); cases q; exact PySem.W.Looks.of_pure rfl
  | @tup a xs ea =>
    cases (show u = Value.ref a from r)
    obtain ⟨_, _, _, o, h1, h2, _⟩ := (show ObjOk X.prog X.w H s.heap a (.tup xs) from I.hok a _ ea)
    rw [← h2]
    exact looks_cls h1
  | @lst a xs ea =>
    cases (show u = Value.ref a from r)
    obtain ⟨_, _, m, _, h1⟩ := (show ObjOk X.prog X.w H s.heap a (.lst xs) from I.hok a _ ea)
    exact looks_cls h1
  | @ins a C dx fs ea =>
    cases (show u = Value.ref a from r)
    obtain ⟨mA, O, _⟩ := ins_get I.hok ea
    obtain ⟨od, J, _⟩ := O.look
    exact J.type
/-- x == y, x an instance of the class at C -/
def rEqO (K : PySem.W.Frag) (C : Addr) (sp : Sp) (E : XK) : R2 := fun x y H Q => ∃ a dx fs tb, x = .ref a ∧ H a = some (.ins C dx fs) ∧ ClOf H y tb ∧ PySem.W.notFirst K C tb = true ∧ sp [x, y] H Q E
theorem back_cmp {P : Value → Shared → Prop} {z : V} {v : Value} {s' : Shared} (r : RelV z v) (h : P v s') : PySem.W.CmpBack P v s' := by
  cases z with
  | non => cases (show v = Value.none from r); exact h
  | bl b => cases (show v = Value.bool b from r); exact h
  | int i => obtain ⟨t, e⟩ := (show ∃ t, v = Value.int i t from r); cases e; exact h
  | str x => obtain ⟨t, e⟩ := (show ∃ t, v = Value.str x t from r); cases e; exact h
  | byt x => obtain ⟨t, e⟩ := (show ∃ t, v = Value.bytes x t from r); cases e; exact h
  | flt x => obtain ⟨t, e⟩ := (show ∃ t, v = Value.float x t from r); cases e; exact h
  | ref a => cases (show v = Value.ref a from r); exact h
  | ty m => cases (show v = Value.type m from r); exact h
theorem op_eqO (F : FnOk X.prog X.w X.K X.mg X.base CX n f fd ps sp) (hr : Room n X.A) (hs : PySem.W.findIn X.K (.ref C) "__eq__" = some (some (.ref f))) (hf : PySem.W.isFn X.K (.ref f) = true) (hb : Binds X.K fd ps [])
    (hx : Passes CX X E) : OpR X (compareOp .Eq) (rEqO X.K C sp E) := by
  intro pins s σ H x y v u Q I rx ry h
  obtain ⟨a, dx, fs, tb, rfl, ea, hc, hn, q⟩ := h
  cases (show v = Value.ref a from rx)
  obtain ⟨mA, O, _⟩ := ins_get I.hok ea
  obtain ⟨od, J, _⟩ := O.look
  obtain ⟨m, hF⟩ := I.fr
  show wpAny (model X.prog X.w) X.A (richCompare .Eq (.ref a) u) (EP X pins σ Q) X.xe s
  refine PySem.W.cmp_K (op := .Eq) (tb := tb) hr.units0 hF I.ok.mod.kin J (hc.looks I ry) hn hs hf (thn (at_fn F hr I.env0 hb hx I (.cons rx (.cons ry .nil)) q) fun w s' z => ?_)
  obtain ⟨z', H', I', rz, qz⟩ := z
  exact back_cmp rz ⟨z', H', I', rz, qz⟩

theorem ifBound_B {M : Model} {A : Around} {E : Value → Shared → Prop} {K : PySem.W.Frag} {x : Addr} {ox : Obj} {od : Option Obj} {name : Str} {id : String} {args : List Value} {Q : Option Value → Shared → Prop} (Xk : K.In s.heap) (I : PySem.W.InstAt s.heap x ox C od)
    (hs : PySem.W.findIn K (.ref C) name = some (some (.builtin id))) (hb : ∀ self, bindSpecial (.builtin id) self = pure (.builtin id, [self]))
    (h : wpAny M A (call (.builtin id) (.ref x :: args)) (fun v => Q (some v)) E s) : wpAny M A (callSpecialIfBound? (.ref x) name args) Q E s := by
  simp only [callSpecialIfBound?, bindSpecialIfBound?]
  have L1 := (PySem.W.looks_findIn (M := M) Xk hs)
  refine wpAny_holding (wpAny_bind (wpAny_bind (wpAny_bind (I.type.here (L1.here ?_)))))
  refine wpAny_bind (wpAny_askSetting (wpAny_ite ?_))
  have fin : wpAny M A (call (.builtin id) ([.ref x] ++ args) >>= fun v => pure (some v)) Q E s := wpAny_bind (wpAny_mono h (fun v s' z => wpAny_pure z) fun _ _ z => z)
  split
  · exact wpAny_bind ((PySem.W.Looks.of_pure (hb _)).here (wpAny_pure (by exact fin)))
  · exact wpAny_tryCatch (wpAny_bind ((PySem.W.Looks.of_pure (hb _)).here (wpAny_pure (by exact fin))))

/-- object.__ne__ over an own __eq__ that gives a truth -/
theorem objNe_own {prog : Program} {w : World} {A : Around} {E : Value → Shared → Prop} {K : PySem.W.Frag} {x : Addr} {b : Value} {ox : Obj} {od : Option Obj} {Q : Value → Shared → Prop} (hu : A.in1.units < cLine) (Xk : K.In s.heap) (I : PySem.W.InstAt s.heap x ox C od)
    (hm : PySem.W.mroIn K C (.type "object") = some true) (hr : PySem.W.findIn K (.ref C) "__eq__" = some (some (.ref f))) (hf : PySem.W.isFn K (.ref f) = true)
    (h : wpAny (model prog w) A.in1 (call (.ref f) [.ref x, b]) (fun v s' => ∃ k, v = .bool k ∧ Q (.bool (!k)) s') E s) : wpAny (model prog w) A (call (.builtin "object.__ne__") [.ref x, b]) Q E s := by
  refine wpAny_call (codeAny_call_builtin PySem.F.slot_object_ne.plain PySem.F.cmpEntry_ne (PySem.W.check_slot (i := "object.__ne__") (owner := "object") (n := "__ne__") PySem.F.cmpKind_ne PySem.F.cmpSplit_ne (I.type.andThen (PySem.W.looks_mroIn Xk hm)) (PySem.F.cmpArgs_ne _ _) ?_))
  unfold Builtin.«object.__ne__»
  refine wpAny_bind (m := slotArgs "__ne__" 1 _) (wpAny_pure ?_)
  refine wpAny_bind (m := cRoomFor _ _) (wpAny_cRoomFor hu ?_)
  refine wpAny_bind (m := callSpecialIfBound? (.ref x) (Str.ofString "__eq__") _) (PySem.W.ifBound_K Xk I hr hf (wpAny_mono h (fun r s' hq => ?_) fun _ _ y => y))
  obtain ⟨k, e, q⟩ := hq
  subst e
  refine wpAny_bind (wpAny_truthy_bool ?_)
  exact wpAny_pure q

/-- x != y by object.__ne__ -/
def rNeO (K : PySem.W.Frag) (C : Addr) (sp : Sp) (E : XK) : R2 := fun x y H Q => ∃ a dx fs tb, x = .ref a ∧ H a = some (.ins C dx fs) ∧ ClOf H y tb ∧ PySem.W.notFirst K C tb = true ∧ sp [x, y] H (fun v H' => ∃ k, v = .bl k ∧ Q (.bl (!k)) H') E
theorem cmp_ne_own {prog : Program} {w : World} {A : Around} {E : Value → Shared → Prop} {K : PySem.W.Frag} {x : Addr} {b tb : Value} {ox : Obj} {od : Option Obj} {Q : Value → Shared → Prop} (hu : A.units < cLine) (hu2 : A.in1.units < cLine) (Xk : K.In s.heap) (I : PySem.W.InstAt s.heap x ox C od)
    (hl : PySem.W.Looks (model prog w) s.heap (typeOf b) tb) (hn : PySem.W.notFirst K C tb = true)
    (hm : PySem.W.mroIn K C (.type "object") = some true) (hne : PySem.W.findIn K (.ref C) "__ne__" = some (some (.builtin "object.__ne__"))) (hr : PySem.W.findIn K (.ref C) "__eq__" = some (some (.ref f))) (hf : PySem.W.isFn K (.ref f) = true)
    (h : wpAny (model prog w) A.in1 (call (.ref f) [.ref x, b]) (fun v s' => ∃ k, v = .bool k ∧ Q (.bool (!k)) s') E s) : wpAny (model prog w) A (richCompare .NotEq (.ref x) b) Q E s := by
  have one : wpAny (model prog w) A (tryCompare (.ref x) (cmpInfo .NotEq).2.1 b) (fun r s' => ∃ v, r = some v ∧ Q v s') E s := by
    show wpAny (model prog w) A (tryCompare (.ref x) "__ne__" b) _ E s
    unfold tryCompare
    refine wpAny_bind (ifBound_B Xk I hne PySem.F.slot_object_ne.bind (objNe_own hu2 Xk I hm hr hf (wpAny_mono h (fun v s' hv => ?_) fun _ _ e => e)))
    obtain ⟨k, e, q⟩ := hv
    exact ⟨k, e, wpAny_pure ⟨_, rfl, q⟩⟩
  unfold richCompare
  simp only [oneThing_ref]
  refine wpAny_holding (wpAny_bind (wpAny_cRoomFor hu ?_))
  refine wpAny_bind (I.type.here (wpAny_bind (hl.here ?_)))
  have tail : ∀ t : Sem Value, wpAny (model prog w) A (tryCompare (.ref x) (cmpInfo .NotEq).2.1 b >>= fun r => match r with | some v => pure v | none => t) Q E s := fun t => by
    refine wpAny_bind (wpAny_mono one (fun r s' z => ?_) fun _ _ e => e)
    obtain ⟨v, rfl, hq⟩ := z
    exact wpAny_pure hq
  split
  · rename_i q
    have e : PySem.W.subIn K tb (.ref C) = some false := by
      rcases Bool.or_eq_true_iff.mp hn with e | e
      · rw [beq_iff_eq.mp e] at q
        simp at q
      · exact beq_iff_eq.mp e
    refine wpAny_bind ((PySem.W.looks_subIn Xk e).here ?_)
    simp only [Bool.false_eq_true, if_false]
    refine wpAny_bind (wpAny_mono one (fun r s' z => ?_) fun _ _ e => e)
    obtain ⟨v, rfl, hq⟩ := z
    exact wpAny_pure hq
  · refine wpAny_bind (wpAny_pure ?_)
    simp only [Bool.false_eq_true, if_false]
    refine wpAny_bind (wpAny_mono one (fun r s' z => ?_) fun _ _ e => e)
    obtain ⟨v, rfl, hq⟩ := z
    exact wpAny_pure hq
theorem op_neO (F : FnOk X.prog X.w X.K X.mg X.base CX n f fd ps sp) (hr : Room (n + 1) X.A) (hs : PySem.W.findIn X.K (.ref C) "__eq__" = some (some (.ref f))) (hf : PySem.W.isFn X.K (.ref f) = true)
    (hne : PySem.W.findIn X.K (.ref C) "__ne__" = some (some (.builtin "object.__ne__"))) (hm : PySem.W.mroIn X.K C (.type "object") = some true) (hb : Binds X.K fd ps [])
    (hx : Passes CX X E) : OpR X (compareOp .NotEq) (rNeO X.K C sp E) := by
  intro pins s σ H x y v u Q I rx ry h
  obtain ⟨a, dx, fs, tb, rfl, ea, hc, hn, q⟩ := h
  cases (show v = Value.ref a from rx)
  obtain ⟨mA, O, _⟩ := ins_get I.hok ea
  obtain ⟨od, J, _⟩ := O.look
  show wpAny (model X.prog X.w) X.A (richCompare .NotEq (.ref a) u) (EP X pins σ Q) X.xe s
  refine cmp_ne_own (tb := tb) hr.units0 hr.in1.units0 I.kIn J (hc.looks I ry) hn hm hne hs hf (thn (at_fn F hr.in1 I.env0.in1 hb hx I (.cons rx (.cons ry .nil)) q) fun w s' z => ?_)
  obtain ⟨z', H', I', rz, k, e, qz⟩ := z
  subst e
  cases (show w = Value.bool k from rz)
  exact ⟨k, rfl, .bl (!k), H', I', rfl, qz⟩

/-! ### str(x), repr(x), len(x) of an instance -/
def rStrO (C : Addr) (sp : Sp) (E : XK) : List V → Hp → VK → Prop := fun xs H Q => ∃ a dx fs, xs = [.ref a] ∧ H a = some (.ins C dx fs) ∧ sp [.ref a] H (fun v H' => ∃ z, v = .str z ∧ Q v H') E
theorem call_strO (F : FnOk X.prog X.w X.K X.mg X.base CX n f fd ps sp) (hr : Room (n + 2) X.A) (hs : PySem.W.findIn X.K (.ref C) "__str__" = some (some (.ref f))) (hf : PySem.W.isFn X.K (.ref f) = true) (hb : Binds X.K fd ps [])
    (hx : Passes CX X E) : CallR X (.type "str") (rStrO C sp E) := by
  intro pins s σ H xs us Q I r h
  obtain ⟨a, dx, fs, rfl, ea, q⟩ := h
  obtain ⟨u, rfl, ru⟩ := vals1 r
  cases (show u = Value.ref a from ru)
  obtain ⟨mA, O, _⟩ := ins_get I.hok ea
  obtain ⟨od, J, _⟩ := O.look
  have hr1 : Room (n + 1) X.A.in1 := hr.in1
  refine PySem.W.kso_call hr1.in1.units0 I.kIn J hs hf (thn (at_fn F hr1.in1 I.env0.in1.in1 hb hx I (vs := [.ref a]) (us := [.ref a]) (.cons rfl .nil) q) fun w s' z => ?_)
  obtain ⟨z', H', I', rz, y, e, qz⟩ := z
  subst e
  obtain ⟨t, e⟩ := (show ∃ t, w = Value.str y t from rz)
  cases e
  exact ⟨.str y, H', I', ⟨t, rfl⟩, qz⟩
theorem call_reprO (F : FnOk X.prog X.w X.K X.mg X.base CX n f fd ps sp) (hr : Room (n + 1) X.A) (hs : PySem.W.findIn X.K (.ref C) "__repr__" = some (some (.ref f))) (hf : PySem.W.isFn X.K (.ref f) = true) (hb : Binds X.K fd ps [])
    (hx : Passes CX X E) : CallR X (.builtin "repr") (rStrO C sp E) := by
  intro pins s σ H xs us Q I r h
  obtain ⟨a, dx, fs, rfl, ea, q⟩ := h
  obtain ⟨u, rfl, ru⟩ := vals1 r
  cases (show u = Value.ref a from ru)
  obtain ⟨mA, O, _⟩ := ins_get I.hok ea
  obtain ⟨od, J, _⟩ := O.look
  obtain ⟨m, hF⟩ := I.fr
  refine PySem.W.repr_K hr.in1.units0 hF I.ok.mod.kin J hs hf (thn (at_fn F hr.in1 I.env0.in1 hb hx I (vs := [.ref a]) (us := [.ref a]) (.cons rfl .nil) q) fun w s' z => ?_)
  obtain ⟨z', H', I', rz, y, e, qz⟩ := z
  subst e
  obtain ⟨t, e⟩ := (show ∃ t, w = Value.str y t from rz)
  cases e
  exact ⟨.str y, H', I', ⟨t, rfl⟩, qz⟩
def rLenO (C : Addr) (sp : Sp) (E : XK) : List V → Hp → VK → Prop := fun xs H Q => ∃ a dx fs, xs = [.ref a] ∧ H a = some (.ins C dx fs) ∧ sp [.ref a] H (fun v H' => ∃ i, v = .int i ∧ 0 ≤ i ∧ i < 2 ^ 63 ∧ Q v H') E
theorem call_lenO (F : FnOk X.prog X.w X.K X.mg X.base CX n f fd ps sp) (hr : Room (n + 1) X.A) (hs : PySem.W.findIn X.K (.ref C) "__len__" = some (some (.ref f))) (hf : PySem.W.isFn X.K (.ref f) = true) (hb : Binds X.K fd ps [])
    (hx : Passes CX X E) : CallR X (.builtin "len") (rLenO C sp E) := by
  intro pins s σ H xs us Q I r h
  obtain ⟨a, dx, fs, rfl, ea, q⟩ := h
  obtain ⟨u, rfl, ru⟩ := vals1 r
  cases (show u = Value.ref a from ru)
  obtain ⟨mA, O, _⟩ := ins_get I.hok ea
  obtain ⟨od, J, _⟩ := O.look
  obtain ⟨m, hF⟩ := I.fr
  refine PySem.W.len_K hF I.ok.mod.kin J hs hf (thn (at_fn F hr.in1 I.env0.in1 hb hx I (vs := [.ref a]) (us := [.ref a]) (.cons rfl .nil) q) fun w s' z => ?_)
  obtain ⟨z', H', I', rz, i, e, h0, h1, qz⟩ := z
  subst e
  obtain ⟨t, e⟩ := (show ∃ t, w = Value.int i t from rz)
  cases e
  exact ⟨⟨h0, h1⟩, .int i, H', I'.tok _, ⟨_, rfl⟩, qz⟩
end

/-! ### o.m(k = v, ..) -/
def tMethN (C : Addr) (m : Str) (n mm : Nat) (sp : Sp) (gV : List V → List V → List V) (E : XK) (ta : TE) (t tk : TA) : TE := fun σ H Q => ta σ H fun x H1 => ∃ a dx fs, x = .ref a ∧ H1 a = some (.ins C dx fs) ∧ fs.lookup m = none ∧
  t σ H1 fun vs H2 => tk σ H2 fun zs H3 => vs.length = n ∧ zs.length = mm ∧ sp (gV (x :: vs) zs) H3 Q E
section
variable {X : Cx} {CX : CXT} {k n : Nat} {f C : Addr} {fd : FuncData} {ps ks : List Str} {sp : Sp} {E : XK} {m : Str} {pos apos : Pos} {o : Expr} {kws : List Keyword} {ta : TE} {t tk : TA} {g : List Value → List Value → List Value} {gV : List V → List V → List V}
theorem pe_methN0 {pl : Sem Bool} (he : PE X o ta) (c : Cls X.K C) (hm : Meth X.K C m f) (F : FnOk X.prog X.w X.K X.mg X.base CX k f fd ps sp) (hr : Room k X.A) (hb : KBn X.K fd ps 1 ks g gV) (hx : Passes CX X E) (hkw : PK X kws tk)
    (hall : (backToKw pos (keywordEach kws X.env)).all (·.1.isSome) = true := by rfl) (hks : (backToKw pos (keywordEach kws X.env)).filterMap (·.1) = ks := by rfl)
    (hpl : ((backTo pos (starEach [] X.env)).any (·.1) || (backToKw pos (keywordEach kws X.env)).any (·.1.isNone)) = false := by rfl)
    (ht : eval (.Call (.Attribute o m apos) [] kws pos) X.env = (do
      let ov ← eval o X.env
      standAt apos.atName
      let (f, first) ← holding [ov] (getMethod ov m pl)
      callWith pos f first (backTo pos (starEach [] X.env)) (backToKw pos (keywordEach kws X.env))) := by rfl) :
    PE X (.Call (.Attribute o m apos) [] kws pos) (tMethN C m 0 ks.length sp gV E ta tNil tk) := by
  refine ⟨fun pins s σ H Q I h => ?_⟩
  refine PySem.W.methodCall_KW (pl := pl) (thn (he.run pins s σ H _ I h) fun u s1 ⟨x, H1, I1, rx, a, dx, fs, ex, ea, l, q⟩ => ?_) ht
  subst ex
  obtain rfl : u = Value.ref a := rx
  refine getmeth_ok I1 ea c hm l ?_
  refine PySem.W.callWith_KW0 (first := [.ref a]) (h₀ := X.base) I.ok.mod.kin hm.kp hall ?_ hpl
  refine thn (hkw.run pos pins s1 σ H1 _ I1 q) fun ws s2 ⟨zs, H2, I2, rz, l1, l2, q2⟩ => ⟨I2.kIn, ?_⟩
  rw [hks]
  exact run_fnN (n := 1) (us := [.ref a]) (vs := [.ref a]) F hr hb hx I2 (.cons rfl .nil) rz rfl l2 q2
end
end Yarn

set_option Elab.async false
set_option linter.all false
set_option maxRecDepth 100000
set_option maxHeartbeats 4000000
namespace Yarn
open PySem PySem.Spec PyProof.Rows L2

/-! ### a def that lets nothing out, whatever its defaults -/
theorem okD {P : Program} {w : World} {K : PySem.W.Frag} {mg : Str → Option Value} {base : Heap} {x qual : Str} {params : Arguments} {body : List Stmt} {scope : Scope} {dvs : List V} {kws : List (Str × V)} {f : Addr} {fd : FuncData}
    {N ps : List Str} {k : Nat} {sp : Sp} (F : FunD K x qual params body scope dvs kws f fd) (S : FnScope N ps scope) (len : ∀ vs H Q E, sp vs H Q E → vs.length = ps.length)
    (hbody : ∀ (cdv : Value) (A : Around) (outer : List Env) (s : Shared) (H : Hp) (vs : List V) (Q : VK) (E : XK), Room k (A.deeper (envOfC qual scope s.heap.objs.size f cdv)) → sp vs H Q E →
      ∃ t, PSs (cxOf CX0 P w K mg base N qual scope f cdv A outer s H E).nox body t ∧ t { nx := fun _ H' => Q .non H', rt := Q } (start N vs) H) : FnOk P w K mg base CX0 (k + 1) f fd ps sp :=
  F.ok S len fun cdv A outer s H vs Q E hr h => let ⟨t, h1, q⟩ := hbody cdv A outer s H vs Q E hr h; ⟨t, h1.nox, q⟩

/-! ### what stays but for dicts -/
def NotD : HO → Prop
  | .dK _ => False
  | _ => True
def Kp (H H' : Hp) : Prop := ∀ a o, NotD o → H a = some o → H' a = some o
theorem Kp.refl (H : Hp) : Kp H H := fun _ _ _ h => h
theorem Kp.trans {H H1 H2 : Hp} (a : Kp H H1) (b : Kp H1 H2) : Kp H H2 := fun c o n h => b c o n (a c o n h)
theorem same_kp {H H' : Hp} (s : Same H H') : Kp H H' := fun a o _ h => s a o h
theorem Kp.ins {H H' : Hp} {a C dx : Addr} {fs : List (Str × V)} (k : Kp H H') (h : H a = some (.ins C dx fs)) : H' a = some (.ins C dx fs) := k a _ trivial h
theorem Kp.tup {H H' : Hp} {a : Addr} {xs : List V} (k : Kp H H') (h : H a = some (.tup xs)) : H' a = some (.tup xs) := k a _ trivial h
theorem Kp.lst {H H' : Hp} {a : Addr} {xs : List V} (k : Kp H H') (h : H a = some (.lst xs)) : H' a = some (.lst xs) := k a _ trivial h
theorem Kp.seqL {K : PySem.W.Frag} {H H' : Hp} {a : Addr} {xs : List V} (k : Kp H H') (h : SqL K H a xs) : SqL K H' a xs := by
  rcases h with (h | ⟨o, h⟩) | h
  · exact .inl (.inl (k.lst h))
  · exact .inl (.inr ⟨o, k a _ trivial h⟩)
  · exact .inr h
theorem Kp.seqT {K : PySem.W.Frag} {H H' : Hp} {a : Addr} {xs : List V} (k : Kp H H') (h : SqT K H a xs) : SqT K H' a xs := by
  rcases h with (h | ⟨o, h⟩) | h
  · exact .inl (.inl (k.tup h))
  · exact .inl (.inr ⟨o, k a _ trivial h⟩)
  · exact .inr h

/-! ### the pen: a dict of a list of numbers, a place, what is left -/
def penD (c : Addr) (a l : Int) : List (Key × V) := [(.inr "cells", .ref c), (.inr "at", .int a), (.inr "left", .int l)]
theorem s_ca : ¬ (("cells" : Str) = "at") := by decide +kernel
theorem s_cl : ¬ (("cells" : Str) = "left") := by decide +kernel
theorem s_al : ¬ (("at" : Str) = "left") := by decide +kernel
theorem inr_ne {x y : Str} (h : ¬ x = y) : ¬ (Sum.inr x : Key) = Sum.inr y := fun z => h (Sum.inr.inj z)
theorem pen_cells (c : Addr) (a l : Int) : valV (penD c a l) (.inr "cells") = some (.ref c) := valV_pos rfl
theorem pen_at (c : Addr) (a l : Int) : valV (penD c a l) (.inr "at") = some (.int a) := (valV_neg (inr_ne s_ca)).trans (valV_pos rfl)
theorem pen_left (c : Addr) (a l : Int) : valV (penD c a l) (.inr "left") = some (.int l) := (valV_neg (inr_ne s_cl)).trans ((valV_neg (inr_ne s_al)).trans (valV_pos rfl))
theorem put_at (c : Addr) (a l x : Int) : putK (penD c a l) (.inr "at") (.int x) = penD c x l := by
  simp [putK, penD, s_ca, Ne.symm s_al]
theorem put_left (c : Addr) (a l x : Int) : putK (penD c a l) (.inr "left") (.int x) = penD c a x := by
  simp [putK, penD, s_cl, s_al]
theorem pen_merge (c : Addr) : mergeK [] (penD c 0 0) = penD c 0 0 := by
  simp [mergeK, putK, penD, s_ca, s_cl, s_al]
structure Pen (H : Hp) (p : Addr) (n : Int) : Prop where
  ex : ∃ (c : Addr) (ns : List Int) (a l : Int), H p = some (.dK (penD c a l)) ∧ H c = some (.lst (ns.map V.int)) ∧ ns.length ≤ 63 ∧ 0 ≤ a ∧ a ≤ n ∧ 0 ≤ l
theorem Pen.same {H H' : Hp} {p : Addr} {n : Int} (s : Same H H') (P : Pen H p n) : Pen H' p n := by
  obtain ⟨c, ns, a, l, h1, h2, r⟩ := P.ex
  exact ⟨c, ns, a, l, s _ _ h1, s _ _ h2, r⟩
theorem Pen.mono {H : Hp} {p : Addr} {n m : Int} (P : Pen H p n) (h : n ≤ m) : Pen H p m := by
  obtain ⟨c, ns, a, l, h1, h2, h3, h4, h5, h6⟩ := P.ex
  exact ⟨c, ns, a, l, h1, h2, h3, h4, by omega, h6⟩
theorem Pen.kp {H H' : Hp} {p : Addr} {n : Int} (P : Pen H p n) (b : But p H H') : Kp H H' := fun a o no h => b a o (fun e => by
  obtain ⟨c, ns, x, l, h1, _⟩ := P.ex
  subst e
  rw [h] at h1
  cases h1
  exact no) h
/-- a draw: some number below m, the pen one further -/
def spDraw : Sp := fun vs H Q _ => ∃ (p : Addr) (m n : Int), vs = [.ref p, .int m] ∧ Pen H p n ∧ n ≤ 2 ^ 60 ∧ 0 < m ∧ m ≤ 2 ^ 60 ∧
  ∀ (d : Int) (H' : Hp), 0 ≤ d → d < m → Pen H' p (n + 1) → But p H H' → Kp H H' → Q (.int d) H'
/-- a number: small, or of up to fifteen figures -/
def spNumber : Sp := fun vs H Q _ => ∃ (p : Addr) (n : Int), vs = [.ref p] ∧ Pen H p n ∧ n ≤ 2 ^ 59 ∧
  ∀ (d : Int) (H' : Hp), 0 ≤ d → d < 10 ^ 15 → Pen H' p (n + 4) → But p H H' → Kp H H' → Q (.int d) H'
/-- the pen is made -/
def spPen (K : PySem.W.Frag) : Sp := fun vs H Q _ => ∃ (a : Addr) (ns : List Int), vs = [.ref a] ∧ SqL K H a (ns.map V.int) ∧ ns.length ≤ 63 ∧
  ∀ (p : Addr) (H' : Hp), H p = none → Same H H' → Pen H' p 0 → Q (.ref p) H'
/-- a law's: a list of at most 63 ints is handed in, True comes out -/
def sp_law0 (K : PySem.W.Frag) : Sp := fun vs H Q _ => ∃ (a : Addr) (ns : List Int), vs = [.ref a] ∧ SqL K H a (ns.map V.int) ∧ ns.length ≤ 63 ∧ ∀ H', Q (.bl true) H'

/-! ### // by a positive divisor of any size in use -/
theorem div_ok {i j : Int} (h : 0 < j) (hb : j ≤ 2 ^ 200) : CDivW i j := wide_div (b := 201) h (by omega) (by decide) (by decide)
theorem op_fdivY {X : Cx} : OpR X (binaryOp .FloorDiv) (rI (fun _ j => 0 < j ∧ j ≤ 2 ^ 200) fun i j => .int (i / j)) := by
  intro pins s σ H x y v u Q I rx ry h
  obtain ⟨i, j, e1, e2, ⟨h1, h2⟩, q⟩ := h
  exact op_fdivW pins s σ H x y v u Q I rx ry ⟨i, j, e1, e2, div_ok h1 h2, q⟩
/-! ### small helps for readings -/
theorem list_nonempty_ne (xs : List Int) : (!PyData.eqv (.list (xs.map PyData.int)) (.list [])) = !xs.isEmpty := by
  cases xs with
  | nil => rfl
  | cons a r => rfl
theorem ints_can : ∀ ns : List Int, PyData.canLayAll0 (ns.map PyData.int) = true
  | [] => by simp [PyData.canLayAll0]
  | n :: ns => by simp [PyData.canLayAll0, PyData.canLay0, ints_can ns]
theorem ints_depth : ∀ ns : List Int, PyData.depthAll (ns.map PyData.int) = 0
  | [] => by simp [PyData.depthAll]
  | n :: ns => by simp [PyData.depthAll, PyData.depth, ints_depth ns]
theorem shaped_ints (ns : List Int) : SeqAt.shaped (.list (ns.map PyData.int)) = true := by
  simp [SeqAt.shaped, PyData.canLay0, ints_can, PyData.depth, ints_depth]
theorem shaped_nil : SeqAt.shaped (.list []) = true := shaped_ints []
theorem dp_ints {K : PySem.W.Frag} {H : Hp} : ∀ ns : List Int, DpAll K H (ns.map V.int) (ns.map PyData.int)
  | [] => .nil
  | n :: ns => .cons (.int n) (dp_ints ns)
theorem atI_int {xs : List V} {ns : List Int} (e : xs = ns.map V.int) {i : Int} (h0 : 0 ≤ i) (h1 : i < ns.length) : ∃ z, atI xs i = some (.int z) := by
  subst e
  obtain ⟨j, rfl⟩ : ∃ j : Nat, i = j := ⟨i.toNat, by omega⟩
  have hj : j < ns.length := by omega
  refine ⟨ns[j], atI_nat ?_⟩
  rw [List.getElem?_map, List.getElem?_eq_getElem hj] <;> rfl
end Yarn
namespace Yarn
open PySem PySem.Spec PyProof.Rows L2
/-! ### splitting on a test -/
theorem iteD {p A B : Prop} [Decidable p] (h1 : p → A) (h2 : ¬ p → B) : if decide p = true then A else B := by
  by_cases h : p
  · rw [if_pos (decide_eq_true h)]
    exact h1 h
  · rw [if_neg (by rw [decide_eq_false h]; exact Bool.false_ne_true)]
    exact h2 h
theorem iteND {p A B : Prop} [Decidable p] (h1 : ¬ p → A) (h2 : p → B) : if (!decide p) = true then A else B := by
  by_cases h : p
  · rw [decide_eq_true h]
    exact iteF (h2 h)
  · rw [decide_eq_false h]
    exact iteT (h1 h)
theorem iteEI {a b : Int} {A B : Prop} (h1 : a = b → A) (h2 : ¬ a = b → B) : if decide (V.int a = V.int b) = true then A else B :=
  iteD (fun h => h1 (V.int.inj h)) fun h => h2 fun e => h (congrArg V.int e)
theorem iteNI {a b : Int} {A B : Prop} (h1 : ¬ a = b → A) (h2 : a = b → B) : if (!decide (V.int a = V.int b)) = true then A else B :=
  iteND (fun h => h1 fun e => h (congrArg V.int e)) fun h => h2 (V.int.inj h)
theorem iteB {b : Bool} {A B : Prop} (h1 : b = true → A) (h2 : b = false → B) : if b = true then A else B := by
  cases b
  · exact iteF (h2 rfl)
  · exact iteT (h1 rfl)
theorem iteNB {b : Bool} {A B : Prop} (h1 : b = false → A) (h2 : b = true → B) : if (!b) = true then A else B := by
  cases b
  · exact iteT (h1 rfl)
  · exact iteF (h2 rfl)
theorem iteNe {ns : List Int} {A B : Prop} (h1 : ns ≠ [] → A) (h2 : ns = [] → B) : if (!PyData.eqv (.list (ns.map PyData.int)) (.list [])) = true then A else B := by
  rw [list_nonempty_ne]
  cases ns with
  | nil => exact iteF (h2 rfl)
  | cons a r => exact iteT (h1 (by simp))
theorem absI (i : Int) : 0 ≤ (if i < 0 then -i else i) := by split <;> omega
theorem cut_ints (ns : List Int) (lo hi : Option Int) : ∃ ms : List Int, cutV (ns.map V.int) lo hi = ms.map V.int ∧ ms.length ≤ ns.length := by
  refine ⟨(ns.drop (HT.sIx (ns.map V.int).length 0 lo)).take (HT.sIx (ns.map V.int).length (ns.map V.int).length hi - HT.sIx (ns.map V.int).length 0 lo), ?_, ?_⟩
  · unfold cutV
    rw [List.map_take, List.map_drop]
  · rw [List.length_take, List.length_drop]
    omega
theorem get_int {ns : List Int} {i : Nat} {x : V} (h : (ns.map V.int)[i]? = some x) : ∃ n, ns[i]? = some n ∧ x = .int n := by
  rw [List.getElem?_map] at h
  cases e : ns[i]? with
  | none => rw [e] at h; cases h
  | some n => rw [e] at h; exact ⟨n, rfl, (Option.some.inj h).symm⟩
theorem take_more {α : Type} : ∀ {l : List α} {i : Nat} {x : α}, l[i]? = some x → l.take (i + 1) = l.take i ++ [x]
  | [], i, x, h => by simp at h
  | a :: l, 0, x, h => by
    have e : a = x := Option.some.inj h
    subst e
    rfl
  | a :: l, i + 1, x, h => by
    have ih := take_more (l := l) (i := i) (x := x) h
    show a :: l.take (i + 1) = a :: l.take i ++ [x]
    rw [ih]
    rfl
end Yarn
namespace Yarn
open PySem PySem.Spec PyProof.Rows L2
theorem atI_all {xs : List V} {P : V → Prop} {i : Int} (h : ∀ x ∈ xs, P x) (h0 : 0 ≤ i) (h1 : i < xs.length) : ∃ v, atI xs i = some v ∧ P v := by
  obtain ⟨j, rfl⟩ : ∃ j : Nat, i = j := ⟨i.toNat, by omega⟩
  have hj : j < xs.length := by omega
  exact ⟨xs[j], atI_nat (List.getElem?_eq_getElem hj), h _ (List.getElem_mem hj)⟩
end Yarn
namespace Yarn
open PySem PySem.Spec PyProof.Rows L2
theorem iteSp {a b c d : Int} {A B : Prop} (h1 : a = b) (h2 : c = d) (h : B) : if (!(decide (a = b) && decide (c = d))) = true then A else B := by
  rw [decide_eq_true h1, decide_eq_true h2]
  exact iteF h
theorem bothT {a b c d : Int} (h1 : a = b) (h2 : c = d) : (decide (a = b) && decide (c = d)) = true := by rw [decide_eq_true h1, decide_eq_true h2] <;> rfl
end Yarn
namespace Yarn
open PySem PySem.Spec PyProof.Rows L2
theorem kit_own {K : PySem.W.Frag} {t : String} {C : Addr} {b : Bool} (h1 : PySem.W.isClsIn K C = true) (h2 : PySem.W.typeIn K (.ref C) = some (.type "type")) (h3 : PySem.W.subIn K (.type t) (.ref C) = some b) :
    PySem.W.kitOne K (.type t) (.ref C) = some b := by
  have hne : (Value.type t == Value.ref C) = false := Bool.eq_false_iff.mpr fun q => by cases beq_iff_eq.mp q
  unfold PySem.W.kitOne
  rw [hne]
  have h1' : (PySem.W.clsIn K C).isSome = true := h1
  simp [PySem.W.kitCls, h1', h2, h3]
end Yarn

set_option Elab.async false
set_option linter.all false
set_option maxRecDepth 100000
set_option maxHeartbeats 4000000
namespace Yarn
open PySem PySem.SeqAt
open AutoSeq1 (wpAny_loadPart')
open MeetsSeq MeetsSeq2 MeetsSeq3 SeqRoads2

section
variable {prog : Program} {w : World} {A : Around} {R : Result → Shared → Prop}
/-- at each turn the list is read anew: N items, the i-th compared with x gives e i -/
def CntI (prog : Program) (w : World) (A : Around) (E : Value → Shared → Prop) (l : Addr) (x : Value) (N : Nat) (e : Nat → Bool) (I : Shared → Prop) : Prop :=
  ∀ s, I s → ∃ (items : Array Value) (n : Nat), s.heap.get? l = some { cls := .type "list", data := .seq items n } ∧ items.size = N ∧
    ∀ (i : Nat) (h1 : i < items.size), wpAny (model prog w) A.in1 (eqBool items[i] x) (fun r s' => r = e i ∧ I s') E s
/-- how many of e i .. e (N - 1) hold -/
def cnt (e : Nat → Bool) (i : Nat) : Nat → Nat
  | 0 => 0
  | k + 1 => (if e i then 1 else 0) + cnt e (i + 1) k
theorem count_loopG (l : Addr) (x : Value) (N : Nat) (e : Nat → Bool) (I : Shared → Prop) (hl : CntI prog w A (fun er s' => R (.error er) s') l x N e I) (total : Int)
    (fin : ∀ s, I s → R (.ok (.ret (.int total s.toks))) { s with toks := s.toks + 1 }) (k : Nat) :
    ∀ (i : Nat) (found : Int), N - i = k → i ≤ N → found + (cnt e i k : Nat) = total → ∀ s, I s →
      wpAny (model prog w) A.in1 (Builtin.«list.count.loop» ⟨[.ref l, x, rawInt i, rawInt found], []⟩) (GQ.FinOf prog w A R) (fun er s' => R (.error er) s') s := by
  induction k with
  | zero =>
    intro i found hk hi ht s h
    obtain ⟨items, n, hl1, hs1, _⟩ := hl _ h
    have hR := fin s h
    have ht' : found = total := by simp [cnt] at ht; exact ht
    subst ht'
    obtain ⟨hp, g, d, tk, os⟩ := s
    wp_walk using wpAny_loadPart' hl1
    have hi1 : items[((i : Nat) : Int).toNat]? = none := by simp; omega
    rw [hi1]
    wp_walk
    exact hR
  | succ k ih =>
    intro i found hk hi ht s h
    obtain ⟨items, n, hl1, hs1, turn⟩ := hl _ h
    have hlt : i < items.size := by omega
    have hturn := turn i hlt
    obtain ⟨hp, g, d, tk, os⟩ := s
    wp_walk using wpAny_loadPart' hl1
    have hi1 : items[((i : Nat) : Int).toNat]? = some items[i] := by simp [hlt]
    have hc : ((i : Int) + 1) = ((i + 1 : Nat) : Int) := by omega
    rw [hi1]
    refine wpAny_bind (wpAny_mono hturn (fun r s2 h2 => ?_) fun _ _ z => z)
    obtain ⟨hr, h2⟩ := h2
    subst hr
    have hrec := ih (i + 1) (found + (if e i then 1 else 0)) (by omega) (by omega) (by rw [← ht]; show found + (if e i = true then 1 else 0) + ((cnt e (i + 1) k : Nat) : Int) = found + (((if e i = true then 1 else 0) + cnt e (i + 1) k : Nat) : Int); split <;> omega) s2 h2
    obtain ⟨hp2, g2, d2, tk2, os2⟩ := s2
    wp_walk
    rw [hc]
    refine ⟨plainId_quiet plain_count_loop _, codeAny_builtin entry_count_loop ?_⟩
    rw [Around.under_plainId plain_count_loop _]
    cases hb : e i with
    | false =>
      rw [hb] at hrec
      simp only [Bool.false_eq_true, if_false, Int.add_zero] at hrec ⊢
      exact hrec
    | true =>
      rw [hb] at hrec
      simp only [if_true] at hrec ⊢
      exact hrec
theorem list_countG (l : Addr) (x : Value) (N : Nat) (e : Nat → Bool) (I : Shared → Prop) (hl : CntI prog w A (fun er s' => R (.error er) s') l x N e I)
    (fin : ∀ s, I s → R (.ok (.ret (.int (cnt e 0 N : Nat) s.toks))) { s with toks := s.toks + 1 }) {s : Shared} (h : I s) :
    wpAny (model prog w) A.in1 (Builtin.«list.count» ⟨[.ref l, x], []⟩) (GQ.FinOf prog w A R) (fun er s' => R (.error er) s') s := by
  obtain ⟨items, n, hl1, hs1, _⟩ := hl _ h
  have hrec := count_loopG (A := A) (R := R) l x N e I hl _ fin N 0 0 (by omega) (Nat.zero_le _) (by simp) s h
  obtain ⟨hp, g, d, tk, os⟩ := s
  wp_walk using wpAny_loadPart' hl1
  refine ⟨plainId_quiet plain_count_loop _, codeAny_builtin entry_count_loop ?_⟩
  rw [Around.under_plainId plain_count_loop _]
  exact hrec
/-- x in a list -/
def anyB (e : Nat → Bool) (i : Nat) : Nat → Bool
  | 0 => false
  | k + 1 => e i || anyB e (i + 1) k
theorem contains_loopG (l : Addr) (x : Value) (N : Nat) (e : Nat → Bool) (I : Shared → Prop) (hl : CntI prog w A (fun er s' => R (.error er) s') l x N e I) (b : Bool)
    (fin : ∀ s, I s → R (.ok (.ret (.bool b))) s) (k : Nat) :
    ∀ (i : Nat), N - i = k → i ≤ N → anyB e i k = b → ∀ s, I s →
      wpAny (model prog w) A.in1 (Builtin.«list.__contains__.loop» ⟨[.ref l, x, rawInt i], []⟩) (GQ.FinOf prog w A R) (fun er s' => R (.error er) s') s := by
  induction k with
  | zero =>
    intro i hk hi ht s h
    obtain ⟨items, n, hl1, hs1, _⟩ := hl _ h
    have hR := fin s h
    have ht' : false = b := ht
    subst ht'
    obtain ⟨hp, g, d, tk, os⟩ := s
    wp_walk using wpAny_loadPart' hl1
    have hi1 : items[((i : Nat) : Int).toNat]? = none := by simp; omega
    rw [hi1]
    wp_walk
    exact hR
  | succ k ih =>
    intro i hk hi ht s h
    obtain ⟨items, n, hl1, hs1, turn⟩ := hl _ h
    have hlt : i < items.size := by omega
    have hturn := turn i hlt
    obtain ⟨hp, g, d, tk, os⟩ := s
    wp_walk using wpAny_loadPart' hl1
    have hi1 : items[((i : Nat) : Int).toNat]? = some items[i] := by simp [hlt]
    have hc : ((i : Int) + 1) = ((i + 1 : Nat) : Int) := by omega
    rw [hi1]
    refine wpAny_bind (wpAny_mono hturn (fun r s2 h2 => ?_) fun _ _ z => z)
    obtain ⟨hr, h2⟩ := h2
    subst hr
    have ht' : (e i || anyB e (i + 1) k) = b := ht
    cases hb : e i with
    | true =>
      rw [hb, Bool.true_or] at ht'
      subst ht'
      have hR := fin s2 h2
      obtain ⟨hp2, g2, d2, tk2, os2⟩ := s2
      wp_walk
      exact hR
    | false =>
      rw [hb, Bool.false_or] at ht'
      have hrec := ih (i + 1) (by omega) (by omega) ht' s2 h2
      obtain ⟨hp2, g2, d2, tk2, os2⟩ := s2
      wp_walk
      rw [hc]
      refine ⟨plainId_quiet plain_contains_loop _, codeAny_builtin entry_contains_loop ?_⟩
      rw [Around.under_plainId plain_contains_loop _]
      exact hrec
theorem list_containsG (l : Addr) (x : Value) (N : Nat) (e : Nat → Bool) (I : Shared → Prop) (hl : CntI prog w A (fun er s' => R (.error er) s') l x N e I)
    (fin : ∀ s, I s → R (.ok (.ret (.bool (anyB e 0 N)))) s) {s : Shared} (h : I s) :
    wpAny (model prog w) A.in1 (Builtin.«list.__contains__» ⟨[.ref l, x], []⟩) (GQ.FinOf prog w A R) (fun er s' => R (.error er) s') s := by
  obtain ⟨items, n, hl1, hs1, _⟩ := hl _ h
  have hrec := contains_loopG (A := A) (R := R) l x N e I hl _ fin N 0 (by omega) (Nat.zero_le _) rfl s h
  obtain ⟨hp, g, d, tk, os⟩ := s
  wp_walk using wpAny_loadPart' hl1
  refine ⟨plainId_quiet plain_contains_loop _, codeAny_builtin entry_contains_loop ?_⟩
  rw [Around.under_plainId plain_contains_loop _]
  exact hrec
end
end Yarn

namespace Yarn
open PySem PySem.Spec PyProof.Rows L2
/-- == within a builtin gives b for what D says, and changes nothing -/
def EqB (X : Cx) (n : Nat) (D : V → V → Bool → Hp → Prop) : Prop :=
  ∀ (A : Around) (pins : List (Addr × Obj)) (s : Shared) (σ : L2.St) (H : Hp) (x y : V) (b : Bool) (u v : Value), Room n A → A.frames = X.A.frames → Inv X pins σ H s → RelV x u → RelV y v → D x y b H →
    wpAny (model X.prog X.w) A (eqBool u v) (fun r s' => r = b ∧ Inv X pins σ H s') X.xe s
/-- two instances of classes with an own ==, as the def at the left says -/
def DOwn (K : PySem.W.Frag) (C : Addr) (sp : Sp) (E : XK) : V → V → Bool → Hp → Prop := fun x y b H => ∃ a c dx fs tb, x = .ref a ∧ y = .ref c ∧ H a = some (.ins C dx fs) ∧ ClOf H (.ref c) tb ∧ PySem.W.notFirst K C tb = true ∧ (a = c → b = true) ∧
  sp [.ref a, .ref c] H (fun v H' => v = .bl b ∧ H' = H) E
section
variable {X : Cx} {CX : CXT} {C f : Addr} {fd : FuncData} {ps : List Str} {sp : Sp} {E : XK} {n : Nat} {D : V → V → Bool → Hp → Prop}
theorem eqB_own (F : FnOk X.prog X.w X.K X.mg X.base CX n f fd ps sp) (hs : PySem.W.findIn X.K (.ref C) "__eq__" = some (some (.ref f))) (hf : PySem.W.isFn X.K (.ref f) = true) (hb : Binds X.K fd ps [])
    (hx : Passes CX X E) : EqB X n (DOwn X.K C sp E) := by
  intro A pins s σ H x y b u v hr hfr I rx ry d
  obtain ⟨a, c, dx, fs, tb, rfl, rfl, ea, hc, hn, hsame, q⟩ := d
  cases (show u = Value.ref a from rx)
  cases (show v = Value.ref c from ry)
  by_cases hac : a = c
  · subst hac
    have hb1 := hsame rfl
    subst hb1
    exact SeqAt.EqAt.same (A := A) (s := s) (.ref a) X.prog X.w X.xe _ ⟨rfl, I⟩
  · have e0 : Env0 X.prog X.w X.K X.mg X.base A X.stack s H := by
      have e := I.env0
      exact ⟨by rw [hfr]; exact e.frames, e.mod, e.bs, e.bsz, e.funs, e.frf, e.hok, e.bare⟩
    obtain ⟨mA, O, _⟩ := ins_get I.hok ea
    obtain ⟨od, J, _⟩ := O.look
    obtain ⟨m, hF⟩ := I.fr
    refine GQ.eqBool_refG hac (PySem.W.cmp_K (op := .Eq) (tb := tb) hr.units0 hF I.ok.mod.kin J (hc.looks I (show RelV (.ref c) (.ref c) from rfl)) hn hs hf (thn (at_fn F hr e0 hb hx I (vs := [.ref a, .ref c]) (us := [.ref a, .ref c]) (.cons rfl (.cons rfl .nil)) q) fun z s' h => ?_))
    obtain ⟨z', H', I', rz, ez, eH⟩ := h
    subst ez
    subst eH
    cases (show z = Value.bool b from rz)
    exact ⟨b, rfl, rfl, I'⟩
theorem cnt_of (hD : EqB X n D) {A : Around} (hr : Room (n + 1) A) (hfr : A.frames = X.A.frames) {pins : List (Addr × Obj)} {σ : L2.St} {H : Hp} {p : Addr} {ys : List V} {y : V} {u : Value} {e : Nat → Bool} (hp : H p = some (.lst ys)) (ry : RelV y u)
    (he : ∀ i v, ys[i]? = some v → D v y (e i) H) : CntI X.prog X.w A X.xe p u ys.length e (fun s => Inv X pins σ H s) := by
  intro s I
  obtain ⟨z, its, k, r, e1⟩ := I.hok p _ hp
  refine ⟨its.toArray, k, e1, by rw [List.size_toArray, ← r.length], fun i h1 => ?_⟩
  have g1 : its[i]? = some its.toArray[i] := by
    have h1' : i < its.length := by simpa using h1
    rw [List.getElem?_eq_getElem h1'] <;> simp
  have k1 : i < ys.length := by rw [r.length]; simpa using h1
  obtain ⟨u1, hu, ru⟩ := r.get (List.getElem?_eq_getElem k1)
  rw [g1] at hu
  rw [Option.some.inj hu]
  exact hD A.in1 pins s σ H _ y (e i) _ u hr.in1 hfr I ru ry (he i _ (List.getElem?_eq_getElem k1))
/-- xs.count(y) by own == -/
def rCntO (D : V → V → Bool → Hp → Prop) : V → List V → Hp → VK → Prop := fun x xs H Q => ∃ (p : Addr) (ys : List V) (y : V) (e : Nat → Bool), x = .ref p ∧ xs = [y] ∧ H p = some (.lst ys) ∧ (∀ i v, ys[i]? = some v → D v y (e i) H) ∧ Q (.int (cnt e 0 ys.length : Nat)) H
theorem mt_countO (hD : EqB X n D) (hr : Room (n + 1) X.A) : MtR X "list.count" (rCntO D) := by
  intro pins s σ H x xs v us Q I rx rxs h
  obtain ⟨p, ys, y, e, rfl, rfl, hp, he, q⟩ := h
  cases (show v = Value.ref p from rx)
  obtain ⟨u, rfl, ru⟩ := vals1 rxs
  obtain ⟨z, its, k, r, e1⟩ := I.hok p _ hp
  refine GQ.call_here PySem.F.slot_list_count ⟨_, e1, rfl⟩ PySem.F.entry_list_count (PySem.F.args_list_count_2 _ _) ?_
  refine list_countG (R := wants (EP X pins σ Q) X.xe) p u ys.length e (fun s => Inv X pins σ H s) (cnt_of hD hr rfl hp ru he) (fun s' I' => ?_) I
  exact ⟨.int (cnt e 0 ys.length : Nat), H, I'.tok _, ⟨_, rfl⟩, q⟩
/-- x in xs by own == -/
def rInO (D : V → V → Bool → Hp → Prop) : R2 := fun x y H Q => ∃ (p : Addr) (ys : List V) (e : Nat → Bool), y = .ref p ∧ H p = some (.lst ys) ∧ (∀ i v, ys[i]? = some v → D v x (e i) H) ∧ Q (.bl (anyB e 0 ys.length)) H
theorem op_inO (hD : EqB X n D) (hr : Room (n + 1) X.A) : OpR X (compareOp .In) (rInO D) := by
  intro pins s σ H x y v u Q I rx ry h
  obtain ⟨p, ys, e, rfl, hp, he, q⟩ := h
  cases (show u = Value.ref p from ry)
  obtain ⟨z, its, k, r, e1⟩ := I.hok p _ hp
  show wpAny _ X.A (do return .bool (← contains (.ref p) v)) (EP X pins σ Q) X.xe s
  refine wpAny_bind (PySem.wpAny_contains_slot (T := "list") ⟨_, e1, rfl⟩ PySem.F.slot_list_contains (GQ.call_here PySem.F.slot_list_contains ⟨_, e1, rfl⟩ PySem.F.entry_list_contains (PySem.F.args_list_contains_2 _ _) ?_))
  refine list_containsG (R := wants _ X.xe) p v ys.length e (fun s => Inv X pins σ H s) (cnt_of hD hr rfl hp rx he) (fun s' I' => ?_) I
  exact wpAny_truthy_bool (wpAny_pure ⟨.bl (anyB e 0 ys.length), H, I', rfl, q⟩)
end
end Yarn

set_option Elab.async false
set_option linter.all false
set_option maxRecDepth 100000
set_option maxHeartbeats 4000000
namespace Yarn
open PySem PySem.Spec PyProof.Rows L2
section
variable {X : Cx} {CX : CXT} {C f : Addr} {fd : FuncData} {ps : List Str} {sp : Sp} {E : XK} {n : Nat}
theorem range_size (i j : Int) : Builtin.Range.rangeSize i j 1 = ((j - i).toNat : Nat) := by
  unfold Builtin.Range.rangeSize
  simp
  split <;> omega
/-- len(range(i, j)) -/
theorem call_lenR : CallR X (.builtin "len") (fun xs H Q => ∃ (a : Addr) (lo hi : Int), xs = [.ref a] ∧ H a = some (.rng lo hi) ∧ hi - lo < 2 ^ 63 ∧ Q (.int ((hi - lo).toNat : Nat)) H) := by
  intro pins s σ H vs us Q I r h
  obtain ⟨a, lo, hi, rfl, ea, hz, q⟩ := h
  obtain ⟨u, rfl, ru⟩ := vals1 r
  cases (show u = Value.ref a from ru)
  obtain ⟨t, t2, t3, e⟩ := (show ObjOk X.prog X.w H s.heap a (.rng lo hi) from I.hok a _ ea)
  exact call_len_range (n := (hi - lo).toNat) e (range_size lo hi) (by omega) ⟨.int ((hi - lo).toNat : Nat), H, I.tok _, ⟨_, rfl⟩, q⟩

/-! ### bool(x) by an own __len__ -/
open Builtin in
theorem len_body {prog : Program} {w : World} {A : Around} {E : Value → Shared → Prop} {Q : Value → Shared → Prop} {s : Shared} {K : PySem.W.Frag} {x : Addr} {ox : Obj} {od : Option Obj} (Xk : K.In s.heap) (I : PySem.W.InstAt s.heap x ox C od)
    (hs : PySem.W.findIn K (.ref C) "__len__" = some (some (.ref f))) (hf : PySem.W.isFn K (.ref f) = true)
    (h : wpAny (model prog w) A (call (.ref f) [.ref x]) (fun v s' => ∃ i t, v = .int i t ∧ (0 ≤ i ∧ i < 2 ^ 63) ∧ Q (.int i s'.toks) { s' with toks := s'.toks + 1 }) E s) :
    wpAny (model prog w) A (Builtin.«len» ⟨[.ref x], []⟩) (fun fin s' => ∃ v, fin = .done (.ret v) ∧ Q v s') E s := by
  unfold Builtin.«len»
  refine wpAny_bind (m := oneArg "len" _) (wpAny_pure ?_)
  refine wpAny_bind (m := callSpecial? (.ref x) (Str.ofString "__len__")) (PySem.W.special_fn Xk I hs (beq_iff_eq.mp hf) (wpAny_mono h (fun r s' hr => ?_) fun _ _ y => y))
  obtain ⟨i, t, rfl, ⟨h0, h1⟩, hq⟩ := hr
  refine wpAny_bind (wpAny_holding (wpAny_pure ?_))
  refine wpAny_bind (wpAny_letGo ?_)
  show wpAny _ _ (if i < 0 then _ else _) _ _ _
  rw [if_neg (show ¬ i < 0 by omega)]
  show wpAny _ _ (if i ≥ 2 ^ 63 then _ else _) _ _ _
  rw [if_neg (show ¬ i ≥ 2 ^ 63 by omega)]
  exact wpAny_bind (wpAny_mkInt (wpAny_pure ⟨_, rfl, hq⟩))
theorem truthy_len {prog : Program} {w : World} {A : Around} {E : Value → Shared → Prop} {s : Shared} {K : PySem.W.Frag} {x : Addr} {ox : Obj} {od : Option Obj} {Q : Bool → Shared → Prop} (Xk : K.In s.heap) (I : PySem.W.InstAt s.heap x ox C od)
    (hb : PySem.W.findIn K (.ref C) "__bool__" = some none) (hs : PySem.W.findIn K (.ref C) "__len__" = some (some (.ref f))) (hf : PySem.W.isFn K (.ref f) = true)
    (h : wpAny (model prog w) A.in1 (call (.ref f) [.ref x]) (fun v s' => ∃ i t, v = .int i t ∧ (0 ≤ i ∧ i < 2 ^ 63) ∧ Q (i != 0) { s' with toks := s'.toks + 1 }) E s) : wpAny (model prog w) A (truthy (.ref x)) Q E s := by
  unfold truthy
  refine wpAny_bind (m := callSpecial? (.ref x) (Str.ofString "__bool__")) (wpAny_bind (wpAny_bind (I.type.here ((PySem.W.looks_findIn Xk hb).here (wpAny_pure ?_)))))
  refine wpAny_bind (wpAny_bind (I.type.here ((PySem.W.looks_findIn Xk hs).here ?_)))
  refine wpAny_bind (wpAny_runValue (codeAny_builtin entry_len ?_))
  rw [Around.under_plainId plain_len _]
  refine wpAny_mono (len_body (Q := fun v s' => ∃ i t, v = .int i t ∧ Q (i != 0) s') Xk I hs hf (wpAny_mono h (fun v s' hv => ?_) fun _ _ y => y)) (fun fin s' hf => ?_) fun _ _ y => y
  · obtain ⟨i, t, rfl, hi, hq⟩ := hv
    exact ⟨i, t, rfl, hi, i, _, rfl, hq⟩
  · obtain ⟨v, rfl, i, t, rfl, hq⟩ := hf
    exact wpAny_pure hq
def rBoolO (C : Addr) (sp : Sp) (E : XK) : List V → Hp → VK → Prop := fun xs H Q => ∃ a dx fs, xs = [.ref a] ∧ H a = some (.ins C dx fs) ∧ sp [.ref a] H (fun v H' => ∃ i, v = .int i ∧ 0 ≤ i ∧ i < 2 ^ 63 ∧ Q (.bl (i != 0)) H') E
theorem call_boolO (F : FnOk X.prog X.w X.K X.mg X.base CX n f fd ps sp) (hr : Room (n + 3) X.A) (hs : PySem.W.findIn X.K (.ref C) "__len__" = some (some (.ref f))) (hf : PySem.W.isFn X.K (.ref f) = true)
    (hbo : PySem.W.findIn X.K (.ref C) "__bool__" = some none) (hb : Binds X.K fd ps []) (hx : Passes CX X E) : CallR X (.type "bool") (rBoolO C sp E) := by
  intro pins s σ H vs us Q I r h
  obtain ⟨a, dx, fs, rfl, ea, q⟩ := h
  obtain ⟨u, rfl, ru⟩ := vals1 r
  cases (show u = Value.ref a from ru)
  obtain ⟨mA, O, _⟩ := ins_get I.hok ea
  obtain ⟨od, J, _⟩ := O.look
  have hr2 : Room (n + 2) X.A.in1 := hr.in1
  have hr1 : Room (n + 1) X.A.in1.in1 := hr2.in1
  have hr0 : Room n X.A.in1.in1.in1 := hr1.in1
  refine callType_codes (T := "bool") (Bi := Builtin.«object.__init__») (Q₁ := fun r s₁ => ∃ b, r = .bool b ∧ EP X pins σ Q r s₁) PySem.F.called_bool (PySem.F.typeCall_bool_1 _) PySem.F.entry_object_init ?_ ?_
  · refine codeAny_of_tree ?_
    show wpAny _ X.A.in1.in1 (do checkBuiltinCall "bool.__new__" ⟨[.type "bool", .ref a], []⟩; again (.builtin "bool.__new__" ⟨[.type "bool", .ref a], []⟩)) _ _ s
    refine wpAny_bind (wpAny_of_eq (PySem.F.newCall_bool_1 _) (wpAny_pure ⟨plainId_quiet (by decide +kernel) _, codeAny_builtin PySem.F.entry_bool_new ?_⟩))
    rw [Around.under_plainId (by decide +kernel) _]
    have key : wpAny (model X.prog X.w) X.A.in1.in1 (truthy (.ref a)) (fun b s1 => EP X pins σ Q (.bool b) s1) X.xe s := by
      refine truthy_len I.kIn J hbo hs hf (thn (at_fn F hr0 I.env0.in1.in1.in1 hb hx I (vs := [.ref a]) (us := [.ref a]) (.cons rfl .nil) q) fun w s' z => ?_)
      obtain ⟨z', H', I', rz, i, e, h0, h1, qz⟩ := z
      subst e
      obtain ⟨t, e⟩ := (show ∃ t, w = Value.int i t from rz)
      cases e
      exact ⟨i, t, rfl, ⟨h0, h1⟩, .bl (i != 0), H', I'.tok _, rfl, qz⟩
    have f1 := PySem.F.conv_sub_bool
    obtain ⟨hp, g, d, tk, os⟩ := s
    unfold Builtin.«bool.__new__»
    repeat (any_goals (first | assumption | with_reducible exact wpAny_bind (m := truthy (.ref a)) (wpAny_mono key (fun b s1 z => wpAny_pure ⟨b, rfl, z⟩) fun _ _ y => y) | wp_step))
  · rintro obj s₁ ⟨b, rfl, hq⟩
    exact ⟨PySem.typeIs_bool _ _, PySem.F.args_object_init_2 _ _, object_init_meets PySem.F.called_bool.init.lookup PySem.F.called_bool.made (by decide) X.prog X.w X.A.in1 _ s₁ ⟨PySem.typeIs_bool _ _, rfl, hq⟩⟩
end
end Yarn
namespace Yarn
open PySem PySem.Spec PyProof.Rows L2
section
variable {X : Cx}
theorem cr_range2Y : CallR X (.type "range") (fun vs H Q => ∃ i j, vs = [V.int i, V.int j] ∧ ∀ p H2, H p = none → Same H H2 → H2 p = some (.rng i j) → Q (.ref p) H2) := fun pins s σ H vs us Q I r ⟨i, j, e, q⟩ =>
  cr_range2 pins s σ H vs us Q I r ⟨i, j, e, fun p hp => q p _ hp (same_upd hp) upd_same⟩
end
/-! ### numbers as texts -/
theorem log_small {i : Int} (h0 : 0 ≤ i) (h1 : i < 10 ^ 60) : i.natAbs.log2 < 1920 := by
  have h : i.natAbs < 2 ^ 1920 := by
    have e : (10 : Nat) ^ 60 < 2 ^ 1920 := by decide
    omega
  exact PySem.Flt.log2_lt_of (by decide) h
theorem num_len {i : Int} (h0 : 0 ≤ i) (h1 : i < 10 ^ 60) : (Str.ofString (toString i)).length ≤ 60 := toString_length_le h0 (by decide) h1
theorem line_big {n : Nat} (h : n ≤ 1000000) : n ≤ sizeLine := Nat.le_trans h (by decide)
end Yarn
namespace Yarn
open PySem PySem.Spec PyProof.Rows L2
theorem eqv_pair (a b c d : Int) : PyData.eqv (.tuple [.int a, .int b]) (.tuple [.int c, .int d]) = (decide (a = c) && decide (b = d)) := by
  have e : ∀ x y : Int, (x == y) = decide (x = y) := fun x y => by by_cases h : x = y <;> simp [h]
  simp [PyData.eqv, PyData.eqvAll]
  rw [e, e]
theorem shaped_pair (a b : Int) : SeqAt.shaped (.tuple [.int a, .int b]) = true := by
  simp [SeqAt.shaped, PyData.canLay0, PyData.canLayAll0, PyData.depth, PyData.depthAll]
theorem dp_pair {K : PySem.W.Frag} {H : Hp} (a b : Int) : DpAll K H [.int a, .int b] [.int a, .int b] := .cons (.int a) (.cons (.int b) .nil)
theorem iteNP {a b c d : Int} {A B : Prop} (h1 : a = c) (h2 : b = d) (h : B) : if (!PyData.eqv (.tuple [.int a, .int b]) (.tuple [.int c, .int d])) = true then A else B := by
  rw [eqv_pair, decide_eq_true h1, decide_eq_true h2]
  exact iteF h
theorem iteNBl {a b : Bool} {A B : Prop} (h : a = b) (hB : B) : if (!decide (V.bl a = V.bl b)) = true then A else B := by
  subst h
  rw [decide_eq_true rfl]
  exact iteF hB
theorem iteNSt {a b : Str} {A B : Prop} (h : a = b) (hB : B) : if (!decide (V.str a = V.str b)) = true then A else B := by
  subst h
  rw [decide_eq_true rfl]
  exact iteF hB
theorem str_len (x y : Str) : (x ++ y).length = x.length + y.length := by
  have h2 : (TL.tl (x ++ y)).length = (TL.tl x).length + (TL.tl y).length := by rw [TL.tl_append, List.length_append]
  rw [TL.len_tl, TL.len_tl x, TL.len_tl y]
  exact h2
end Yarn

set_option Elab.async false
set_option linter.all false
set_option maxRecDepth 100000
set_option maxHeartbeats 4000000
namespace Yarn
open PySem PySem.Spec PyProof.Rows L2

/-! ### own errors over any built-in one -/
/-- what the written part says of the error's class at C, which stands over the built-in B -/
structure ErrC (K : PySem.W.Frag) (C : Addr) (B nI iI : String) (bmB : List Value) : Prop where
  cls : ∃ nm q N bs bm sn sub ab col dd k0 k1 k2 k3 k5, K.lookup C = some (excClassObj nm q C N bs bm true sn sub ab col dd k0 k1 k2 k3 k5 nI) ∧ PySem.W.excTail bmB bm = true
  FB : ExcBaseFacts B nI iI bmB
  SF : StoreFacts B bmB "object.__setattr__" "object"
  sa : PySem.W.findIn K (.ref C) "__setattr__" = some (some (.builtin "object.__setattr__"))
  exC : PySem.W.subIn K (.ref C) (.type "BaseException") = some true
  tyC : PySem.W.typeIn K (.ref C) = some (.type "type")
  kC : PySem.W.keepIn K (.ref C) = true
section
variable {K : PySem.W.Frag} {C : Addr} {B nI iI : String} {bmB : List Value}
theorem ErrC.over (T : ErrC K C B nI iI bmB) : PySem.W.excOver K C bmB = true := by
  obtain ⟨nm, q, N, bs, bm, sn, sub, ab, col, dd, k0, k1, k2, k3, k5, hC, hb⟩ := T.cls
  unfold PySem.W.excOver PySem.W.clsIn
  rw [hC]
  show (C == C && PySem.W.excTail bmB bm) = true
  rw [hb, beq_self_eq_true]
  rfl
theorem ErrC.dict (T : ErrC K C B nI iI bmB) : PySem.W.hasDictIn K C = true := by
  obtain ⟨nm, q, N, bs, bm, sn, sub, ab, col, dd, k0, k1, k2, k3, k5, hC, hb⟩ := T.cls
  unfold PySem.W.hasDictIn PySem.W.clsIn
  rw [hC]
  rfl
theorem taker_no {f : Str} (h : PySem.W.findIn K (.ref C) f = some none) : PySem.W.takerIn K C f = some none := by
  unfold PySem.W.takerIn
  rw [h]
  rfl
/-- the error at e, its record's first field t, its dict d -/
abbrev erO (C t : Addr) (d : Option Addr) : Obj := { cls := .ref C, dict := d, data := .fields #[.ref t, .none, .none, .none, .bool false, .none] }
section
variable {prog : Program} {w : World} {A : Around} {R : Result → Shared → Prop} {hp : Heap} {g : Array GenState} {dr : Drawn} {tk : Nat} {os : OsState} {x t dx : Addr} {f : Str} {tok : Tok} {v : Value}
theorem er_first (T : ErrC K C B nI iI bmB) (X : K.In hp) (hx : hp.get? x = some (erO C t none)) (hno : PySem.W.findIn K (.ref C) f = some none)
    (hq : ∀ h' tk' dx, (∀ b o, b ≠ x → hp.get? b = some o → h'.get? b = some o) → hp.objs.size ≤ dx → dx ≠ x → h'.get? x = some (erO C t (some dx)) → h'.Ns1 dx (fun y => if y = f then some v else none) → R (.ok (.ret .none)) ⟨h', g, dr, tk', os⟩) :
    codeAny (model prog w) A (.call (.builtin "object.__setattr__") ⟨[.ref x, .str f tok, v], []⟩) R ⟨hp, g, dr, tk, os⟩ := by
  have hlt := Heap.lt_size hx
  have hne : x ≠ hp.objs.size := Nat.ne_of_lt hlt
  obtain ⟨cd, hc, hd⟩ := PySem.W.any_some T.dict
  refine PySem.W.osa_openX (s := ⟨hp, g, dr, tk, os⟩) (od := none) T.SF X ⟨hx, rfl, rfl, trivial⟩ T.over (taker_no hno) fun b => ?_
  refine wpAny_bind (wpAny_pure (wpAny_bind (PySem.W.instanceDict_exc (s := ⟨hp, g, dr, tk, os⟩) hx (PySem.W.looks_clsIn X hc) hd ?_)))
  have hx1 : (hp.push (PySem.W.dictOf [] 0)).get? x = some (erO C t none) := Heap.get?_push_of_some _ hx
  have e1 : ((hp.push (PySem.W.dictOf [] 0)).update x fun o => { o with dict := some hp.objs.size }).get? hp.objs.size = some (PySem.W.dictOf [] 0) :=
    (Heap.get?_update_ne _ _ _ _ hne.symm).trans (Heap.get?_push_at rfl rfl)
  have e2 : ((hp.push (PySem.W.dictOf [] 0)).update x fun o => { o with dict := some hp.objs.size }).get? x = some (erO C t (some hp.objs.size)) := Heap.get?_update_self _ hx1 rfl
  refine HandSPX.store_in_new ⟨_, #[], _, e1, rfl, fun e he => absurd he (by simp), fun _ => rfl⟩ fun h' tk' hn hs => ?_
  refine hq h' tk' hp.objs.size (fun b o hb ho => ?_) (Nat.le_refl _) hne.symm ((hs.2 x hne).trans e2) hn
  exact (hs.2 b (Nat.ne_of_lt (Heap.lt_size ho))).trans ((Heap.get?_update_ne _ _ _ _ hb).trans (Heap.get?_push_of_some _ ho))
theorem er_more {m0 : Str → Option Value} {nl : List Str} (T : ErrC K C B nI iI bmB) (X : K.In hp) (hx : hp.get? x = some (erO C t (some dx))) (hns : hp.Ns1 dx m0) (hw : Within m0 nl) (hz : nl.length ≤ 1000) (hno : PySem.W.findIn K (.ref C) f = some none)
    (hq : ∀ h' tk', (∀ b o, b ≠ dx → hp.get? b = some o → h'.get? b = some o) → h'.Ns1 dx (fun y => if y = f then some v else m0 y) → R (.ok (.ret .none)) ⟨h', g, dr, tk', os⟩) :
    codeAny (model prog w) A (.call (.builtin "object.__setattr__") ⟨[.ref x, .str f tok, v], []⟩) R ⟨hp, g, dr, tk, os⟩ := by
  obtain ⟨oD, _, _, hoD, _, _⟩ := hns.count hw
  obtain ⟨cd, hc, hd⟩ := PySem.W.any_some T.dict
  refine PySem.W.osa_openX (s := ⟨hp, g, dr, tk, os⟩) (od := some oD) T.SF X ⟨hx, rfl, rfl, hoD⟩ T.over (taker_no hno) fun b => ?_
  refine wpAny_bind (wpAny_pure (wpAny_bind (wpAny_bind (wpAny_loadPart hx (wpAny_bind ((PySem.W.looks_clsIn X hc).here ?_))))))
  rw [hd]
  refine wpAny_pure (a := some dx) ?_
  exact OEX.store_in_old hns hw hz fun h' tk' hn hs => hq h' tk' (fun b o hb ho => (hs.2 b hb).trans ho) hn
end
end

/-! ### over the abstract heap: exo is the error being made, exd its dict -/
section
variable {X : Cx} {pins : List (Addr × Obj)} {σ : L2.St} {H : Hp} {s : Shared} {a C dx : Addr} {B nI iI : String} {bmB : List Value} {f : Str} {y : V} {u : Value} {fs : List (Str × V)}
/-- an abstract heap that differs at a (an error being made) and at d (its dict, new), and has the rest -/
theorem er_un {hp h' : Heap} {o1 o2 : HO} (I : Inv X pins σ H s) (ea : H a = some (exo a C none)) (e : s.heap = hp) (hd : hp.objs.size ≤ dx) (hne : dx ≠ a) (k : ∀ b o, b ≠ a → hp.get? b = some o → h'.get? b = some o) (there : ∃ o, h'.get? a = some o) :
    Un X.fs [] H (upd (upd H dx o1) a o2) hp h' := by
  subst e
  have nd : H dx = none := I.hok.fresh hd
  have na : ∀ b, H b = none → b ≠ a := fun b n z => by
    rw [z, ea] at n
    cases n
  have ot : ∀ b o, H b = some o → o ≠ exo a C none → upd (upd H dx o1) a o2 b = some o := fun b o q n => by
    have h1 : b ≠ a := fun z => n (by rw [z, ea] at q; exact (Option.some.inj q).symm)
    rw [upd_ne h1, upd_ne (ne_of_none q nd)]
    exact q
  refine ⟨fun b o q n _ _ => k b o (na b n) q, fun b o q n _ _ => ⟨o.slots, k b o (na b n) q⟩, fun b o q n _ => ?_, fun b o q _ => ?_, fun b xs q => ot b _ q exo_tup.symm, fun b o v q => ot b _ q exo_frz.symm, fun b ps q => ⟨#[], by rw [ot b _ q exo_tbl.symm]; simp⟩⟩
  · rw [upd_ne (na b n), upd_ne (Nat.ne_of_lt (Nat.lt_of_lt_of_le (Heap.lt_size q) hd))]
    exact n
  · by_cases h : b = a
    · rw [h]; exact there
    · exact ⟨o, k b o h q⟩
theorem er_put1 {A : Around} {E : Value → Shared → Prop} {Q : Unit → Shared → Prop} (T : ErrC X.K C B nI iI bmB) (I : Inv X pins σ H s) (e : H a = some (exo a C none)) (hno : PySem.W.findIn X.K (.ref C) f = some none) (ry : RelV y u)
    (h : ∀ dx s', H dx = none → dx ≠ a → Inv X pins σ (upd (upd H dx (exd dx [(f, y)])) a (exo a C (some dx))) s' → Q () s') : wpAny (model X.prog X.w) A (setAttr (.ref a) f u) Q E s := by
  obtain ⟨t1, ho⟩ := exo_at I.hok e
  obtain ⟨hp, g, d, t, os⟩ := s
  refine PySem.W.set_plain I.kIn (ox := erO C t1 none) (od := none) ⟨ho, rfl, rfl, trivial⟩ T.sa ?_
  refine er_first T I.kIn ho hno (fun h' tk' dx k dn dne hx hn => ?_)
  have hnd : H dx = none := I.hok.fresh dn
  refine h dx _ hnd dne (I.un (t' := tk') (er_un I e rfl dn dne k ⟨_, hx⟩) fun b o q => ?_)
  by_cases hb : b = a
  · rw [hb] at q ⊢
    rw [upd_same] at q
    cases q
    exact exo_ok hx
  · rw [upd_ne hb] at q
    by_cases hd : b = dx
    · rw [hd] at q ⊢
      rw [upd_same] at q
      cases q
      exact exd_ok hn (relO_put (fs := []) ry fun g => True.intro)
    · rw [upd_ne hd] at q
      have st : ∀ c (o' : HO), H c = some o' → o' ≠ exo a C none → upd (upd H dx (exd dx [(f, y)])) a (exo a C (some dx)) c = some o' := fun c o' z n => by
        have h1 : c ≠ a := fun r => n (by rw [r, e] at z; exact (Option.some.inj z).symm)
        rw [upd_ne h1, upd_ne (ne_of_none z hnd)]
        exact z
      refine (I.hok b o q).stay (fun c v hc z => k c v ?_ z) (fun c hc => st c _ hc exo_own.symm) fun c xs hc => st c _ hc exo_tup.symm
      rcases hc with hc | hc
      · rw [hc]
        exact hb
      · exact fun r => by
          rw [r, e] at hc
          exact exo_own (Option.some.inj hc)
theorem er_put2 {A : Around} {E : Value → Shared → Prop} {Q : Unit → Shared → Prop} (T : ErrC X.K C B nI iI bmB) (I : Inv X pins σ H s) (e : H a = some (exo a C (some dx))) (ed : H dx = some (exd dx fs)) (hl : fs.length ≤ 900) (hno : PySem.W.findIn X.K (.ref C) f = some none) (ry : RelV y u)
    (h : ∀ s', Inv X pins σ (upd H dx (exd dx ((f, y) :: fs))) s' → Q () s') : wpAny (model X.prog X.w) A (setAttr (.ref a) f u) Q E s := by
  obtain ⟨t1, ho⟩ := exo_at I.hok e
  obtain ⟨mA, hns, rel⟩ := exd_at I.hok ed
  have hw := within_of rel
  obtain ⟨hp, g, d, t, os⟩ := s
  obtain ⟨oD, _, _, hoD, _, _⟩ := hns.count hw
  refine PySem.W.set_plain I.kIn (ox := erO C t1 (some dx)) (od := some oD) ⟨ho, rfl, rfl, hoD⟩ T.sa ?_
  refine er_more T I.kIn ho hns hw (by rw [List.length_map]; omega) hno (fun h' tk' k hn => ?_)
  have hd : ∃ o, h'.get? dx = some o := let ⟨o, _, _, z, _⟩ := hn; ⟨o, z⟩
  exact h _ (I.write (t' := tk') (x := dx) (e := dx) (o := exd dx ((f, y) :: fs)) (by rw [ed]; exact True.intro) (.inl rfl) k hd (exd_ok hn (relO_put ry rel)))
/-- B.__init__(self, ..) -/
theorem er_base {A : Around} {E : Value → Shared → Prop} {us : List Value} {Q : Value → Shared → Prop} (T : ErrC X.K C B nI iI bmB) (I : Inv X pins σ H s) (e : H a = some (exo a C none)) (hl : us.length ≤ sizeLine) (h : ∀ s', Inv X pins σ H s' → Q .none s') :
    wpAny (model X.prog X.w) A (call (.builtin iI) (.ref a :: us)) Q E s := by
  obtain ⟨nm, q, N, bs, bm, sn, sub, ab, col, dd, k0, k1, k2, k3, k5, hC, hbm⟩ := T.cls
  obtain ⟨t1, ho⟩ := exo_at I.hok e
  obtain ⟨hp, g, d, t, os⟩ := s
  refine wpAny_call (HandSPX.init_base T.FB (fun Y => PySem.W.excTail_contains Y bm hbm) (I.kIn _ _ hC) ho hl fun h' t2 k hx => ?_)
  have J := I.write (t' := t) (x := a) (e := a) (o := exo a C none) (by rw [e]; exact True.intro) (.inl rfl) k ⟨_, hx⟩ (exo_ok hx)
  have eu : upd H a (exo a C none) = H := funext fun b => by
    by_cases hb : b = a
    · rw [hb, upd_same, e]
    · rw [upd_ne hb]
  rw [eu] at J
  exact h _ J
end

/-! ### the readings -/
/-- B.__init__(self, ..): nothing of it is told -/
def tErI (K : PySem.W.Frag) (B nI iI : String) (bmB : List Value) (ta : TA) : TE := fun σ H Q => ta σ H fun vs H1 => ∃ (a C : Addr) (ws : List V), vs = .ref a :: ws ∧ ws.length ≤ 1000 ∧ ErrC K C B nI iI bmB ∧ H1 a = some (exo a C none) ∧ Q .non H1
/-- self.f = e -/
def tErP (K : PySem.W.Frag) (B nI iI : String) (bmB : List Value) (f : Str) (to te : TE) : TS := fun D σ H => te σ H fun y H1 => to σ H1 fun x H2 => ∃ a C : Addr, x = .ref a ∧ ErrC K C B nI iI bmB ∧ PySem.W.findIn K (.ref C) f = some none ∧
  ((H2 a = some (exo a C none) ∧ ∀ dx H3, H2 dx = none → But a H2 H3 → H3 a = some (exo a C (some dx)) → H3 dx = some (exd dx [(f, y)]) → D.nx σ H3) ∨
    ∃ (dx : Addr) (fs : List (Str × V)), H2 a = some (exo a C (some dx)) ∧ H2 dx = some (exd dx fs) ∧ fs.length ≤ 900 ∧ ∀ H3, But dx H2 H3 → H3 dx = some (exd dx ((f, y) :: fs)) → D.nx σ H3)
/-- C(e, ..): behind it the error is out of sight, its dict d is told -/
def tErM (C : Addr) (sp : Sp) (dvs : List V) (ta : TA) : L2.St → Hp → XK → Prop := fun σ H Q => ta σ H fun vs H1 => vs.length ≤ 1000 ∧ ∀ a H2, H1 a = none → Same H1 H2 → H2 a = some (exo a C none) → sp (.ref a :: (vs ++ dvs)) H2
  (fun v H3 => v = .non ∧ ∃ (d : Addr) (fs : List (Str × V)), But a H2 H3 ∧ H3 a = some (exo a C (some d)) ∧ H3 d = some (exd d fs) ∧ H2 d = none ∧ ∀ H4, Same H1 H4 → (∀ b o, b ≠ a → b ≠ d → H3 b = some o → H4 b = some o) → H4 d = some (.xd fs) → Q (.ref C) (some d) H4) (fun _ _ _ => False)
section
variable {X : Cx} {o e : Expr} {es : List Expr} {to te : TE} {ta : TA} {f x : Str} {p p' p1 p2 pos : Pos} {B nI iI : String} {bmB : List Value}
theorem pe_erI {pl : Sem Bool} (hg : Gl X x) (hm : X.mg x = none) (hbt : bootBuiltins x = some (.type B)) (hty : typeOf (.type B) = pure (.type "type")) (vV : PySem.W.findCls X.K (.type B) (.type "type") "__init__" = some (.val (.builtin iI))) (ha : PA X (e :: es) ta)
    (hst : Manifest.isStub B = false := by decide +kernel) (hh : PySem.W.handedIn (.builtin iI) = true := by decide +kernel)
    (hn : x ≠ "__name__" := by decide) (hdb : (x == ("__debug__" : Str)) = false := by decide)
    (hc : eval (.Call (.Attribute (.Name x p1) "__init__" p2) (e :: es) [] pos) X.env = (do
      let ov ← eval (.Name x p1) X.env
      standAt p2.atName
      let (f, first) ← holding [ov] (getMethod ov "__init__" pl)
      callWith pos f first (backTo pos (starEach (e :: es) X.env)) (backToKw pos (keywordEach [] X.env))) := by rfl)
    (he : starEach (e :: es) X.env = (false, eval e X.env) :: starEach es X.env := by rfl) (hpl : (backTo pos (starEach es X.env)).any (·.1) = false := by rfl) :
    PE X (.Call (.Attribute (.Name x p1) "__init__" p2) (e :: es) [] pos) (tErI X.K B nI iI bmB ta) := by
  refine ⟨fun pins s σ H Q I h => ?_⟩
  refine PySem.W.methodCall_KW (ld_blt I hg hm hbt ?_ hn hdb) hc
  obtain ⟨m, fr⟩ := I.fr
  refine PySem.W.method_type fr I.ok.mod.kin hty hst vV hh ?_
  show wpAny _ _ (callWith pos (Value.builtin iI) [] (backTo pos (starEach (e :: es) X.env)) []) _ _ _
  refine PyProof.Rows.callWith_method1 (thn (ha.run pos pins _ σ H _ (I.tok _) h) fun us s1 ⟨vs, H1, I1, r1, a, C, ws, ev, hl, T, ea, q⟩ => ?_) he hpl
  subst ev
  cases r1 with
  | @cons _ u0 _ ur ra rw' =>
    obtain rfl : u0 = Value.ref a := ra
    have hlen : ur.length ≤ sizeLine := by
      rw [← Paired.length rw', sizeLine_eq]
      omega
    exact er_base T I1 ea hlen fun s' J => ⟨.non, H1, J, rfl, q⟩
theorem ps_erP (ho : PE X o to) (he : PE X e te) (hs : swapsWith e (some (.Attribute o f p')) pos.line X.env = pure false := by rfl) : PS X (.Assign [.Attribute o f p'] e pos) (tErP X.K B nI iI bmB f to te) := by
  refine ⟨fun pins s σ H D I h => ?_⟩
  refine plainObj_wpAny_Assign_Attribute (thn (he.run pins s σ H _ I h) fun v s1 ⟨y, H1, I1, r1, q1⟩ => thn (ho.run pins s1 σ H1 _ I1 q1) fun u s2 ⟨x, H2, I2, r2, a, C, ex, T, hno, q⟩ => ?_) hs
  subst ex
  obtain rfl : u = Value.ref a := r2
  rcases q with ⟨ea, q⟩ | ⟨dx, fs, ea, ed, hl, q⟩
  · refine er_put1 T I2 ea hno r1 fun dx s' n ne J => ⟨σ, _, J, q dx _ n (fun b o hb z => ?_) upd_same ?_⟩
    · rw [upd_ne hb, upd_ne (ne_of_none z n)]
      exact z
    · rw [upd_ne ne, upd_same]
  · exact er_put2 T I2 ea ed hl hno r1 fun s' J => ⟨σ, _, J, q _ but_upd upd_same⟩
theorem pmk_er {CX : CXT} {C fI : Addr} {k : Nat} {fd : FuncData} {ps : List Str} {sp : Sp} {ds : List Value} {dvs : List V} (T : ErrC X.K C B nI iI bmB) (iC : PySem.W.findIn X.K (.ref C) "__init__" = some (some (.ref fI))) (tI : PySem.W.typeIn X.K (.ref fI) = some (.type "function"))
    (F1 : FnOk X.prog X.w X.K X.mg X.base CX k fI fd ps sp) (hr : Room (k + 1) X.A) (hb : Binds X.K fd ps ds) (hd : Vals dvs ds) (hx : Passes CX X (fun _ _ _ => False)) (hg : Gl X x) (hm : X.mg x = some (.ref C)) (ha : PA X (e :: es) ta)
    (hdb : (x == ("__debug__" : Str)) = false := by decide) (he : starEach (e :: es) X.env = (false, eval e X.env) :: starEach es X.env := by rfl) (hpl : (backTo pos (starEach es X.env)).any (·.1) = false := by rfl) :
    PMk X (.Call (.Name x p) (e :: es) [] pos) (tErM C sp dvs ta) := by
  intro pins s σ H Q I h
  obtain ⟨nm, q, N, bs, bm, sn, sub, ab, col, dd, k0, k1, k2, k3, k5, hC, hbm⟩ := T.cls
  refine wpAny_Call_Name_kw (ld_glob I hg hm ?_ hdb)
  refine PySem.W.callWith_K (h₀ := X.base) I.ok.mod.kin T.kC (thn (ha.run pos pins s σ H _ I h) fun us s1 ⟨vs, H1, I1, r1, hz, q1⟩ => ⟨I1.kIn, ?_⟩) he hpl
  show wpAny _ _ (call (.ref C) us) _ _ _
  obtain ⟨hp, g, dr, tk, os⟩ := s1
  obtain ⟨n0, en⟩ : ∃ n, n = hp.objs.size + 1 := ⟨_, rfl⟩
  have hsz : hp.objs.size ≤ n0 := by rw [en]; exact Nat.le_succ _
  have hn : H1 n0 = none := I1.hok.fresh hsz
  have hq := q1 n0 (upd H1 n0 (exo n0 C none)) hn (same_upd hn) upd_same
  have kk : ∀ b o, hp.get? b = some o → ((hp.push (PySem.W.kdv_tup us)).push (PySem.HandSPX.excO C hp.objs.size)).get? b = some o := fun b o z => Heap.get?_push_of_some _ (Heap.get?_push_of_some _ z)
  have hget : ((hp.push (PySem.W.kdv_tup us)).push (PySem.HandSPX.excO C hp.objs.size)).get? n0 = some (PySem.HandSPX.excO C hp.objs.size) := by
    rw [en]
    heap_get
  have I2 : Inv X pins σ (upd H1 n0 (exo n0 C none)) ⟨(hp.push (PySem.W.kdv_tup us)).push (PySem.HandSPX.excO C hp.objs.size), g, dr, tk, os⟩ := I1.laid (t' := tk) kk hsz (exo_ok hget)
  have r2 : Vals (V.ref n0 :: (vs ++ dvs)) (Value.ref n0 :: (us ++ ds)) := .cons rfl (r1.append hd)
  have hl : (Value.ref n0 :: us ++ ds).length = ps.length := r2.length.symm.trans (F1.len _ _ _ _ hq)
  have hus : us.length ≤ sizeLine := by
    rw [← Paired.length r1, sizeLine_eq]
    omega
  have J := F1.run (X.A.under (.builtin "type.__call__" ⟨.ref C :: us, []⟩)) X.stack _ _ ⟨Value.ref n0 :: us, []⟩ (Value.ref n0 :: (us ++ ds)) _ _ (fun _ _ _ => False) (hr.make C us []) (I2.env0.make C us []) (hb _ (Value.ref n0 :: us) I2.kIn hl) r2 hq
  refine wpAny_call (PySem.HandSPX.call_own T.FB (fun Y => PySem.W.excTail_contains Y bm hbm) (I1.kIn _ _ hC) (PySem.W.looks_findIn I1.kIn iC) (fun self => PySem.W.bind_fn I1.kIn self tI) hus (en ▸ codeAny_mono J fun r s' hq' => ?_))
  cases r with
  | error er => exact hx pins σ _ _ er s' I2 hq'
  | ok fl =>
    cases fl with
    | ret u =>
      obtain ⟨v, H3, os3, bare3, un3, hok3, rv, ev, d, fs, bu, ea, ed, hd1, q3⟩ := hq'
      subst ev
      have d1 : H1 d = none := by
        cases z : H1 d with
        | none => rfl
        | some o =>
          have y := same_upd (o := exo n0 C none) hn d o z
          rw [hd1] at y
          cases y
      have dne : d ≠ n0 := fun z => by
        rw [z, upd_same] at hd1
        cases hd1
      obtain ⟨h3, g3, dr3, t3, os'⟩ := s'
      refine ⟨rv, mk_end (raises_own T.exC T.tyC) I1 hsz kk un3 hok3 os3 bare3 ea ed d1 (q3 _ (fun b o z => ?_) (fun b o h1 h2 z => ?_) upd_same)⟩
      · have b1 : b ≠ n0 := ne_of_none z hn
        rw [upd_ne (ne_of_none z d1), del_ne b1]
        exact bu b o b1 (same_upd hn b o z)
      · rw [upd_ne h2, del_ne h1]
        exact z
    | next => exact hq'.elim
    | brk => exact hq'.elim
    | cont => exact hq'.elim
end

/-! ### an error that is kept behind its suite -/
/-- at a: an error of class cls, its dict d -/
def ExK (a : Addr) (cls : Value) (d : Option Addr) : HO := .ext fun h => ∃ oe vs, h.get? a = some oe ∧ Zc cls d oe ∧ oe.data = .fields vs
theorem exk_own {a x : Addr} {cls : Value} {d : Option Addr} : ExK a cls d ≠ .own x := fun z => by
  have z' : HO.ext _ = HO.own x := z
  cases z'
theorem exk_ok {P : Program} {w : World} {H : Hp} {h : Heap} {a : Addr} {cls : Value} {d : Option Addr} {oe : Obj} {vs : Array Value} (he : h.get? a = some oe) (hz : Zc cls d oe) (hd : oe.data = .fields vs) : ObjOk P w H h a (ExK a cls d) :=
  ⟨⟨oe, vs, he, hz, hd⟩, ⟨_, he⟩, fun h1 h2 ⟨o, v, q, r⟩ k => ⟨o, v, k _ q, r⟩⟩
theorem exk_at {P : Program} {w : World} {H : Hp} {h : Heap} {a : Addr} {cls : Value} {d : Option Addr} (hok : HOk P w H h) (e : H a = some (ExK a cls d)) : ∃ oe vs, h.get? a = some oe ∧ Zc cls d oe ∧ oe.data = .fields vs := by
  have x : ObjOk P w H h a (.ext fun h => ∃ oe vs, h.get? a = some oe ∧ Zc cls d oe ∧ oe.data = .fields vs) := hok a _ e
  exact x.1
section
variable {X : Cx} {pins : List (Addr × Obj)} {σ : L2.St} {H : Hp} {s : Shared} {a : Addr} {oe : Obj} {vs : Array Value} {cls : Value} {d : Option Addr}
/-- a known object, untold as yet, is told -/
theorem tell (I : Inv X pins σ H s) (he : s.heap.get? a = some oe) (hz : Zc cls d oe) (hd : oe.data = .fields vs) (na : H a = none) (nL : a ≠ X.env.locals) (n0 : X.s_0.heap.get? a = none) (np : ∀ p ∈ X.pn ++ pins, p.1 ≠ a) : Inv X pins σ (upd H a (ExK a cls d)) s := by
  have ot : ∀ b o, H b = some o → upd H a (ExK a cls d) b = some o := fun b o z => by
    rw [upd_ne (ne_of_none z na)]
    exact z
  have no : ∀ b, b ≠ a → H b = none → upd H a (ExK a cls d) b = none := fun b h z => by
    rw [upd_ne h]
    exact z
  refine ⟨I.ok, I.os, I.bare, ⟨I.base.keep, I.base.slot, fun b o e n hx => no b (fun z => ?_) (I.base.free b o e n hx), I.base.there, fun b xs e => ot b _ (I.base.tups b xs e), fun b o v e => ot b _ (I.base.frzs b o v e), fun b ps e => ?_⟩, I.loc, I.cell, no _ nL.symm I.free,
    fun x c e => no c (fun z => ?_) (I.freeC x c e), fun p hp => ?_, fun b o e => ?_, I.len⟩
  · rw [z, n0] at e
    cases e
  · obtain ⟨more, q⟩ := I.base.tbls b ps e
    exact ⟨more, ot b _ q⟩
  · obtain ⟨v, oc, q, r⟩ := I.cell x c e
    rw [z, he] at q
    cases q
    have r' : oe.data = .cell v := by first | exact r | exact r.2 | exact r.1
    rw [hd] at r'
    cases r'
  · obtain ⟨h1, h2, h3⟩ := I.pin p hp
    exact ⟨h1, no _ (np p hp) h2, h3⟩
  · by_cases hb : b = a
    · rw [hb] at e ⊢
      rw [upd_same] at e
      cases e
      exact exk_ok he hz hd
    · rw [upd_ne hb] at e
      exact (I.hok b o e).stay (fun _ _ _ q => q) (fun c q => ot c _ q) fun c xs q => ot c _ q
theorem suite_out {q : Addr × Obj} {pn' : List (Addr × Obj)} (I : Inv (X.suite a (q :: (X.pn ++ pins))) pn' σ H s) (ok : X.Ok) : Inv X (q :: pins) σ H s :=
  ⟨ok, I.os, I.bare, I.base, I.loc, I.cell, I.free, I.freeC, fun p hp => I.pin p (List.mem_append_left _ (by
    rcases List.mem_append.mp hp with z | z
    · exact List.mem_cons_of_mem _ (List.mem_append_left _ z)
    · rcases List.mem_cons.mp z with z | z
      · rw [z]
        exact List.mem_cons_self
      · exact List.mem_cons_of_mem _ (List.mem_append_right _ z))), I.hok, I.len⟩
end

/-- every way out of a suite, with the error at a told from then on -/
def keepD (i : Nat) (a : Addr) (cls : Value) (d : Option Addr) (D : Ends) : Ends :=
  { nx := fun σ' H' => ∀ H2, Same H' H2 → H2 a = some (ExK a cls d) → D.nx (σ'.set i none) H2, bk := fun σ' H' => ∀ H2, Same H' H2 → H2 a = some (ExK a cls d) → D.bk (σ'.set i none) H2,
    ct := fun σ' H' => ∀ H2, Same H' H2 → H2 a = some (ExK a cls d) → D.ct (σ'.set i none) H2, rt := fun v H' => ∀ H2, Same H' H2 → H2 a = some (ExK a cls d) → D.rt v H2 }
/-- what 'except x as n' wishes of the body's errors; slot i is n's -/
def wKp (K : PySem.W.Frag) (c : Value) (i : Nat) (ts : Addr → Value → Option Addr → TS) (Wout : WX) (D : Ends) : WX := fun cls d σ H =>
  ∃ b, PySem.W.exmOne K cls c = some b ∧ (b = true → ∀ a, H a = none → ts a cls d (keepD i a cls d D) (σ.set i (some (.ref a))) H) ∧ (b = false → Wout cls d σ H)
section
variable {X : Cx} {x n : Str} {c : Value} {i : Nat} {body suite : List Stmt} {b₀ : Stmt} {np pos pos' : Pos} {tb : WX → TS} {ts : Addr → Value → Option Addr → TS} {Wout : WX}
theorem sky_new {B : Heap} {l : List Env} {a L : Addr} {Z : Obj → Prop} {h : Heap} (x : Sky B l a Z L h) : B.get? a = none := by
  rcases x with x | x | x <;> exact x.2.1
/-- the suite's end: the name goes, the error is told -/
theorem suite_end {pins : List (Addr × Obj)} {σ : L2.St} {H : Hp} {s : Shared} {a : Addr} {oe : Obj} {vs : Array Value} {cls : Value} {d : Option Addr} {R : Shared → Prop} (I : Inv (X.suite a ((a, oe) :: (X.pn ++ pins))) [] σ H s) (ok : X.Ok) (hN : X.N.Nodup) (hi : X.N[i]? = some n) (hln : X.env.kindOf n = some .local)
    (hz : Zc cls d oe) (hd : oe.data = .fields vs) (n0 : X.s_0.heap.get? a = none) (np : ∀ p ∈ X.pn ++ pins, p.1 ≠ a) (hR : ∀ H2 s', Same H H2 → H2 a = some (ExK a cls d) → Inv X pins (σ.set i none) H2 s' → R s') :
    wpAny (model X.prog X.w) X.A (do bindName X.env n .none; unbindBehindTheSuite X.env n pos') (fun _ s' => R s') X.xe s := by
  refine gone_ok (suite_out I ok) hN hi hln fun s7 J => ?_
  obtain ⟨h1, h2, h3, h4, h5⟩ := J.pin (a, oe) (List.mem_append_right _ List.mem_cons_self)
  have J' : Inv X pins (σ.set i none) H s7 := ⟨ok, J.os, J.bare, J.base, J.loc, J.cell, J.free, J.freeC, fun p hp => J.pin p (by
    rcases List.mem_append.mp hp with z | z
    · exact List.mem_append_left _ z
    · exact List.mem_append_right _ (List.mem_cons_of_mem _ z)), J.hok, J.len⟩
  exact hR _ s7 (same_upd h2) upd_same (tell J' h1 hz hd h2 h3 n0 np)
theorem ps_try_keep (hex : X.ex = []) (hs : X.stack = X.env :: X.outer) (hf : X.env.frame = some X.env.locals) (hN : X.N.Nodup) (hi : X.N[i]? = some n) (hln : X.env.kindOf n = some .local) (hc : Names X x c) (tk : Takes X Wout)
    (hb : ∀ (W : WX) (pn : List (Addr × Obj)) (xe : Value → Shared → Prop), Takes (X.tr pn xe) W → PassesOwn (model X.prog X.w) X.A X.env xe → PSs (X.tr pn xe) body (tb W))
    (hsu : ∀ (a : Addr) (oe : Obj) (cls : Value) (d : Option Addr) (pn : List (Addr × Obj)), Zc cls d oe → (∃ vs, oe.data = .fields vs) → PSs (X.suite a ((a, oe) :: pn)) (b₀ :: suite) (ts a cls d)) :
    PS X (.Try body [.ExceptHandler (some (.Name x np)) (some n) (b₀ :: suite) pos'] [] [] pos) (fun D σ H => tb (wKp X.K c i ts Wout D) D σ H) := by
  refine ⟨fun pins s σ H D I h => ?_⟩
  have ok := I.ok
  have hfr : X.A.frames = some (X.env :: X.outer) := ok.frames.trans (congrArg some hs)
  refine wpAny_Try_except (wpAny_mono ((hb (wKp X.K c i ts Wout D) (X.pn ++ pins) (fun e s₁ => wpAny (model X.prog X.w) X.A (noteFrame e X.env) (fun _ s₂ => wpAny (model X.prog X.w) X.A (setFlight e none) (fun _ s₃ =>
    wpAny (model X.prog X.w) X.A (handleBy e X.env [.ExceptHandler (some (.Name x np)) (some n) (b₀ :: suite) pos']) (SP X pins D) X.xe s₃) X.xe s₂) X.xe s₁) (fun u s' xx => ?_) PassesOwn.looking).run [] s σ H D (I.toTry _) h) (fun f s1 hsp => ?_) fun e s1 he => he)
  · obtain ⟨a, B, sI, pins', σ', H', cls, d, rfl, J', nb, up, sky, na, os, ag, b, hb1, hyes, hno⟩ := xx
    have J : Inv X pins σ' H' sI := J'.ofTry ok
    have sky' : Sky B (X.env :: X.outer) a (Zc cls d) X.env.locals s'.heap := hs ▸ sky
    have Ba := sky_new sky'
    show wpAny (model X.prog X.w) X.A (noteFrame (.ref a) X.env) _ _ _
    refine Sky.land Zc.steady hfr hf sky' fun h3 fl3 up3 => ?_
    have J3 : Inv X pins σ' H' { s' with heap := h3 } := J.landed nb fl3.1 (up.trans up3) os ag
    obtain ⟨oe3, vs3, he3, hz3, hd3⟩ := fl3.there
    have nfr : a ∉ frs (X.env :: X.outer) := fun hm => by
      obtain ⟨_, o', e', hnf⟩ := fl3.2.2.1.mem hm
      rw [he3] at e'
      cases e'
      exact hnf _ hd3
    have nL : a ≠ X.env.locals := fun z => nfr (List.mem_filterMap.mpr ⟨X.env, List.mem_cons_self, by rw [hf, z]⟩)
    have nF : a ∉ X.fs := fun hm => by
      obtain ⟨e, h1, q⟩ := List.mem_filterMap.mp hm
      exact nfr (List.mem_filterMap.mpr ⟨e, List.mem_cons_of_mem _ h1, q⟩)
    -- nothing of the entry, nothing pinned, is the error
    have isnt : ∀ b o, sI.heap.get? b = some o → b ∉ frs (X.env :: X.outer) → b ≠ a := fun b o q h1 z => by
      have y := nb b o q (hs.symm ▸ h1)
      rw [z, Ba] at y
      cases y
    have n0 : X.s_0.heap.get? a = none := by
      cases q : X.s_0.heap.get? a with
      | none => rfl
      | some o =>
        obtain ⟨o', q'⟩ := J.base.there a o q (by rw [hex]; exact List.not_mem_nil)
        exact absurd rfl (isnt a o' q' nfr)
    have npin : ∀ p ∈ X.pn ++ pins, p.1 ≠ a := fun p hp => by
      obtain ⟨h1, _, h2, h3, _⟩ := J.pin p hp
      refine isnt p.1 p.2 h1 fun hm => ?_
      rcases List.mem_cons.mp (J.stkSub p.1 (hs.symm ▸ hm)) with z | z
      · exact h2 z
      · exact h3 z
    have S3 := J3.suite he3 hd3 na nL nF
    refine wpAny_handleBy_cons (codeAny_handlers_test ?_) fun q => nomatch q
    have LT : PySem.W.Looks (model X.prog X.w) h3 (typeOf (.ref a)) cls := fun A Q E s k q => wpAny_typeOf_ref (k _ _ he3) (by rw [hz3.1]; exact q)
    have LM := PySem.W.exm_one (M := model X.prog X.w) J3.kIn LT hb1
    have test : ∀ {Q : Value → Shared → Prop} {E : Value → Shared → Prop}, Q c { s' with heap := h3 } → wpAny (model X.prog X.w) (X.A.mark (some (.ref a))) (eval (.Name x np) X.env) Q E { s' with heap := h3 } := fun {Q E} q => by
      obtain ⟨hg, hdbg, hm | ⟨hm, hv, hnn⟩⟩ := hc
      · exact ld_glob (X := X.suite a ((a, oe3) :: (X.pn ++ pins))) S3 hg hm q hdbg
      · exact ld_blt (X := X.suite a ((a, oe3) :: (X.pn ++ pins))) S3 hg hm hv q hnn hdbg
    refine test (LM.here ?_)
    cases b with
    | true =>
      refine codeAny_handlers_suite_as (HandSPX.lands_againZ fl3 fun h4 fl4 up4 => ?_)
      have J4 : Inv X pins σ' H' { s' with heap := h4 } := J.landed nb fl4.1 ((up.trans up3).trans up4) os ag
      obtain ⟨oe4, vs4, he4, hz4, hd4⟩ := fl4.there
      refine store_ok (X := X.suite a ((a, oe4) :: (X.pn ++ pins))) (v := .ref a) (J4.suite he4 hd4 na nL nF) hN hi (.inl hln) rfl (fun s5 S5 => ?_) (.inr hln)
      refine wpAny_mono ((hsu a oe4 cls d (X.pn ++ pins) hz4 ⟨_, hd4⟩).run [] s5 _ H' _ S5 (hyes rfl a na)) (fun f s6 hsp => ?_) fun _ _ z => False.elim z
      cases f with
      | next =>
        obtain ⟨σ6, H6, S6, q6⟩ := hsp
        exact suite_end S6 ok hN hi hln hz4 hd4 n0 npin fun H2 s7 w1 w2 J7 => ⟨_, _, J7, q6 H2 w1 w2⟩
      | brk =>
        obtain ⟨σ6, H6, S6, q6⟩ := hsp
        exact suite_end S6 ok hN hi hln hz4 hd4 n0 npin fun H2 s7 w1 w2 J7 => ⟨_, _, J7, q6 H2 w1 w2⟩
      | cont =>
        obtain ⟨σ6, H6, S6, q6⟩ := hsp
        exact suite_end S6 ok hN hi hln hz4 hd4 n0 npin fun H2 s7 w1 w2 J7 => ⟨_, _, J7, q6 H2 w1 w2⟩
      | ret u =>
        obtain ⟨v6, σ6, H6, S6, r6, q6⟩ := hsp
        exact suite_end S6 ok hN hi hln hz4 hd4 n0 npin fun H2 s7 w1 w2 J7 => ⟨_, _, _, J7, r6, q6 H2 w1 w2⟩
    | false =>
      show wpAny _ X.A (handleBy (.ref a) X.env []) _ _ _
      refine wpAny_handleBy_nil ?_
      obtain ⟨k1, k2, k3, oe, vs, T, oT, ts', he, hz, hd, h1, hr⟩ := id fl3
      unfold PySem.passOn
      refine wpAny_bind (wpAny_field he hd h1 ?_)
      rw [if_neg (show ¬ ((Value.ref T == Value.none) = true) from by simp)]
      have fin : wpAny (model X.prog X.w) X.A (setFlight (.ref a) X.env.frame) (fun _ s4 => wpAny (model X.prog X.w) X.A (throw (.ref a) : Sem Flow) (SP X pins D) X.xe s4) X.xe { s' with heap := h3 } := by
        rw [hf]
        refine HandSPX.setFlight_upZ fl3 fun h4 hh4 up4 => wpAny_throw (tk _ _ ?_)
        exact ⟨a, B, sI, pins, σ', H', cls, d, rfl, J, nb, (up.trans up3).trans up4, .inr (.inr (by rw [hs]; exact hh4)), na, os, ag, hno rfl⟩
      first
        | exact wpAny_bind (wpAny_pure (wpAny_bind fin))
        | exact wpAny_bind fin
  · cases f with
    | next =>
      obtain ⟨σ', H', J', q⟩ := hsp
      exact wpAny_execs_nil ⟨σ', H', J'.ofTry ok, q⟩
    | brk =>
      obtain ⟨σ', H', J', q⟩ := hsp
      exact ⟨σ', H', J'.ofTry ok, q⟩
    | cont =>
      obtain ⟨σ', H', J', q⟩ := hsp
      exact ⟨σ', H', J'.ofTry ok, q⟩
    | ret u =>
      obtain ⟨v, σ', H', J', r, q⟩ := hsp
      exact ⟨v, σ', H', J'.ofTry ok, r, q⟩
end

/-! ### what is asked of a kept error -/
/-- what the written part says of the class C of errors -/
structure ErrA (K : PySem.W.Frag) (C : Addr) : Prop where
  ic : (PySem.W.clsIn K C).isSome = true
  hd : PySem.W.hasDictIn K C = true
  ga : PySem.W.findIn K (.ref C) "__getattribute__" = some (some (.builtin "BaseException.__getattribute__"))
  gg : PySem.W.findIn K (.ref C) "__getattr__" = some none
  ex : PySem.W.subIn K (.ref C) (.type "BaseException") = some true
  ca : PySem.W.findIn K (.ref C) "__class__" = some (some (.builtin "object.__class__"))
  cn : PySem.W.specialIn K (.builtin "object.__class__") "__get__" = some (some (.builtin "getset_descriptor.__get__"))
  ct : PySem.W.takesIn K (.builtin "object.__class__") = some true
  mo : PySem.W.mroIn K C (.type "object") = some true
section
variable {X : Cx} {pins : List (Addr × Obj)} {σ : L2.St} {H : Hp} {s : Shared} {a C dd : Addr} {fs : List (Str × V)} {f n : Str} {v : V}
theorem exk_inst (T : ErrA X.K C) (I : Inv X pins σ H s) (ea : H a = some (ExK a (.ref C) (some dd))) (ed : H dd = some (.xd fs)) :
    ∃ (oe od : Obj) (mA : Str → Option Value), PySem.W.InstAt s.heap a oe C (some od) ∧ (∀ f, RelO (fs.lookup f) (mA f)) ∧ ∀ f, PySem.W.lookIn f od = some (mA f) := by
  obtain ⟨oe, vs, he, hz, hd⟩ := exk_at I.hok ea
  have hx : ObjOk X.prog X.w H s.heap dd (.xd fs) := I.hok dd _ ed
  obtain ⟨mA, hns, hr⟩ := hx
  obtain ⟨od, ho, hl⟩ := lookIn_ns hns
  exact ⟨oe, od, mA, ⟨he, hz.1, by unfold PySem.W.notCls; rw [hd], by rw [hz.2]; exact ho⟩, hr, hl⟩
/-- isinstance(e, c) -/
def rIsK (K : PySem.W.Frag) (C : Addr) : List V → Hp → VK → Prop := fun xs H Q => ∃ (a dd : Addr) (fs : List (Str × V)) (c : V) (cv : Value) (b : Bool), xs = [.ref a, c] ∧ H a = some (ExK a (.ref C) (some dd)) ∧ H dd = some (.xd fs) ∧ (∀ u, RelV c u → u = cv) ∧ PySem.W.kitOne K (.ref C) cv = some b ∧ Q (.bl b) H
theorem call_isK (T : ErrA X.K C) : CallR X (.builtin "isinstance") (rIsK X.K C) := by
  intro pins s σ H xs us Q I r h
  obtain ⟨a, dd, fs, c, cv, b, rfl, ea, ed, hcv, e, q⟩ := h
  cases r with
  | cons rx rr =>
    cases rr with
    | cons rt rr =>
      cases rr
      cases rx
      have ec := hcv _ rt
      subst ec
      obtain ⟨oe, od, mA, J, _, _⟩ := exk_inst T I ea ed
      exact PySem.W.kia_one (PySem.W.kitx_exc T.ic T.ga T.gg T.ex T.ca T.cn T.ct T.mo) I.kIn J e (fun z => nomatch z) fun tk => ⟨.bl b, H, I.kept (t' := tk) fun _ _ z => z, rfl, q⟩
/-- e.f -/
def tXk (C : Addr) (f : Str) (te : TE) : TE := fun σ H Q => te σ H fun x H1 => ∃ (a dd : Addr) (fs : List (Str × V)) (v : V), x = .ref a ∧ H1 a = some (ExK a (.ref C) (some dd)) ∧ H1 dd = some (.xd fs) ∧ fs.lookup f = some v ∧ Q v H1
theorem pe_xk {e : Expr} {te : TE} {pos : Pos} (T : ErrA X.K C) (hno : PySem.W.findIn X.K (.ref C) n = some none) (he : PE X e te) (hb : attributeBase e n X.env (eval e X.env) = eval e X.env := by rfl) : PE X (.Attribute e n pos) (tXk C n te) := by
  refine ⟨fun pins s σ H Q I h => ?_⟩
  refine attr_of hb (thn (he.run pins s σ H _ I h) fun u s1 hh => ?_)
  obtain ⟨x, H1, I1, rx, a, dd, fs, v, ex, ea, ed, l, q⟩ := hh
  subst ex
  obtain rfl : u = Value.ref a := rx
  obtain ⟨oe, od, mA, J, hr, hl⟩ := exk_inst T I1 ea ed
  obtain ⟨u, hu, ru⟩ := RelO.some_of (v := v) (o := mA n) (by rw [← l]; exact hr n)
  exact HandSPX.exc_get I1.kIn J T.ga T.gg T.ex (PySem.W.findObj_own T.hd hno rfl (by rw [hl, hu])) (handed_of ru) ⟨v, H1, I1.tok _, ru, q⟩
end
/-- isinstance's answer over an own class: of a built-in type, of an own one -/
theorem kit_ty {K : PySem.W.Frag} {C : Addr} {t : String} {b : Bool} (h1 : PySem.W.kitMeta t = true) (h2 : PySem.W.subIn K (.ref C) (.type t) = some b) : PySem.W.kitOne K (.ref C) (.type t) = some b := by
  have hne : (Value.ref C == Value.type t) = false := Bool.eq_false_iff.mpr fun q => by cases beq_iff_eq.mp q
  unfold PySem.W.kitOne
  rw [hne]
  simp [PySem.W.kitCls, h1, h2]
/-- 'except C' catches C's own -/
theorem exm_own {K : PySem.W.Frag} {C : Addr} (h1 : PySem.W.subIn K (.ref C) (.type "BaseException") = some true) (h2 : PySem.W.hasDictIn K C = true) (h3 : PySem.W.typeIn K (.ref C) = some (.type "type")) (h4 : PySem.W.subIn K (.ref C) (.ref C) = some true) :
    PySem.W.exmOne K (.ref C) (.ref C) = some true := PySem.W.exm_ref h1 h2 h3 h4

/-! ### a method that may raise, in a body of try -/
def tMethX (C : Addr) (m : Str) (sp : Sp) (dvs : List V) (E : L2.St → XK) (ta : TE) (t : TA) : TE := fun σ H Q => ta σ H fun x H1 => ∃ a dx fs, x = .ref a ∧ H1 a = some (.ins C dx fs) ∧ fs.lookup m = none ∧ t σ H1 fun vs H2 => sp (x :: (vs ++ dvs)) H2 Q (E σ)
theorem pe_methX {X : Cx} {CX : CXT} {k : Nat} {f C : Addr} {fd : FuncData} {ps : List Str} {sp : Sp} {dvs : List V} {ds : List Value} {E : L2.St → XK} {m : Str} {apos pos : Pos} {e o : Expr} {es : List Expr} {ta : TE} {t : TA} {pl : Sem Bool} (he : PE X o ta) (c : Cls X.K C) (hm : Meth X.K C m f)
    (F : FnOk X.prog X.w X.K X.mg X.base CX k f fd ps sp) (hr : Room k X.A) (hb : Binds X.K fd ps ds) (hd : Vals dvs ds) (hx : ∀ σ, PassesAt CX X σ (E σ)) (ha : PA X (e :: es) t)
    (hst : starEach (e :: es) X.env = (false, eval e X.env) :: starEach es X.env := by rfl) (hpl : (backTo pos (starEach es X.env)).any (·.1) = false := by rfl)
    (ht : eval (.Call (.Attribute o m apos) (e :: es) [] pos) X.env = (do
      let ov ← eval o X.env
      standAt apos.atName
      let (f, first) ← holding [ov] (getMethod ov m pl)
      callWith pos f first (backTo pos (starEach (e :: es) X.env)) (backToKw pos (keywordEach [] X.env))) := by rfl) :
    PE X (.Call (.Attribute o m apos) (e :: es) [] pos) (tMethX C m sp dvs E ta t) := by
  refine ⟨fun pins s σ H Q I h => ?_⟩
  refine PySem.W.methodCall_KW (pl := pl) (thn (he.run pins s σ H _ I h) fun u s1 ⟨x, H1, I1, rx, a, dx, fs, ex, ea, l, q⟩ => ?_) ht
  subst ex
  obtain rfl : u = Value.ref a := rx
  refine getmeth_ok I1 ea c hm l ?_
  exact PySem.W.callWith_K (first := [.ref a]) (h₀ := X.base) I.ok.mod.kin hm.kp (thn (ha.run pos pins s1 σ H1 _ I1 q) fun us s2 ⟨vs, H2, I2, r, q2⟩ => ⟨I2.kIn, run_fnSD (us := .ref a :: us) (vs := .ref a :: vs) F hr hb hd (hx σ) I2 (.cons rfl r) q2⟩) hst hpl

/-! ### {x} of an instance with an own __str__ -/
def tFmtO (C : Addr) (sp : Sp) (E : XK) (te : TE) : TE := fun σ H Q => te σ H fun x H1 => ∃ a dx fs, x = .ref a ∧ H1 a = some (.ins C dx fs) ∧ sp [.ref a] H1 (fun v H2 => ∃ z : Str, v = .str z ∧ Q (.str z) H2) E
theorem pe_fmtO {X : Cx} {CX : CXT} {n : Nat} {C f : Addr} {fd : FuncData} {ps : List Str} {sp : Sp} {E : XK} {e : Expr} {te : TE} {pos : Pos} (F : FnOk X.prog X.w X.K X.mg X.base CX n f fd ps sp) (hr : Room (n + 1) X.A) (hs : PySem.W.findIn X.K (.ref C) "__str__" = some (some (.ref f))) (hf : PySem.W.isFn X.K (.ref f) = true)
    (hfm : PySem.W.findIn X.K (.ref C) "__format__" = some (some (.builtin "object.__format__"))) (hm : PySem.W.mroIn X.K C (.type "object") = some true) (hb : Binds X.K fd ps []) (hx : Passes CX X E) (he : PE X e te) : PE X (.FormattedValue e (-1) none pos) (tFmtO C sp E te) := by
  refine ⟨fun pins s σ H Q I h => ?_⟩
  refine wpAny_FormattedValue_plain (thn (he.run pins s σ H _ I h) fun u s1 ⟨x, H1, I1, rx, a, dx, fs, ex, ea, q⟩ => ?_)
  subst ex
  obtain rfl : u = Value.ref a := rx
  obtain ⟨mA, O, _⟩ := ins_get I1.hok ea
  obtain ⟨od, J, _⟩ := O.look
  refine PySem.W.kfo_fieldS hr.in1.units0 I1.kIn J hfm hm hs hf (thn (at_fn F hr.in1 (I1.tok _).env0.in1 hb hx (I1.tok _) (vs := [.ref a]) (us := [.ref a]) (.cons rfl .nil) q) fun w s' z => ?_)
  obtain ⟨z', H', I', rz, y, ey, qz⟩ := z
  subst ey
  obtain ⟨t, et⟩ := (show ∃ t, w = Value.str y t from rz)
  cases et
  exact ⟨.str y, H', I', ⟨t, rfl⟩, qz⟩

/-! ### a dict of the written part, walked by its items -/
/-- the entries of a written dict, as they are told -/
def RowsE (es : Array DictEntry) (kvs : List (V × V)) : Prop := es.size = kvs.length ∧ ∀ i (h : i < es.size) k v, kvs[i]? = some (k, v) → RelV k es[i].key ∧ RelV v es[i].val
def Itw (kvs : List (V × V)) : It :=
  ⟨fun i _ => i < kvs.length, fun i H x H' => ∃ T k v, kvs[i]? = some (k, v) ∧ x = .ref T ∧ H T = none ∧ H' = upd H T (.tup [k, v]), fun i _ => kvs.length ≤ i⟩
theorem turn_written {P : Program} {w : World} {K : PySem.W.Frag} {d : Addr} {es : Array DictEntry} {ep : Nat} {kvs : List (V × V)} {elts : List Expr} {kk : Nat} {tpos : Pos} (it : Addr) (at_ : K.lookup d = some ⟨.type "dict", none, .dict es ep, #[]⟩) (R : RowsE es kvs) :
    Turn P w K (.Tuple elts kk tpos) (Itw kvs) [it] it (fun i h => ∃ ok ov, IsItemIter h it d i es.size ep ok ov) where
  mem := by simp
  obj := fun i h st b hb => by
    obtain rfl : b = it := by simpa using hb
    obtain ⟨ok, ov, e⟩ := st
    exact ⟨_, e, fun v z => nomatch z⟩
  keep := fun i h h' st k => let ⟨ok, ov, e⟩ := st; ⟨ok, ov, k it (by simp) _ e⟩
  item := by
    intro X hP hw hK hc i pins s σ H E I hf st hi
    subst hP hw hK
    obtain ⟨hz, hr⟩ := R
    have hi' : i < kvs.length := hi
    have hie : i < es.size := by omega
    obtain ⟨⟨k, v⟩, hkv⟩ : ∃ p, kvs[i]? = some p := ⟨kvs[i], List.getElem?_eq_getElem hi'⟩
    obtain ⟨rk, rv⟩ := hr i hie k v hkv
    obtain ⟨ok, ov, he⟩ := st
    have hraw : s.heap.DictRaw d es ep := ⟨_, I.kIn _ _ at_, ⟨rfl, rfl, rfl⟩, rfl⟩
    have hlt : it < s.heap.objs.size := Heap.lt_size he
    refine wpAny_pyNext_items_item_raw he hraw hie fun h' ho hT hz hk => ?_
    refine ⟨_, rfl, wpAny_letOwnedTupleGo_items (s := { s with heap := h' }) ho fun h'' he' sb => ?_⟩
    have hT2 : h''.get? s.heap.objs.size = some { cls := .type "tuple", data := .seq #[es[i].key, es[i].val] } := (sb.2 _ (Nat.ne_of_gt hlt)).trans hT
    have new : ObjOk X.prog X.w (upd H s.heap.objs.size (.tup [k, v])) h'' s.heap.objs.size (.tup [k, v]) :=
      ⟨by show 2 ≤ sizeLine; decide, [es[i].key, es[i].val], .cons rk (.cons rv .nil), ⟨_, hT2, rfl, _, rfl⟩⟩
    have I1 : Inv X pins σ (upd H s.heap.objs.size (.tup [k, v])) { s with heap := h'' } :=
      I.turnedNew (t' := s.toks) (ch := [it]) (fun b ob hb e => (sb.2 b (by simpa using hb)).trans (hk b ob (by simpa using hb) e)) hf (Nat.le_refl _) new
    refine ⟨.ref s.heap.objs.size, _, I1, rfl, ⟨_, k, v, hkv, rfl, I.hok.fresh (Nat.le_refl _), rfl⟩, ⟨es[i].key, es[i].val, he'⟩, fun b hb => ?_⟩
    obtain rfl : b = it := by simpa using hb
    rw [upd_ne (Nat.ne_of_lt hlt)]
    exact (hf b (by simp)).1
  done := by
    intro X hP hw hK hc i pins s σ H E I hf st hi
    subst hP hw hK
    obtain ⟨f0, f1, f2, f3, f4, f5⟩ := hf it (by simp)
    obtain ⟨ok, ov, he⟩ := st
    have hi' : kvs.length ≤ i := hi
    have hge : es.size ≤ i := by rw [R.1]; exact hi'
    have hraw : s.heap.DictRaw d es ep := ⟨_, I.kIn _ _ at_, ⟨rfl, rfl, rfl⟩, rfl⟩
    exact wpAny_pyNext_items_end_raw (I.ok.hd hc) he hraw hge fun h' eb => ⟨rfl, I.turned (t' := s.toks) (fun b ob hb e => eb b ob hb e) f0 f1 f3 f4 f5⟩
  self := fun A i s Q E st h => let ⟨_, _, e⟩ := st; PySem.W.kcp_self e h
def iWritten (kvs : List (V × V)) (d : Addr) (td : TE) : TI := fun σ H R => td σ H fun x H1 => x = .ref d ∧ R (Itw kvs) H1
theorem pi_written {X : Cx} {e : Expr} {td : TE} {apos cpos : Pos} {d : Addr} {es : Array DictEntry} {ep : Nat} {kvs : List (V × V)} {elts : List Expr} {kk : Nat} {tpos : Pos} (at_ : X.K.lookup d = some ⟨.type "dict", none, .dict es ep, #[]⟩) (hs : (d == sysModules) = false) (R : RowsE es kvs) (he : PE X e td)
    (hbase : attributeBase e "items" X.env (eval e X.env) = eval e X.env := by rfl) (hline : (apos.endLine == cpos.line) = true := by rfl) : PI X (.Tuple elts kk tpos) (.Call (.Attribute e "items" apos) [] [] cpos) (iWritten kvs d td) := by
  refine ⟨fun pins s σ H R0 I h => ?_⟩
  refine wpAny_Call_method (T := "dict") (id := "dict.items") hbase rfl hline F.plainAttrs_dict F.slot_dict_items F.type_dict_items (thn (he.run pins s σ H _ I h) fun u s1 ⟨x, H1, I1, rx, ex, q⟩ => ?_)
  subst ex
  obtain rfl : u = Value.ref d := rx
  have hraw : s1.heap.DictRaw d es ep := ⟨_, I1.kIn _ _ at_, ⟨rfl, rfl, rfl⟩, rfl⟩
  refine ⟨hraw.typeIs, ?_, ?_⟩
  · exact fun b q => by
      cases q
      exact ⟨_, I1.kIn _ _ at_, rfl⟩
  · have I2 : Inv X pins σ H1 { s1 with heap := s1.heap.push { cls := .type "dict_items", data := .fields #[.ref d] } } := I1.kept (t' := s1.toks) fun b ob q => Heap.get?_push_of_some _ q
    have fin : wpAny (model X.prog X.w) X.A (pyIter (.ref s1.heap.objs.size)) (PIE X pins σ (.Tuple elts kk tpos) R0) X.xe { s1 with heap := s1.heap.push { cls := .type "dict_items", data := .fields #[.ref d] } } :=
      wpAny_pyIter_items_raw (d := d) (es := es) (ep := ep) ⟨_, Heap.get?_push_size _ rfl, rfl, rfl⟩ (hraw.at fun o q => Heap.get?_push_of_some _ q) (pi_one (tk := s1.toks) I2 _ (turn_written _ at_ R) ⟨.none, .none, Heap.get?_push_size _ rfl⟩ q)
    show wpAny _ _ (callWith cpos (.builtin "dict.items") [.ref d] [] []) _ X.xe s1
    exact method_meetsIn F.slot_dict_items F.entry_dict_items rfl (PySem.evalArgs_none ⟨rfl, hraw.typeIs, F.args_dict_items_1 _, _, meets_dict_items_raw d hs, ⟨es, ep, hraw⟩, fin⟩)
theorem for_written {kvs : List (V × V)} {g : TG} {tb : TS} {D : Ends} {σ : L2.St} {H : Hp} (Pv : Nat → L2.St → Hp → Prop) (h0 : Pv 0 σ H)
    (hs : ∀ i k v σ H T H', kvs[i]? = some (k, v) → Pv i σ H → H T = none → Same H H' → H' T = some (.tup [k, v]) → g (.ref T) σ H' fun σ2 H2 => tb { D with nx := Pv (i + 1), ct := Pv (i + 1), bk := D.nx } σ2 H2) (hd : ∀ σ H, Pv kvs.length σ H → D.nx σ H) :
    ∃ W : Nat → Nat → L2.St → Hp → Prop, (∃ m, W 0 m σ H) ∧ ∀ i m σ H, W i m σ H →
      ((Itw kvs).stop i H ∧ D.nx σ H) ∨ ((Itw kvs).go i H ∧ ∃ N : L2.St → Hp → Prop, (∀ σ' H', N σ' H' → ∃ m', m' < m ∧ W (i + 1) m' σ' H') ∧ ∀ x H', (Itw kvs).yld i H x H' → g x σ H' fun σ2 H2 => tb { D with nx := N, ct := N, bk := D.nx } σ2 H2) := by
  refine ⟨fun i m σ H => m + i = kvs.length ∧ Pv i σ H, ⟨kvs.length, rfl, h0⟩, ?_⟩
  rintro i m σ H ⟨e, p⟩
  by_cases hlt : i < kvs.length
  · refine .inr ⟨hlt, Pv (i + 1), fun σ' H' p' => ⟨m - 1, by omega, by omega, p'⟩, fun x H' y => ?_⟩
    obtain ⟨T, k, v, hk, rfl, hn, rfl⟩ := y
    exact hs i k v σ H T _ hk p hn (same_upd hn) upd_same
  · obtain rfl : i = kvs.length := by omega
    exact .inl ⟨Nat.le_refl _, hd σ H p⟩
/-- the rows of a written dict, read off its entries -/
def rowsOk : List DictEntry → List (V × V) → Prop
  | [], [] => True
  | e :: es, p :: r => (RelV p.1 e.key ∧ RelV p.2 e.val) ∧ rowsOk es r
  | _, _ => False
theorem rowsOk_get : ∀ {es : List DictEntry} {r : List (V × V)}, rowsOk es r → es.length = r.length ∧ ∀ i (h : i < es.length) k v, r[i]? = some (k, v) → RelV k es[i].key ∧ RelV v es[i].val
  | [], [], _ => ⟨rfl, fun i h => absurd h (Nat.not_lt_zero _)⟩
  | e :: es, p :: r, ⟨h1, h2⟩ => ⟨congrArg (· + 1) (rowsOk_get h2).1, fun i h k v q => match i, h, q with
    | 0, _, q => by
      have z : p = (k, v) := Option.some.inj q
      subst z
      exact h1
    | i + 1, h, q => (rowsOk_get h2).2 i (Nat.lt_of_succ_lt_succ h) k v q⟩
theorem rowsE_of {es : Array DictEntry} {r : List (V × V)} (h : rowsOk es.toList r) : RowsE es r := by
  obtain ⟨l⟩ := es
  exact rowsOk_get (es := l) h

/-! ### divmod, append, by what the heap keeps -/
section
variable {X : Cx}
theorem call_divmodY : CallR X (.builtin "divmod") (fun xs H Q => ∃ i j, xs = [.int i, .int j] ∧ CDiv i j ∧ ∀ p H2, H p = none → Same H H2 → H2 p = some (.tup [.int (i / j), .int (i % j)]) → Q (.ref p) H2) :=
  fun pins s σ H xs us Q I r ⟨i, j, e, c, q⟩ => call_divmod pins s σ H xs us Q I r ⟨i, j, e, c, fun p hp => q p _ hp (same_upd hp) upd_same⟩
theorem mt_appendY : MtM X "list.append" (fun x vs H Q => ∃ l xs y, x = .ref l ∧ vs = [y] ∧ H l = some (.lst xs) ∧ xs.length < sizeLine ∧ ∀ H2, But l H H2 → H2 l = some (.lst (xs ++ [y])) → Q .non H2) :=
  fun pins s σ H x vs v us Q I rx rv ⟨l, xs, y, e1, e2, e3, e4, q⟩ => mt_append pins s σ H x vs v us Q I rx rv ⟨l, xs, y, e1, e2, e3, e4, q _ but_upd upd_same⟩
end
end Yarn

set_option Elab.async false
set_option linter.all false
set_option maxRecDepth 100000
set_option maxHeartbeats 4000000
namespace Law
open PySem PySem.Spec PyProof.Rows L2 Yarn
def top (i : Nat) : Stmt := PySem.Challenge.pw_yarnback_k02_weights_together_and_less.main.body.getD i (.Pass ⟨0, 0, 0, 0⟩)
abbrev s__law_pen : Stmt := top 7
abbrev s__law_draw : Stmt := top 8
abbrev s__law_number : Stmt := top 9
abbrev s_Weight_init : Stmt := inClass (top 4) 0
abbrev s_Weight_eq : Stmt := inClass (top 4) 1
abbrev s_written_parts : Stmt := top 5
abbrev s_Weight_str : Stmt := inClass (top 4) 2
abbrev s_Weight_plus : Stmt := inClass (top 4) 4
abbrev s_Weight_times : Stmt := inClass (top 4) 6
abbrev s_Short_init : Stmt := inClass (top 1) 0
abbrev s_Weight_less : Stmt := inClass (top 4) 5
abbrev s_law : Stmt := top 10
theorem sc__law_pen : FnScope ["script", "cell"] ["script"] (defScope s__law_pen) := ⟨rfl, rfl, rfl, by decide +kernel, rfl, by decide +kernel, by decide +kernel⟩
theorem sc__law_draw : FnScope ["pen", "a_many", "digit", "at", "cell", "number", "again"] ["pen", "a_many"] (defScope s__law_draw) := ⟨rfl, rfl, rfl, by decide +kernel, rfl, by decide +kernel, by decide +kernel⟩
theorem sc__law_number : FnScope ["pen"] ["pen"] (defScope s__law_number) := ⟨rfl, rfl, rfl, by decide +kernel, rfl, by decide +kernel, by decide +kernel⟩
theorem sc_Weight_init : FnScope ["self", "pounds", "ounces", "drams"] ["self", "pounds", "ounces", "drams"] (defScope s_Weight_init) := ⟨rfl, rfl, rfl, by decide +kernel, rfl, by decide +kernel, by decide +kernel⟩
theorem sc_Weight_eq : FnScope ["self", "other"] ["self", "other"] (defScope s_Weight_eq) := ⟨rfl, rfl, rfl, by decide +kernel, rfl, by decide +kernel, by decide +kernel⟩
theorem sc_written_parts : FnScope ["drams", "parts", "left", "unit", "worth", "many"] ["drams"] (defScope s_written_parts) := ⟨rfl, rfl, rfl, by decide +kernel, rfl, by decide +kernel, by decide +kernel⟩
theorem sc_Weight_str : FnScope ["self"] ["self"] (defScope s_Weight_str) := ⟨rfl, rfl, rfl, by decide +kernel, rfl, by decide +kernel, by decide +kernel⟩
theorem sc_Weight_plus : FnScope ["self", "other"] ["self", "other"] (defScope s_Weight_plus) := ⟨rfl, rfl, rfl, by decide +kernel, rfl, by decide +kernel, by decide +kernel⟩
theorem sc_Weight_times : FnScope ["self", "many"] ["self", "many"] (defScope s_Weight_times) := ⟨rfl, rfl, rfl, by decide +kernel, rfl, by decide +kernel, by decide +kernel⟩
theorem sc_Short_init : FnScope ["self", "by"] ["self", "by"] (defScope s_Short_init) := ⟨rfl, rfl, rfl, by decide +kernel, rfl, by decide +kernel, by decide +kernel⟩
theorem sc_Weight_less : FnScope ["self", "other"] ["self", "other"] (defScope s_Weight_less) := ⟨rfl, rfl, rfl, by decide +kernel, rfl, by decide +kernel, by decide +kernel⟩
theorem sc_law : FnScope ["script", "pen", "turn", "one", "other", "a_many", "first", "second", "wrong", "left", "e"] ["script"] (defScope s_law) := ⟨rfl, rfl, rfl, by decide +kernel, rfl, by decide +kernel, by decide +kernel⟩
def fs_Short (v_by : V) : List (Str × V) := putF "by" v_by ([])
theorem fs_Short_by (v_by : V) : (fs_Short v_by).lookup ("by" : Str) = some v_by := by
  unfold fs_Short
  rw [lookup_putF, if_pos rfl]
theorem fs_Short_no (v_by : V) {m : Str} (h_by : ¬ m = "by") : (fs_Short v_by).lookup m = none := by
  unfold fs_Short
  rw [lookup_putF, if_neg h_by]
  all_goals rfl
def fs_Weight (v_drams : V) : List (Str × V) := putF "drams" v_drams ([])
theorem fs_Weight_drams (v_drams : V) : (fs_Weight v_drams).lookup ("drams" : Str) = some v_drams := by
  unfold fs_Weight
  rw [lookup_putF, if_pos rfl]
theorem fs_Weight_no (v_drams : V) {m : Str} (h_drams : ¬ m = "drams") : (fs_Weight v_drams).lookup m = none := by
  unfold fs_Weight
  rw [lookup_putF, if_neg h_drams]
  all_goals rfl
structure Txt (K : PySem.W.Frag) (mg : Str → Option Value) where
  C_Short : Addr
  C_Weight : Addr
  f__law_pen : Addr
  fd__law_pen : FuncData
  f__law_draw : Addr
  fd__law_draw : FuncData
  f__law_number : Addr
  fd__law_number : FuncData
  f_Weight_init : Addr
  fd_Weight_init : FuncData
  f_Weight_eq : Addr
  fd_Weight_eq : FuncData
  f_written_parts : Addr
  fd_written_parts : FuncData
  f_Weight_str : Addr
  fd_Weight_str : FuncData
  f_Weight_plus : Addr
  fd_Weight_plus : FuncData
  f_Weight_times : Addr
  fd_Weight_times : FuncData
  f_Short_init : Addr
  fd_Short_init : FuncData
  f_Weight_less : Addr
  fd_Weight_less : FuncData
  f_law : Addr
  fd_law : FuncData
  mgc_Short : mg "Short" = some (.ref C_Short)
  er_Short : ErrC K C_Short "ArithmeticError" "ArithmeticError.__new__" "ArithmeticError.__init__" [.type "ArithmeticError", .type "Exception", .type "BaseException", .type "object"]
  ea_Short : ErrA K C_Short
  te_Short : PySem.W.exmOne K (.ref C_Short) (.ref C_Short) = some true
  na_Short_by : PySem.W.findIn K (.ref C_Short) "by" = some none
  ti_Short_init : PySem.W.typeIn K (.ref f_Short_init) = some (.type "function")
  ke_Short_ZeroDivisionError : PySem.W.kitOne K (.ref C_Short) (.type "ZeroDivisionError") = some false
  ke_Short_ArithmeticError : PySem.W.kitOne K (.ref C_Short) (.type "ArithmeticError") = some true
  vi_ArithmeticError : PySem.W.findCls K (.type "ArithmeticError") (.type "type") "__init__" = some (.val (.builtin "ArithmeticError.__init__"))
  mgc_Weight : mg "Weight" = some (.ref C_Weight)
  cl_Weight : Cls K C_Weight
  na_Weight_drams : NoAttr K C_Weight "drams"
  mk_Weight : Mk K C_Weight f_Weight_init
  ne_Weight : PySem.W.findIn K (.ref C_Weight) "__ne__" = some (some (.builtin "object.__ne__"))
  fo_Weight : PySem.W.findIn K (.ref C_Weight) "__format__" = some (some (.builtin "object.__format__"))
  ha_Weight : PySem.W.findIn K (.ref C_Weight) "__class__" = some (some (.builtin "object.__class__"))
  mo_Weight : PySem.W.mroIn K C_Weight (.type "object") = some true
  nF_Weight_own : PySem.W.notFirst K C_Weight (.ref C_Weight) = true
  nF_Weight_NoneType : PySem.W.notFirst K C_Weight (.type "NoneType") = true
  ki_Weight_own : PySem.W.kitOne K (.ref C_Weight) (.ref C_Weight) = some true
  ki_Weight_NoneType : PySem.W.kitOne K (.type "NoneType") (.ref C_Weight) = some false
  hn : PySem.W.specialIn K (.builtin "object.__class__") "__get__" = some (some (.builtin "getset_descriptor.__get__"))
  ht : PySem.W.takesIn K (.builtin "object.__class__") = some true
  mg__law_pen : mg "_law_pen" = some (.ref f__law_pen)
  F__law_pen : FunD K "_law_pen" "_law_pen" (defArgs s__law_pen) (defBody s__law_pen) (defScope s__law_pen) [] [] f__law_pen fd__law_pen
  mg__law_draw : mg "_law_draw" = some (.ref f__law_draw)
  F__law_draw : FunD K "_law_draw" "_law_draw" (defArgs s__law_draw) (defBody s__law_draw) (defScope s__law_draw) [] [] f__law_draw fd__law_draw
  mg__law_number : mg "_law_number" = some (.ref f__law_number)
  F__law_number : FunD K "_law_number" "_law_number" (defArgs s__law_number) (defBody s__law_number) (defScope s__law_number) [] [] f__law_number fd__law_number
  m_Weight_init : Meth K C_Weight "__init__" f_Weight_init
  F_Weight_init : FunD K "__init__" "Weight.__init__" (defArgs s_Weight_init) (defBody s_Weight_init) (defScope s_Weight_init) [.int 0, .int 0, .int 0] [] f_Weight_init fd_Weight_init
  m_Weight_eq : Meth K C_Weight "__eq__" f_Weight_eq
  F_Weight_eq : FunD K "__eq__" "Weight.__eq__" (defArgs s_Weight_eq) (defBody s_Weight_eq) (defScope s_Weight_eq) [] [] f_Weight_eq fd_Weight_eq
  mg_written_parts : mg "written_parts" = some (.ref f_written_parts)
  F_written_parts : FunD K "written_parts" "written_parts" (defArgs s_written_parts) (defBody s_written_parts) (defScope s_written_parts) [] [] f_written_parts fd_written_parts
  m_Weight_str : Meth K C_Weight "__str__" f_Weight_str
  F_Weight_str : FunD K "__str__" "Weight.__str__" (defArgs s_Weight_str) (defBody s_Weight_str) (defScope s_Weight_str) [] [] f_Weight_str fd_Weight_str
  m_Weight_plus : Meth K C_Weight "plus" f_Weight_plus
  F_Weight_plus : FunD K "plus" "Weight.plus" (defArgs s_Weight_plus) (defBody s_Weight_plus) (defScope s_Weight_plus) [] [] f_Weight_plus fd_Weight_plus
  m_Weight_times : Meth K C_Weight "times" f_Weight_times
  F_Weight_times : FunD K "times" "Weight.times" (defArgs s_Weight_times) (defBody s_Weight_times) (defScope s_Weight_times) [.int 2] [] f_Weight_times fd_Weight_times
  m_Short_init : Meth K C_Short "__init__" f_Short_init
  F_Short_init : FunD K "__init__" "Short.__init__" (defArgs s_Short_init) (defBody s_Short_init) (defScope s_Short_init) [] [] f_Short_init fd_Short_init
  m_Weight_less : Meth K C_Weight "less" f_Weight_less
  F_Weight_less : FunD K "less" "Weight.less" (defArgs s_Weight_less) (defBody s_Weight_less) (defScope s_Weight_less) [] [] f_Weight_less fd_Weight_less
  mg_law : mg "law" = some (.ref f_law)
  F_law : FunD K "law" "law" (defArgs s_law) (defBody s_law) (defScope s_law) [] [] f_law fd_law
  b_ArithmeticError : mg "ArithmeticError" = none
  b_ZeroDivisionError : mg "ZeroDivisionError" = none
  b_abs : mg "abs" = none
  b_divmod : mg "divmod" = none
  b_isinstance : mg "isinstance" = none
  b_len : mg "len" = none
  b_max : mg "max" = none
  b_min : mg "min" = none
  b_range : mg "range" = none
  PP : Params
  D_DRAMS_IN : Addr
  es_DRAMS_IN : Array DictEntry
  n_DRAMS_IN : Nat
  gd_DRAMS_IN : mg "DRAMS_IN" = some (.ref D_DRAMS_IN)
  lD_DRAMS_IN : K.lookup D_DRAMS_IN = some ⟨.type "dict", none, .dict es_DRAMS_IN n_DRAMS_IN, #[]⟩
  lo_DRAMS_IN : (D_DRAMS_IN == sysModules) = false
  kl_DRAMS_IN : PySem.W.KeysLit PP es_DRAMS_IN.toList
  nD_DRAMS_IN_lb : ∃ u, PySem.W.nsIn K D_DRAMS_IN "lb" = some (some u) ∧ RelV (.int 256) u
  nD_DRAMS_IN_oz : ∃ u, PySem.W.nsIn K D_DRAMS_IN "oz" = some (some u) ∧ RelV (.int 16) u
  nD_DRAMS_IN_dr : ∃ u, PySem.W.nsIn K D_DRAMS_IN "dr" = some (some u) ∧ RelV (.int 1) u
  ro_DRAMS_IN : RowsE es_DRAMS_IN [(.str "lb", .int 256), (.str "oz", .int 16), (.str "dr", .int 1)]
section
variable {P : Program} {w : World} {K : PySem.W.Frag} {mg : Str → Option Value} {base : Heap}
theorem Txt.kd_DRAMS_IN_lb (T : Txt K mg) (hw : T.PP = w.params) : KDct K w T.D_DRAMS_IN "lb" (.int 256) := by
  obtain ⟨u, e, r⟩ := T.nD_DRAMS_IN_lb
  exact ⟨T.es_DRAMS_IN, T.n_DRAMS_IN, u, T.lD_DRAMS_IN, hw ▸ T.kl_DRAMS_IN, e, r⟩
theorem Txt.kd_DRAMS_IN_oz (T : Txt K mg) (hw : T.PP = w.params) : KDct K w T.D_DRAMS_IN "oz" (.int 16) := by
  obtain ⟨u, e, r⟩ := T.nD_DRAMS_IN_oz
  exact ⟨T.es_DRAMS_IN, T.n_DRAMS_IN, u, T.lD_DRAMS_IN, hw ▸ T.kl_DRAMS_IN, e, r⟩
theorem Txt.kd_DRAMS_IN_dr (T : Txt K mg) (hw : T.PP = w.params) : KDct K w T.D_DRAMS_IN "dr" (.int 1) := by
  obtain ⟨u, e, r⟩ := T.nD_DRAMS_IN_dr
  exact ⟨T.es_DRAMS_IN, T.n_DRAMS_IN, u, T.lD_DRAMS_IN, hw ▸ T.kl_DRAMS_IN, e, r⟩
theorem Txt.b__law_pen (T : Txt K mg) : Binds K T.fd__law_pen ["script"] [] := T.F__law_pen.bindsN (ps := ["script"]) fun _ _ _ _ _ _ us hl => match us, hl with | [_], _ => rfl
theorem Txt.b__law_draw (T : Txt K mg) : Binds K T.fd__law_draw ["pen", "a_many"] [] := T.F__law_draw.bindsN (ps := ["pen", "a_many"]) fun _ _ _ _ _ _ us hl => match us, hl with | [_, _], _ => rfl
theorem Txt.b__law_number (T : Txt K mg) : Binds K T.fd__law_number ["pen"] [] := T.F__law_number.bindsN (ps := ["pen"]) fun _ _ _ _ _ _ us hl => match us, hl with | [_], _ => rfl
theorem Txt.b_Weight_eq (T : Txt K mg) : Binds K T.fd_Weight_eq ["self", "other"] [] := T.F_Weight_eq.bindsN (ps := ["self", "other"]) fun _ _ _ _ _ _ us hl => match us, hl with | [_, _], _ => rfl
theorem Txt.b_written_parts (T : Txt K mg) : Binds K T.fd_written_parts ["drams"] [] := T.F_written_parts.bindsN (ps := ["drams"]) fun _ _ _ _ _ _ us hl => match us, hl with | [_], _ => rfl
theorem Txt.b_Weight_str (T : Txt K mg) : Binds K T.fd_Weight_str ["self"] [] := T.F_Weight_str.bindsN (ps := ["self"]) fun _ _ _ _ _ _ us hl => match us, hl with | [_], _ => rfl
theorem Txt.b_Weight_plus (T : Txt K mg) : Binds K T.fd_Weight_plus ["self", "other"] [] := T.F_Weight_plus.bindsN (ps := ["self", "other"]) fun _ _ _ _ _ _ us hl => match us, hl with | [_, _], _ => rfl
theorem Txt.b_Short_init (T : Txt K mg) : Binds K T.fd_Short_init ["self", "by"] [] := T.F_Short_init.bindsN (ps := ["self", "by"]) fun _ _ _ _ _ _ us hl => match us, hl with | [_, _], _ => rfl
theorem Txt.b_Weight_less (T : Txt K mg) : Binds K T.fd_Weight_less ["self", "other"] [] := T.F_Weight_less.bindsN (ps := ["self", "other"]) fun _ _ _ _ _ _ us hl => match us, hl with | [_, _], _ => rfl
theorem Txt.b_law (T : Txt K mg) : Binds K T.fd_law ["script"] [] := T.F_law.bindsN (ps := ["script"]) fun _ _ _ _ _ _ us hl => match us, hl with | [_], _ => rfl
def g_bd_Weight_init_0_drams {α : Type} (us its ws : List α) : List α := (us.drop 0).take 1 ++ ((its.drop 0).take 1 ++ ((its.drop 1).take 1 ++ ((ws.drop 0).take 1)))
theorem bd_Weight_init_0_drams (T : Txt K mg) : ∃ its : List Value, KBn K T.fd_Weight_init ["self", "pounds", "ounces", "drams"] 1 ["drams"] (fun us ws => g_bd_Weight_init_0_drams us its ws) (fun vs zs => g_bd_Weight_init_0_drams vs [.int 0, .int 0, .int 0] zs) :=
  T.F_Weight_init.kbindsD (ps := ["self", "pounds", "ounces", "drams"]) 1 ["drams"] (fun us its ws => g_bd_Weight_init_0_drams us its ws) (by simp) (fun r1 r2 r3 => ((r1.drop 0).take 1).append (((r2.drop 0).take 1).append (((r2.drop 1).take 1).append ((r3.drop 0).take 1))))
    fun _ _ _ _ _ _ _ us its ws h1 h2 h3 => match us, h1, its, h2, ws, h3 with | [_], _, [_, _, _], _, [_], _ => ⟨_, rfl, rfl⟩
theorem bd_Weight_times_0 (T : Txt K mg) : ∃ ds, Vals [.int 2] ds ∧ Binds K T.fd_Weight_times ["self", "many"] ds := T.F_Weight_times.binds1 (ps := ["self", "many"]) 1 0 (by simp) rfl fun _ _ _ _ _ _ _ us its hl hi => match us, hl, its, hi with | [_], _, [_], _ => ⟨_, rfl, rfl⟩
def g_bd_Weight_times_0_many {α : Type} (us its ws : List α) : List α := (us.drop 0).take 1 ++ ((ws.drop 0).take 1)
theorem bd_Weight_times_0_many (T : Txt K mg) : ∃ its : List Value, KBn K T.fd_Weight_times ["self", "many"] 1 ["many"] (fun us ws => g_bd_Weight_times_0_many us its ws) (fun vs zs => g_bd_Weight_times_0_many vs [.int 2] zs) :=
  T.F_Weight_times.kbindsD (ps := ["self", "many"]) 1 ["many"] (fun us its ws => g_bd_Weight_times_0_many us its ws) (by simp) (fun r1 r2 r3 => ((r1.drop 0).take 1).append ((r3.drop 0).take 1))
    fun _ _ _ _ _ _ _ us its ws h1 h2 h3 => match us, h1, its, h2, ws, h3 with | [_], _, [_], _, [_], _ => ⟨_, rfl, rfl⟩
theorem bd_Weight_times_1 (T : Txt K mg) : ∃ ds, Vals [] ds ∧ Binds K T.fd_Weight_times ["self", "many"] ds := T.F_Weight_times.binds1 (ps := ["self", "many"]) 2 1 (by simp) rfl fun _ _ _ _ _ _ _ us its hl hi => match us, hl, its, hi with | [_, _], _, [_], _ => ⟨_, rfl, rfl⟩
def sp__law_pen (T : Txt K mg) : Sp := fun vs H Q _ => spPen K vs H Q (fun _ _ _ => False)
theorem ok__law_pen (T : Txt K mg) (hw : T.PP = w.params) : FnOk P w K mg base CX0 2 T.f__law_pen T.fd__law_pen ["script"] (sp__law_pen T) := by
  refine okD T.F__law_pen sc__law_pen (fun vs H Q E h => ?_) (fun cdv A outer s H vs Q E hr h => ?_)
  · obtain ⟨_, _, rfl, _⟩ := h; rfl
  · have hu := hu_of hr
    have hu64 := hr.units
    refine ⟨_, pss_one (ps_ret (pe_disp (pps_cons pe_str (pe_lc (own := [("cell", 1)]) (by rfl) sc__law_pen.nd (pi_list (pe_slice sl_list (pv 0) po_none (po_some pe_int))) (blkOk_by (own := [("cell", 1)]) (N := ["script", "cell"]) (sc := defScope s__law_pen) (by decide +kernel)) (fun _ _ _ _ _ => pg_name (i := 1) sc__law_pen.nd rfl (Or.inl rfl)) (fun _ _ _ _ _ => pts_nil) (fun _ _ _ _ _ => pv 1)) (pps_cons pe_str pe_int (pps_cons pe_str pe_int pps_nil))) (by rfl) (by rfl) (fun z => by cases z) (by decide))), ?_⟩
    obtain ⟨a, ns, rfl, hS, hlen, k⟩ := h
    intro p np
    have s0 : Same H (upd H p (.dK [])) := same_upd np
    refine ⟨_, rfl, _, rfl, a, _, rfl, s0.seq hS, ?_⟩
    intro q0 nq0
    obtain ⟨ms, ems, hms⟩ := cut_ints ns none (some 63)
    generalize hH1 : upd (upd H p (.dK [])) q0 (.lst (cutV (ns.map V.int) none (some 63))) = H1
    have s1 : Same (upd H p (.dK [])) H1 := by rw [← hH1]; exact same_upd nq0
    have e1 : H1 q0 = some (.lst (ms.map V.int)) := by rw [← hH1, ← ems]; exact upd_same
    have p1 : H1 p = some (.dK []) := s1 _ _ upd_same
    clear hH1
    refine ⟨q0, rfl, ⟨_, SqL.of e1⟩, fun D nD => ?_⟩
    refine lc_list (K := K) (a := q0) (xs := ms.map V.int) (fun i H' => ∃ acc : List Int, H' D = some (.lst (acc.map V.int)) ∧ acc.length ≤ i ∧ But D H1 H') ⟨[], upd_same, Nat.le_refl _, but_upd⟩
      (fun i H' hi ⟨acc, h1, h2, h3⟩ => SqL.of (h3 _ _ (ne_of_none e1 nD) e1)) ?_ ?_
    · rintro i x H' hi ⟨acc, h1, h2, h3⟩
      obtain ⟨n, hn, rfl⟩ := get_int hi
      refine ⟨rfl, ?_⟩
      have hil := (List.getElem?_eq_some_iff.mp hn).1
      refine ⟨_, rfl, _, h1, by rw [List.length_map]; exact small1000 (by omega), acc ++ [n], ?_, by rw [List.length_append]; exact Nat.add_le_add_right h2 1, h3.trans but_upd⟩
      rw [List.map_append]
      exact upd_same
    · rintro H' ⟨acc, h1, h2, h3⟩
      have p2 : H' p = some (.dK []) := h3 _ _ (ne_of_none p1 nD) p1
      rw [List.length_map] at h2
      refine ⟨p2, penD D 0 0, rfl, by show 3 ≤ 15; decide, ?_⟩
      have nDp : D ≠ p := fun e => by rw [e, p1] at nD; cases nD
      have sH : Same H (upd H' p (.dK (mergeK [] (penD D 0 0)))) := fun b o e => by
        rw [upd_ne (ne_of_none e np)]
        exact h3 _ _ (ne_of_none (s1 _ _ (s0 _ _ e)) nD) (s1 _ _ (s0 _ _ e))
      have mg3 : mergeK [] (penD D 0 0) = penD D 0 0 := pen_merge D
      rw [mg3] at sH ⊢
      exact k p _ np sH ⟨D, acc, 0, 0, upd_same, by rw [upd_ne nDp]; exact h1, by omega, Int.le_refl _, Int.le_refl _, Int.le_refl _⟩
def sp__law_draw (T : Txt K mg) : Sp := fun vs H Q _ => spDraw vs H Q (fun _ _ _ => False)
theorem ok__law_draw (T : Txt K mg) (hw : T.PP = w.params) : FnOk P w K mg base CX0 2 T.f__law_draw T.fd__law_draw ["pen", "a_many"] (sp__law_draw T) := by
  refine okD T.F__law_draw sc__law_draw (fun vs H Q E h => ?_) (fun cdv A outer s H vs Q E hr h => ?_)
  · obtain ⟨_, _, _, rfl, _⟩ := h; rfl
  · have hu := hu_of hr
    have hu64 := hr.units
    refine ⟨_, pss_cons (ps_if (pt_cmpR op_gt (pe_dget hu (pv 0) pe_str (fun _ _ => rfl)) pe_int (nomark _)) (pss_cons (ps_set (i := 2) sc__law_draw.nd rfl (Or.inl rfl) (pe_op op_mod (pe_dget hu (pv 0) pe_str (fun _ _ => rfl)) (pv 1)))
      (pss_cons (ps_dput hu (pv 0) pe_str (pe_op op_fdivY (pe_dget hu (pv 0) pe_str (fun _ _ => rfl)) (pv 1)) rfl)
      (pss_one (ps_ret (pv 2))))) pss_nil)
      (pss_cons (ps_set (i := 3) sc__law_draw.nd rfl (Or.inl rfl) (pe_dget hu (pv 0) pe_str (fun _ _ => rfl)))
      (pss_cons (ps_dput hu (pv 0) pe_str (pe_op op_add (pv 3) pe_int) rfl)
      (pss_cons (ps_set (i := 4) sc__law_draw.nd rfl (Or.inl rfl) (pe_op op_add (pe_op op_mul (pv 3) (pv 3)) pe_int))
      (pss_cons (ps_if (pt_cmpR (op_neD hu64) (pe_dget hu (pv 0) pe_str (fun _ _ => rfl)) (pe_lstY pa_nil) (nomark _)) (pss_one (ps_set (i := 4) sc__law_draw.nd rfl (Or.inl rfl) (pe_ix ix_list (pe_dget hu (pv 0) pe_str (fun _ _ => rfl)) (pe_op op_mod (pv 3) (pe_callB call_len_seq (by rfl) T.b_len PySem.boot_len (pa_cons (pe_dget hu (pv 0) pe_str (fun _ _ => rfl)) pa_nil))) (fun _ _ => rfl)))) pss_nil)
      (pss_cons (ps_if (PW.pt (pw_and (pt_cmpR op_lt (pv 3) (pe_callB call_len_seq (by rfl) T.b_len PySem.boot_len (pa_cons (pe_dget hu (pv 0) pe_str (fun _ _ => rfl)) pa_nil)) (nomark _)) (pw_and1 (pt_cmpR op_ge (pe_callB call_abs (by rfl) T.b_abs (by decide +kernel) (pa_cons (pv 4) pa_nil)) (pe_op op_pow pe_int pe_int) (nomark _))))) (pss_cons (ps_dput hu (pv 0) pe_str (pe_op op_fdivY (pe_callB call_abs (by rfl) T.b_abs (by decide +kernel) (pa_cons (pv 4) pa_nil)) (pv 1)) rfl)
      (pss_one (ps_ret (pe_op op_mod (pe_callB call_abs (by rfl) T.b_abs (by decide +kernel) (pa_cons (pv 4) pa_nil)) (pv 1))))) pss_nil)
      (pss_cons (ps_set (i := 5) sc__law_draw.nd rfl (Or.inl rfl) (pe_op op_mod (pe_op op_mul (pe_op op_add (pe_op op_add (pe_op op_mod (pv 4) pe_int) (pe_op op_mul pe_int (pv 3))) pe_int) pe_int) pe_int))
      (pss_cons (ps_for PassesOwn.never rfl (pi_range1 (by rfl) T.b_range (pa_cons pe_int pa_nil)) (pg_name (i := 6) sc__law_draw.nd rfl (Or.inl rfl)) (pss_cons (ps_set (i := 5) sc__law_draw.nd rfl (Or.inl rfl) (pe_op op_add (pe_op op_add (pe_op op_add (pe_op op_mul (pv 5) (pv 5)) (pe_op op_mul pe_int (pv 5))) (pv 3)) (pv 6)))
      (pss_one (ps_set (i := 5) sc__law_draw.nd rfl (Or.inl rfl) (pe_op op_mod (pv 5) pe_int)))))
      (pss_one (ps_ret (pe_op op_mod (pe_op op_fdivY (pv 5) pe_int) (pv 1))))))))))), ?_⟩
    obtain ⟨p, m, n, rfl, hP, hn, hm, hm2, k⟩ := h
    obtain ⟨c, ns, a, l, hd, hc, hlen, ha, han, hl⟩ := hP.ex
    have gl : ∀ H' : Hp, H' p = some (.dK (penD c a l)) → DGet H' p (.str "left") (some (.int l)) := fun H' e => by have z := DGet.k (k := Sum.inr "left") e; rw [pen_left] at z; exact z
    have ga : ∀ H' : Hp, H' p = some (.dK (penD c a l)) → DGet H' p (.str "at") (some (.int a)) := fun H' e => by have z := DGet.k (k := Sum.inr "at") e; rw [pen_at] at z; exact z
    have gc : ∀ (H' : Hp) x y, H' p = some (.dK (penD c x y)) → DGet H' p (.str "cells") (some (.ref c)) := fun H' x y e => by have z := DGet.k (k := Sum.inr "cells") e; rw [pen_cells] at z; exact z
    have ncp : c ≠ p := fun e => by rw [e, hd] at hc; cases hc
    have dl : ∀ (H' : Hp) x y z, H' p = some (.dK (penD c x y)) → DPut H' p (.str "left") (.int z) (upd H' p (.dK (penD c x z))) := fun H' x y z e => by
      have w := DPut.k (k := Sum.inr "left") (v := .int z) e (by show 3 < sizeLine; decide)
      rw [put_left] at w; exact w
    have da : ∀ (H' : Hp) x y z, H' p = some (.dK (penD c x y)) → DPut H' p (.str "at") (.int z) (upd H' p (.dK (penD c z y))) := fun H' x y z e => by
      have w := DPut.k (k := Sum.inr "at") (v := .int z) e (by show 3 < sizeLine; decide)
      rw [put_at] at w; exact w
    have fin : ∀ (d x y : Int) (H' : Hp), But p H H' → H' p = some (.dK (penD c x y)) → 0 ≤ x → x ≤ n + 1 → 0 ≤ y → 0 ≤ d → d < m → Q (.int d) H' := fun d x y H' b e h1 h2 h3 h4 h5 =>
      k d H' h4 h5 ⟨c, ns, x, y, e, b _ _ ncp hc, hlen, h1, h2, h3⟩ b (hP.kp b)
    refine ⟨_, rfl, p, _, rfl, gl _ hd, _, _, rfl, rfl, _, rfl, ?_⟩
    refine iteD (fun hl0 => ?_) (fun hl0 => ?_)
    · refine ⟨_, rfl, p, _, rfl, gl _ hd, _, rfl, _, _, rfl, rfl, hm, ?_⟩
      refine ⟨_, rfl, p, _, rfl, gl _ hd, _, rfl, _, _, rfl, rfl, ⟨hm, by omega⟩, ?_⟩
      refine ⟨_, rfl, p, _, rfl, dl _ _ _ _ hd, _, rfl, ?_⟩
      exact fin _ _ _ _ but_upd upd_same ha (by omega) (Int.ediv_nonneg hl (by omega)) (Int.emod_nonneg _ (by omega)) (Int.emod_lt_of_pos _ hm)
    · refine ⟨_, rfl, p, _, rfl, ga _ hd, ?_⟩
      refine ⟨_, rfl, _, _, rfl, rfl, _, rfl, p, _, rfl, da _ _ _ _ hd, ?_⟩
      generalize hH1 : upd H p (.dK (penD c (a + 1) l)) = H1
      have b1 : But p H H1 := by rw [← hH1]; exact but_upd
      have e1 : H1 p = some (.dK (penD c (a + 1) l)) := by rw [← hH1]; exact upd_same
      clear hH1
      have hc1 := b1 _ _ ncp hc
      have hsz : ns.length < sizeLine := Nat.lt_of_le_of_lt hlen (by decide)
      refine ⟨_, rfl, _, rfl, _, _, rfl, rfl, .inl ⟨by omega, by omega⟩, _, _, rfl, rfl, ?_⟩
      refine ⟨_, rfl, p, _, rfl, gc _ _ _ e1, Nat.zero_le _, fun q H2 nq s2 e2 => ?_⟩
      have e1' := s2 _ _ e1
      have hc2 := s2 _ _ hc1
      have b2 : But p H H2 := b1.trans (same_but s2)
      refine ⟨_, _, .lst (SqL.of hc2) (dp_ints ns), .lst (SqL.of e2) .nil, shaped_ints ns, shaped_nil, _, rfl, ?_⟩
      refine iteNe (fun hne => ?g1) (fun hne => ?g2)
      case' g1 =>
        have hpos : 0 < ns.length := by cases ns with | nil => exact absurd rfl hne | cons x r => simp
        have h0 : (0 : Int) ≤ a % (ns.length : Int) := Int.emod_nonneg _ (by omega)
        have h1 : a % (ns.length : Int) < (ns.length : Int) := Int.emod_lt_of_pos _ (by omega)
        obtain ⟨z, hz⟩ := atI_int (xs := ns.map V.int) rfl h0 h1
        refine ⟨_, rfl, p, _, rfl, gc _ _ _ e1', _, rfl, _, rfl, p, _, rfl, gc _ _ _ e1', c, _, rfl, .inl (SqL.of hc2), _, _, rfl, rfl, (by rw [List.length_map]; show (0 : Int) < (ns.length : Int); omega), c, _, _, _, rfl, rfl, SqL.of hc2, (by rw [List.length_map]; exact hz), ?_⟩
      all_goals
        -- the place is within the list, and the number great: its digits
        refine ⟨_, rfl, _, rfl, p, _, rfl, gc _ _ _ e1', c, _, rfl, .inl (SqL.of hc2), _, _, rfl, rfl, _, rfl, ?_⟩
        refine iteD (fun h1 => ?_) (fun h1 => ?_)
        · refine ⟨_, rfl, _, rfl, _, _, rfl, rfl, ⟨by decide, by decide, by decide⟩, _, _, rfl, rfl, _, rfl, ?_⟩
          refine iteD (fun h2 => ?_) (fun h2 => ?_)
          · refine ⟨_, rfl, _, rfl, _, rfl, _, _, rfl, rfl, ⟨hm, by omega⟩, _, rfl, p, _, rfl, dl _ _ _ _ e1', ?_⟩
            refine ⟨_, rfl, _, rfl, _, rfl, _, _, rfl, rfl, hm, ?_⟩
            exact fin _ _ _ _ (b2.trans but_upd) upd_same (by omega) (by omega) (Int.ediv_nonneg (absI _) (by omega)) (Int.emod_nonneg _ (by omega)) (Int.emod_lt_of_pos _ hm)
          · skip
            refine ⟨_, rfl, _, _, rfl, rfl, by show (0 : Int) < 4294967311; decide, _, rfl, _, _, rfl, rfl, .inl ⟨by decide, by decide⟩, _, _, rfl, rfl, _, _, rfl, rfl, _, _, rfl, rfl, .inr ⟨by decide, by decide⟩, _, _, rfl, rfl, by show (0 : Int) < 4294967311; decide, ?_⟩
            refine ⟨3, rfl, by decide, by decide, for_range (n := 3) (fun i σ H' => ∃ (v : Option V) (x : Int) (y z : Option V), σ = [some (.ref p), some (.int m), v, some (.int a), z, some (.int x), y] ∧ H' = H2 ∧ 0 ≤ x ∧ x < 4294967311)
              ⟨_, _, _, _, rfl, rfl, Int.emod_nonneg _ (by decide), Int.emod_lt_of_pos _ (by decide)⟩ ?_ ?_⟩
            · rintro i σ H' hi ⟨v, x, y, z, rfl, rfl, hx0, hx1⟩
              refine ⟨_, rfl, _, rfl, _, _, rfl, rfl, .inl ⟨by omega, by omega⟩, _, rfl, _, _, rfl, rfl, .inl ⟨by decide, by decide⟩, _, _, rfl, rfl, _, rfl, _, _, rfl, rfl, _, rfl, _, _, rfl, rfl, ?_⟩
              refine ⟨_, rfl, _, _, rfl, rfl, by show (0 : Int) < 4294967311; decide, ?_⟩
              exact ⟨_, _, _, _, rfl, rfl, Int.emod_nonneg _ (by decide), Int.emod_lt_of_pos _ (by decide)⟩
            · rintro σ H' ⟨v, x, y, z, rfl, rfl, hx0, hx1⟩
              refine ⟨_, rfl, _, _, rfl, rfl, ⟨by decide, by decide⟩, _, rfl, _, _, rfl, rfl, hm, ?_⟩
              exact fin _ _ _ _ b2 e1' (by omega) (by omega) hl (Int.emod_nonneg _ (by omega)) (Int.emod_lt_of_pos _ hm)
        · skip
          refine ⟨_, rfl, _, _, rfl, rfl, by show (0 : Int) < 4294967311; decide, _, rfl, _, _, rfl, rfl, .inl ⟨by decide, by decide⟩, _, _, rfl, rfl, _, _, rfl, rfl, _, _, rfl, rfl, .inr ⟨by decide, by decide⟩, _, _, rfl, rfl, by show (0 : Int) < 4294967311; decide, ?_⟩
          refine ⟨3, rfl, by decide, by decide, for_range (n := 3) (fun i σ H' => ∃ (v : Option V) (x : Int) (y z : Option V), σ = [some (.ref p), some (.int m), v, some (.int a), z, some (.int x), y] ∧ H' = H2 ∧ 0 ≤ x ∧ x < 4294967311)
            ⟨_, _, _, _, rfl, rfl, Int.emod_nonneg _ (by decide), Int.emod_lt_of_pos _ (by decide)⟩ ?_ ?_⟩
          · rintro i σ H' hi ⟨v, x, y, z, rfl, rfl, hx0, hx1⟩
            refine ⟨_, rfl, _, rfl, _, _, rfl, rfl, .inl ⟨by omega, by omega⟩, _, rfl, _, _, rfl, rfl, .inl ⟨by decide, by decide⟩, _, _, rfl, rfl, _, rfl, _, _, rfl, rfl, _, rfl, _, _, rfl, rfl, ?_⟩
            refine ⟨_, rfl, _, _, rfl, rfl, by show (0 : Int) < 4294967311; decide, ?_⟩
            exact ⟨_, _, _, _, rfl, rfl, Int.emod_nonneg _ (by decide), Int.emod_lt_of_pos _ (by decide)⟩
          · rintro σ H' ⟨v, x, y, z, rfl, rfl, hx0, hx1⟩
            refine ⟨_, rfl, _, _, rfl, rfl, ⟨by decide, by decide⟩, _, rfl, _, _, rfl, rfl, hm, ?_⟩
            exact fin _ _ _ _ b2 e1' (by omega) (by omega) hl (Int.emod_nonneg _ (by omega)) (Int.emod_lt_of_pos _ hm)
def sp__law_number (T : Txt K mg) : Sp := fun vs H Q _ => spNumber vs H Q (fun _ _ _ => False)
theorem ok__law_number (T : Txt K mg) (hw : T.PP = w.params) : FnOk P w K mg base CX0 3 T.f__law_number T.fd__law_number ["pen"] (sp__law_number T) := by
  refine okD T.F__law_number sc__law_number (fun vs H Q E h => ?_) (fun cdv A outer s H vs Q E hr h => ?_)
  · obtain ⟨_, _, rfl, _⟩ := h; rfl
  · have hu := hu_of hr
    have hu64 := hr.units
    refine ⟨_, pss_one (ps_ret (pe_ix ix_list (pe_lstY (pa_cons (pe_call (ok__law_draw (P := P) (w := w) (base := base) T hw) (hr.mono (by decide)) rfl T.mg__law_draw T.F__law_draw.kp (T.b__law_draw) .nil pass0 (pa_cons (pv 0) (pa_cons pe_int pa_nil))) (pa_cons (pe_call (ok__law_draw (P := P) (w := w) (base := base) T hw) (hr.mono (by decide)) rfl T.mg__law_draw T.F__law_draw.kp (T.b__law_draw) .nil pass0 (pa_cons (pv 0) (pa_cons pe_int pa_nil))) (pa_cons (pe_call (ok__law_draw (P := P) (w := w) (base := base) T hw) (hr.mono (by decide)) rfl T.mg__law_draw T.F__law_draw.kp (T.b__law_draw) .nil pass0 (pa_cons (pv 0) (pa_cons (pe_op op_pow pe_int pe_int) pa_nil))) pa_nil)))) (pe_call (ok__law_draw (P := P) (w := w) (base := base) T hw) (hr.mono (by decide)) rfl T.mg__law_draw T.F__law_draw.kp (T.b__law_draw) .nil pass0 (pa_cons (pv 0) (pa_cons pe_int pa_nil))) (fun _ _ => rfl))), ?_⟩
    obtain ⟨p, n, rfl, hP, hn, k⟩ := h
    refine ⟨_, rfl, p, 4, n, rfl, hP, by omega, by decide, by decide, fun d1 H1 a1 c1 P1 b1 k1 => ?_⟩
    refine ⟨_, rfl, p, 300, _, rfl, P1, by omega, by decide, by decide, fun d2 H2 a2 c2 P2 b2 k2 => ?_⟩
    refine ⟨_, rfl, _, _, rfl, rfl, ⟨by decide, by decide, by decide⟩, p, _, _, rfl, P2, by omega, by decide, by decide, fun d3 H3 a3 c3 P3 b3 k3 => ?_⟩
    refine ⟨by show 3 ≤ sizeLine; decide, fun q H4 nq s4 e4 => ?_⟩
    refine ⟨_, rfl, p, 3, _, rfl, P3.same s4, by omega, by decide, by decide, fun d5 H5 a5 c5 P5 b5 k5 => ?_⟩
    have c3' : d3 < 10 ^ 15 := c3
    obtain ⟨v, hv, z, rfl, z0, z1⟩ := atI_all (P := fun v => ∃ z : Int, v = .int z ∧ 0 ≤ z ∧ z < 10 ^ 15) (xs := [.int d1, .int d2, .int d3]) (i := d5)
      (by intro x hx; simp at hx; rcases hx with rfl | rfl | rfl
          · exact ⟨_, rfl, by omega, by omega⟩
          · exact ⟨_, rfl, by omega, by omega⟩
          · exact ⟨_, rfl, by omega, by omega⟩) a5 c5
    refine ⟨q, _, _, _, rfl, rfl, SqL.of (k5.lst e4), hv, ?_⟩
    have b4 : But p H3 H4 := same_but s4
    exact k z H5 z0 z1 (P5.mono (by omega)) ((((b1.trans b2).trans b3).trans b4).trans b5) (((((k1.trans k2).trans k3).trans (same_kp s4))).trans k5)
/-- a weight at a value -/
def WV (T : Txt K mg) (H : Hp) (v : V) (n : Int) : Prop := ∃ a dx, v = .ref a ∧ H a = some (.ins T.C_Weight dx (fs_Weight (.int n)))
theorem WV.kp {T : Txt K mg} {H H' : Hp} {v : V} {n : Int} (k : Kp H H') (h : WV T H v n) : WV T H' v n := let ⟨a, dx, e, z⟩ := h; ⟨a, dx, e, k.ins z⟩
theorem WV.same {T : Txt K mg} {H H' : Hp} {v : V} {n : Int} (k : Same H H') (h : WV T H v n) : WV T H' v n := h.kp (same_kp k)
def MkW (T : Txt K mg) (H : Hp) (Q : VK) (n : Int) : Prop := ∀ (v : V) (H' : Hp), Same H H' → WV T H' v n → Q v H'
theorem TyX.weight {T : Txt K mg} {H : Hp} {a dx : Addr} {fs : List (Str × V)} (h : H a = some (.ins T.C_Weight dx fs)) : TyX K H (.ref a) (.ref T.C_Weight) := .base (.ins h T.cl_Weight T.ha_Weight T.hn T.ht T.mo_Weight)
theorem lit_sp1 : (" " : Str).length = 1 := by decide +kernel
theorem big30 {n : Int} (h0 : 0 ≤ n) (h : n < 10 ^ 18) : n.natAbs.log2 < 1920 := log_small (by omega) (by omega)
def sp_Weight_init (T : Txt K mg) : Sp := fun vs H Q _ => ∃ (x dx : Addr) (p o d : Int), vs = [.ref x, .int p, .int o, .int d] ∧ H x = some (.ins T.C_Weight dx []) ∧ ∀ H', But x H H' → H' x = some (.ins T.C_Weight dx (fs_Weight (.int (p * 256 + o * 16 + d)))) → Q .non H'
theorem ok_Weight_init (T : Txt K mg) (hw : T.PP = w.params) : FnOk P w K mg base CX0 2 T.f_Weight_init T.fd_Weight_init ["self", "pounds", "ounces", "drams"] (sp_Weight_init T) := by
  refine okD T.F_Weight_init sc_Weight_init (fun vs H Q E h => ?_) (fun cdv A outer s H vs Q E hr h => ?_)
  · obtain ⟨_, _, _, _, _, rfl, _⟩ := h; rfl
  · have hu := hu_of hr
    have hu64 := hr.units
    refine ⟨_, pss_one (ps_fldY (pv 0) (pe_op op_add (pe_op op_add (pe_op op_mul (pv 1) (pe_ix ix_kdict (pe_glob (v := .ref T.D_DRAMS_IN) rfl T.gd_DRAMS_IN rfl) pe_str (fun _ _ => rfl))) (pe_op op_mul (pv 2) (pe_ix ix_kdict (pe_glob (v := .ref T.D_DRAMS_IN) rfl T.gd_DRAMS_IN rfl) pe_str (fun _ _ => rfl)))) (pv 3)) rfl), ?_⟩
    obtain ⟨x, dx, p, o, d, rfl, hx, k⟩ := h
    refine ⟨_, rfl, T.D_DRAMS_IN, _, _, rfl, rfl, T.kd_DRAMS_IN_lb hw, _, _, rfl, rfl, .inr ⟨by decide, by decide⟩, ?_⟩
    refine ⟨_, rfl, T.D_DRAMS_IN, _, _, rfl, rfl, T.kd_DRAMS_IN_oz hw, _, _, rfl, rfl, .inr ⟨by decide, by decide⟩, _, _, rfl, rfl, ?_⟩
    refine ⟨_, rfl, _, _, rfl, rfl, _, rfl, x, _, dx, _, rfl, hx, T.cl_Weight, T.na_Weight_drams, by show 0 < 1000; decide, fun H1 b1 e1 => ?_⟩
    exact k H1 b1 e1
def sp_Weight_eq (T : Txt K mg) : Sp := fun vs H Q _ => ∃ (x y : V) (n m : Int), vs = [x, y] ∧ WV T H x n ∧ WV T H y m ∧ Q (.bl (decide (n = m))) H
theorem ok_Weight_eq (T : Txt K mg) (hw : T.PP = w.params) : FnOk P w K mg base CX0 2 T.f_Weight_eq T.fd_Weight_eq ["self", "other"] (sp_Weight_eq T) := by
  refine okD T.F_Weight_eq sc_Weight_eq (fun vs H Q E h => ?_) (fun cdv A outer s H vs Q E hr h => ?_)
  · obtain ⟨_, _, _, _, rfl, _⟩ := h; rfl
  · have hu := hu_of hr
    have hu64 := hr.units
    refine ⟨_, pss_one (ps_ret (pe_and (pe_callB call_isi (by rfl) T.b_isinstance (by decide +kernel) (pa_cons (pv 1) (pa_cons (pe_glob (v := .ref T.C_Weight) rfl T.mgc_Weight rfl) pa_nil))) (pe_one (pe_cmpR op_eq (pe_fld (pv 0) (by rfl)) (pe_fld (pv 1) (by rfl)) (nomark _))))), ?_⟩
    obtain ⟨x, y, n, m, rfl, ⟨a, dx, rfl, hx⟩, ⟨b, dy, rfl, hy⟩, k⟩ := h
    refine ⟨_, rfl, _, _, _, _, true, rfl, .own _, TyX.weight hy, T.ki_Weight_own, _, rfl, ?_⟩
    refine iteT ?_
    refine ⟨_, rfl, a, _, dx, _, _, rfl, hx, T.cl_Weight, T.na_Weight_drams, fs_Weight_drams _, _, rfl, b, _, dy, _, _, rfl, hy, T.cl_Weight, T.na_Weight_drams, fs_Weight_drams _, rfl, ?_⟩
    rw [dec_int]
    exact k
def sp_written_parts (T : Txt K mg) : Sp := fun vs H Q _ => ∃ (n : Int), vs = [.int n] ∧ 0 ≤ n ∧ n < 10 ^ 18 ∧ ∀ (p : Addr) (ys : List Str) (H' : Hp), Same H H' → H' p = some (.lst (ys.map V.str)) → ys.length ≤ 4 → (∀ y ∈ ys, y.length ≤ 100) → Q (.ref p) H'
theorem ok_written_parts (T : Txt K mg) (hw : T.PP = w.params) : FnOk P w K mg base CX0 2 T.f_written_parts T.fd_written_parts ["drams"] (sp_written_parts T) := by
  refine okD T.F_written_parts sc_written_parts (fun vs H Q E h => ?_) (fun cdv A outer s H vs Q E hr h => ?_)
  · obtain ⟨_, rfl, _⟩ := h; rfl
  · have hu := hu_of hr
    have hu64 := hr.units
    refine ⟨_, pss_cons (ps_set (i := 1) sc_written_parts.nd rfl (Or.inl rfl) (pe_lstY pa_nil))
      (pss_cons (ps_set (i := 2) sc_written_parts.nd rfl (Or.inl rfl) (pv 0))
      (pss_cons (ps_for PassesOwn.never rfl (pi_written T.lD_DRAMS_IN T.lo_DRAMS_IN T.ro_DRAMS_IN (pe_glob (v := .ref T.D_DRAMS_IN) rfl T.gd_DRAMS_IN rfl)) (pg_tup (by rfl) (pgs_cons (pg_name (i := 3) sc_written_parts.nd rfl (Or.inl rfl)) (pgs_cons (pg_name (i := 4) sc_written_parts.nd rfl (Or.inl rfl)) pgs_nil))) (pss_cons (ps_asg (pe_callB call_divmodY (by rfl) T.b_divmod (by decide +kernel) (pa_cons (pv 2) (pa_cons (pv 4) pa_nil))) (pg_tup (by rfl) (pgs_cons (pg_name (i := 5) sc_written_parts.nd rfl (Or.inl rfl)) (pgs_cons (pg_name (i := 2) sc_written_parts.nd rfl (Or.inl rfl)) pgs_nil))))
      (pss_one (ps_if (pt_cmpR op_gt (pv 5) pe_int (nomark _)) (pss_one (ps_expr (pe_bm PySem.F.plainAttrs_list PySem.F.slot_list_append PySem.F.type_list_append mt_appendY (pv 1) (pa_cons (pe_joined (.cons (pe_fmt (pv 5)) (.cons pe_str (.cons (pe_fmt (pv 3)) .nil)))) pa_nil)))) pss_nil))))
      (pss_one (ps_ret (pe_orT (pv 1) (pe_one (pe_lstY (pa_cons pe_str pa_nil)))))))), ?_⟩
    obtain ⟨n, rfl, n0, n1, k⟩ := h
    refine ⟨by show 0 ≤ sizeLine; exact Nat.zero_le _, fun p H1 np s1 e1 => ?_⟩
    refine ⟨_, rfl, rfl, ?_⟩
    refine for_written (fun i σ H' => ∃ (l : Int) (ys : List Str) (v3 v4 v5 : Option V), σ = [some (.int n), some (.ref p), some (.int l), v3, v4, v5] ∧ Same H H' ∧ H' p = some (.lst (ys.map V.str)) ∧ ys.length ≤ i ∧ (∀ y ∈ ys, y.length ≤ 100) ∧ 0 ≤ l ∧ l < 10 ^ 18) ⟨n, [], _, _, _, rfl, s1, e1, Nat.le_refl _, fun y h => absurd h (List.not_mem_nil), n0, n1⟩ ?_ ?_
    · rintro i u wv σ H2 Tp H3 hi ⟨l, ys, v3, v4, v5, rfl, s2, e2, hl, hy, l0, l1⟩ nT s3 eT
      obtain ⟨us, c, rfl, rfl, hu4, c0, c1⟩ : ∃ (us : Str) (c : Int), u = .str us ∧ wv = .int c ∧ us.length ≤ 4 ∧ 0 < c ∧ c < 1000 := by
        have hm := List.mem_of_getElem? hi
        simp at hm
        rcases hm with ⟨rfl, rfl⟩ | ⟨rfl, rfl⟩ | ⟨rfl, rfl⟩ <;> exact ⟨_, _, rfl, rfl, by decide +kernel, by decide, by decide⟩
      refine ⟨Tp, _, rfl, SqT.of eT, rfl, _, _, rfl, _, _, rfl, rfl, ?_⟩
      refine ⟨_, rfl, _, rfl, _, _, rfl, ⟨c0, by omega⟩, fun q H4 nq s4 e4 => ⟨q, _, rfl, SqT.of e4, rfl, _, _, rfl, _, _, rfl, rfl, ?_⟩⟩
      have d0 : 0 ≤ l / c := Int.ediv_nonneg l0 (by omega)
      have d1 : l / c ≤ l := Int.ediv_le_self c l0
      have m0 : 0 ≤ l % c := Int.emod_nonneg l (by omega)
      have m1 : l % c < c := Int.emod_lt_of_pos l c0
      generalize l / c = dd at d0 d1
      generalize l % c = mm at m0 m1
      refine ⟨_, rfl, _, _, rfl, rfl, _, rfl, ?_⟩
      have e4' := s4 _ _ (s3 _ _ e2)
      have sH := (s2.trans s3).trans s4
      refine iteD (fun hm => ?_) (fun hm => ?_)
      · have nl := num_len (i := dd) (by omega) (by omega)
        refine ⟨_, rfl, (.inl ⟨rfl, _, SqL.of e4'⟩), _, rfl, .inr ⟨_, rfl, big30 d0 (by omega), _, rfl, line_big ?_, _, rfl, line_big ?_, _, rfl, .inl ⟨_, rfl, line_big (by omega), _, rfl, line_big ?_, ?_⟩⟩⟩
        · rw [Str.empty_append]; omega
        · rw [Str.empty_append, str_len, lit_sp1]; omega
        · rw [Str.empty_append, str_len, str_len, lit_sp1]; omega
        refine ⟨p, _, _, rfl, rfl, e4', by rw [List.length_map]; exact small1000 (by have := (List.getElem?_eq_some_iff.mp hi).1; simp at this; omega), fun H5 b5 e5 => ?_⟩
        refine ⟨mm, ys ++ [Str.empty ++ Str.ofString (toString dd) ++ " " ++ us], _, _, _, rfl, ?_, ?_, ?_, ?_, m0, by omega⟩
        · exact fun b o z => b5 b o (ne_of_none z np) (sH b o z)
        · rw [List.map_append]; exact e5
        · rw [List.length_append]; exact Nat.add_le_add_right hl 1
        · intro y hy'
          rcases List.mem_append.mp hy' with z | z
          · exact hy y z
          · rw [List.mem_singleton.mp z, Str.empty_append, str_len, str_len, lit_sp1]; omega
      · exact ⟨mm, ys, _, _, _, rfl, sH, e4', Nat.le_succ_of_le hl, hy, m0, by omega⟩
    · rintro σ H2 ⟨l, ys, v3, v4, v5, rfl, s2, e2, hl, hy, l0, l1⟩
      have hl3 : ys.length ≤ 3 := hl
      refine ⟨_, rfl, _, .inl ⟨_, SqL.of e2, rfl⟩, ?_⟩
      refine iteB (fun h => ?_) (fun h => ?_)
      · exact k p ys H2 s2 e2 (by omega) hy
      · refine ⟨by show 1 ≤ sizeLine; decide, fun q H3 nq s3 e3 => ?_⟩
        refine k q ["0 dr"] H3 (s2.trans s3) e3 (by show 1 ≤ 4; decide) fun y hy' => ?_
        rw [List.mem_singleton.mp hy']
        decide +kernel
theorem sum_le {ys : List Str} {n : Nat} (h : ∀ y ∈ ys, y.length ≤ n) : (ys.map (·.length)).sum ≤ ys.length * n := by
  induction ys with
  | nil => exact Nat.zero_le _
  | cons y r ih =>
    have h1 := h y List.mem_cons_self
    have h2 := ih fun z hz => h z (List.mem_cons_of_mem _ hz)
    rw [List.map_cons, List.sum_cons, List.length_cons, Nat.add_mul]
    omega
def sp_Weight_str (T : Txt K mg) : Sp := fun vs H Q _ => ∃ (x : V) (n : Int), vs = [x] ∧ WV T H x n ∧ 0 ≤ n ∧ n < 10 ^ 18 ∧ ∀ (z : Str) (H' : Hp), Same H H' → z.length ≤ 100000 → Q (.str z) H'
theorem ok_Weight_str (T : Txt K mg) (hw : T.PP = w.params) : FnOk P w K mg base CX0 3 T.f_Weight_str T.fd_Weight_str ["self"] (sp_Weight_str T) := by
  refine okD T.F_Weight_str sc_Weight_str (fun vs H Q E h => ?_) (fun cdv A outer s H vs Q E hr h => ?_)
  · obtain ⟨_, _, rfl, _⟩ := h; rfl
  · have hu := hu_of hr
    have hu64 := hr.units
    refine ⟨_, pss_one (ps_ret (pe_join pe_str (pe_call (ok_written_parts (P := P) (w := w) (base := base) T hw) (hr.mono (by decide)) rfl T.mg_written_parts T.F_written_parts.kp (T.b_written_parts) .nil pass0 (pa_cons (pe_fld (pv 0) (by rfl)) pa_nil)))), ?_⟩
    obtain ⟨x, n, rfl, ⟨a, dx, rfl, hx⟩, n0, n1, k⟩ := h
    refine ⟨⟨_, rfl⟩, _, rfl, a, _, dx, _, _, rfl, hx, T.cl_Weight, T.na_Weight_drams, fs_Weight_drams _, n, rfl, n0, n1, fun p ys H' s' e' hl hy => ?_⟩
    refine ⟨_, p, ys, rfl, rfl, .inl (SqL.of e'), ?_, ?_⟩
    · have := sum_le hy
      have e1 : (" " : Str).length = 1 := by decide +kernel
      rw [e1]
      omega
    · refine k _ H' s' (Nat.le_trans (PyProof.Rows.len_join_le (n := ys.length * 100 + ys.length) (show (ys.map (·.length)).sum + ys.length ≤ _ from ?_) (by decide +kernel)) (by omega))
      have := sum_le hy
      omega
def sp_Weight_plus (T : Txt K mg) : Sp := fun vs H Q _ => ∃ (x y : V) (n m : Int), vs = [x, y] ∧ WV T H x n ∧ WV T H y m ∧ MkW T H Q (n + m)
theorem ok_Weight_plus (T : Txt K mg) (hw : T.PP = w.params) : FnOk P w K mg base CX0 4 T.f_Weight_plus T.fd_Weight_plus ["self", "other"] (sp_Weight_plus T) := by
  refine okD T.F_Weight_plus sc_Weight_plus (fun vs H Q E h => ?_) (fun cdv A outer s H vs Q E hr h => ?_)
  · obtain ⟨_, _, _, _, rfl, _⟩ := h; rfl
  · have hu := hu_of hr
    have hu64 := hr.units
    obtain ⟨its_bd_Weight_init_0_drams, bd_Weight_init_0_drams⟩ := bd_Weight_init_0_drams T
    refine ⟨_, pss_one (ps_ret (pe_makeKY T.mk_Weight (ok_Weight_init (P := P) (w := w) (base := base) T hw) (hr.mono (by decide)) rfl T.mgc_Weight bd_Weight_init_0_drams pass0 (pk_cons (pe_op op_add (pe_fld (pv 0) (by rfl)) (pe_fld (pv 1) (by rfl))) pk_nil))), ?_⟩
    obtain ⟨x, y, n, m, rfl, ⟨a, dx, rfl, hx⟩, ⟨b, dy, rfl, hy⟩, k⟩ := h
    refine ⟨_, rfl, a, _, dx, _, _, rfl, hx, T.cl_Weight, T.na_Weight_drams, fs_Weight_drams _, _, rfl, b, _, dy, _, _, rfl, hy, T.cl_Weight, T.na_Weight_drams, fs_Weight_drams _, _, _, rfl, rfl, ?_⟩
    refine ⟨rfl, rfl, fun x1 d1 H2 n1 g1 s2 e2 => ⟨x1, d1, 0, 0, n + m, rfl, e2, fun H3 b3 e3 => ⟨rfl, ?_⟩⟩⟩
    have ez : (0 : Int) * 256 + 0 * 16 + (n + m) = n + m := by omega
    rw [ez] at e3
    exact k _ H3 (same_new n1 s2 b3) ⟨x1, d1, rfl, e3⟩
def sp_Weight_times (T : Txt K mg) : Sp := fun vs H Q _ => ∃ (x : V) (n m : Int), vs = [x, .int m] ∧ WV T H x n ∧ 0 ≤ m ∧ m ≤ 10 ^ 9 ∧ MkW T H Q (n * m)
theorem ok_Weight_times (T : Txt K mg) (hw : T.PP = w.params) : FnOk P w K mg base CX0 4 T.f_Weight_times T.fd_Weight_times ["self", "many"] (sp_Weight_times T) := by
  refine okD T.F_Weight_times sc_Weight_times (fun vs H Q E h => ?_) (fun cdv A outer s H vs Q E hr h => ?_)
  · obtain ⟨_, _, _, rfl, _⟩ := h; rfl
  · have hu := hu_of hr
    have hu64 := hr.units
    obtain ⟨its_bd_Weight_init_0_drams, bd_Weight_init_0_drams⟩ := bd_Weight_init_0_drams T
    refine ⟨_, pss_one (ps_ret (pe_makeKY T.mk_Weight (ok_Weight_init (P := P) (w := w) (base := base) T hw) (hr.mono (by decide)) rfl T.mgc_Weight bd_Weight_init_0_drams pass0 (pk_cons (pe_op op_mul (pe_fld (pv 0) (by rfl)) (pv 1)) pk_nil))), ?_⟩
    obtain ⟨x, n, m, rfl, ⟨a, dx, rfl, hx⟩, m0, m1, k⟩ := h
    refine ⟨_, rfl, a, _, dx, _, _, rfl, hx, T.cl_Weight, T.na_Weight_drams, fs_Weight_drams _, _, rfl, _, _, rfl, rfl, .inr ⟨by omega, by omega⟩, ?_⟩
    refine ⟨rfl, rfl, fun x1 d1 H2 n1 g1 s2 e2 => ⟨x1, d1, 0, 0, n * m, rfl, e2, fun H3 b3 e3 => ⟨rfl, ?_⟩⟩⟩
    have ez : (0 : Int) * 256 + 0 * 16 + (n * m) = n * m := by omega
    rw [ez] at e3
    exact k _ H3 (same_new n1 s2 b3) ⟨x1, d1, rfl, e3⟩
def sp_Short_init (T : Txt K mg) : Sp := fun vs H Q _ => ∃ (a : Addr) (y : V) (n : Int), vs = [.ref a, y] ∧ H a = some (exo a T.C_Short none) ∧ WV T H y n ∧ 0 ≤ n ∧ n < 10 ^ 18 ∧
  ∀ d H', But a H H' → H d = none → H' a = some (exo a T.C_Short (some d)) → H' d = some (exd d [("by", y)]) → Q .non H'
theorem ok_Short_init (T : Txt K mg) (hw : T.PP = w.params) : FnOk P w K mg base CX0 5 T.f_Short_init T.fd_Short_init ["self", "by"] (sp_Short_init T) := by
  refine okD T.F_Short_init sc_Short_init (fun vs H Q E h => ?_) (fun cdv A outer s H vs Q E hr h => ?_)
  · obtain ⟨_, _, _, rfl, _⟩ := h; rfl
  · have hu := hu_of hr
    have hu64 := hr.units
    refine ⟨_, pss_cons (ps_expr (pe_erI (B := "ArithmeticError") (nI := "ArithmeticError.__new__") (iI := "ArithmeticError.__init__") (bmB := [.type "ArithmeticError", .type "Exception", .type "BaseException", .type "object"]) (by rfl) T.b_ArithmeticError (by decide +kernel) (PySem.W.kitMeta_of (by decide +kernel)) T.vi_ArithmeticError (pa_cons (pv 0) (pa_cons (pe_joined (.cons pe_str (.cons (pe_fmtO (ok_Weight_str (P := P) (w := w) (base := base) T hw) (hr.mono (by decide)) T.m_Weight_str.at_ T.m_Weight_str.fn T.fo_Weight T.mo_Weight T.b_Weight_str pass0 (pv 1)) .nil))) pa_nil))))
      (pss_one (ps_erP (B := "ArithmeticError") (nI := "ArithmeticError.__new__") (iI := "ArithmeticError.__init__") (bmB := [.type "ArithmeticError", .type "Exception", .type "BaseException", .type "object"]) (pv 0) (pv 1))), ?_⟩
    obtain ⟨a, y, n, rfl, ha, hy, n0, n1, k⟩ := h
    refine ⟨_, rfl, _, rfl, line_big (by decide +kernel), _, rfl, ?_⟩
    obtain ⟨b, dy, rfl, hb⟩ := id hy
    refine ⟨b, dy, _, rfl, hb, _, n, rfl, hy, n0, n1, fun z H1 s1 hz => ⟨z, rfl, _, rfl, line_big ?_, ?_⟩⟩
    · rw [Str.empty_append, str_len]
      have : ("too little by " : Str).length = 14 := by decide +kernel
      omega
    refine ⟨a, T.C_Short, _, rfl, by simp, T.er_Short, s1 _ _ ha, ?_⟩
    refine ⟨_, rfl, _, rfl, a, T.C_Short, rfl, T.er_Short, T.na_Short_by, .inl ⟨s1 _ _ ha, fun d H2 nd b2 e2 ed => ?_⟩⟩
    refine k d H2 (fun c o hc z => b2 c o hc (s1 c o z)) ?_ e2 ed
    cases z : H d with
    | none => rfl
    | some o =>
      rw [s1 d o z] at nd
      cases nd
def sp_Weight_less (T : Txt K mg) : Sp := fun vs H Q E => ∃ (x y : V) (n m : Int), vs = [x, y] ∧ WV T H x n ∧ WV T H y m ∧ (m ≤ n → MkW T H Q (n - m)) ∧ (n < m → m - n < 10 ^ 18 ∧ ∀ (d : Addr) (v : V) (H' : Hp), Same H H' → H' d = some (.xd [("by", v)]) → WV T H' v (m - n) → E (.ref T.C_Short) (some d) H')
theorem ok_Weight_less (T : Txt K mg) (hw : T.PP = w.params) : FnOk P w K mg base (L2.CX P w) 7 T.f_Weight_less T.fd_Weight_less ["self", "other"] (sp_Weight_less T) := by
  refine T.F_Weight_less.ok sc_Weight_less (fun vs H Q E h => ?_) (fun cdv A outer s H vs Q E hr h => ?_)
  · obtain ⟨_, _, _, _, rfl, _⟩ := h; rfl
  · have hu := hu_of hr
    have hu64 := hr.units
    obtain ⟨its_bd_Weight_init_0_drams, bd_Weight_init_0_drams⟩ := bd_Weight_init_0_drams T
    refine ⟨_, pss_cons (ps_if (pt_cmpR op_gt (pe_fld (pv 1) (by rfl)) (pe_fld (pv 0) (by rfl)) (nomark _)) (pss_one (ps_raise rfl (takes_of rfl rfl rfl rfl) (pmk_er T.er_Short T.m_Short_init.at_ T.ti_Short_init (ok_Short_init (P := P) (w := w) (base := base) T hw) (hr.mono (by decide)) (T.b_Short_init) .nil pass0 rfl T.mgc_Short (pa_cons (pe_makeKY T.mk_Weight (ok_Weight_init (P := P) (w := w) (base := base) T hw) (hr.mono (by decide)) rfl T.mgc_Weight bd_Weight_init_0_drams pass0 (pk_cons (pe_op op_sub (pe_fld (pv 1) (by rfl)) (pe_fld (pv 0) (by rfl))) pk_nil)) pa_nil)))) pss_nil)
      (pss_one (ps_ret (pe_makeKY T.mk_Weight (ok_Weight_init (P := P) (w := w) (base := base) T hw) (hr.mono (by decide)) rfl T.mgc_Weight bd_Weight_init_0_drams pass0 (pk_cons (pe_op op_sub (pe_fld (pv 0) (by rfl)) (pe_fld (pv 1) (by rfl))) pk_nil)))), ?_⟩
    obtain ⟨x, y, n, m, rfl, ⟨a, dx, rfl, hx⟩, ⟨b, dy, rfl, hy⟩, kL, kS⟩ := h
    refine ⟨_, rfl, b, _, dy, _, _, rfl, hy, T.cl_Weight, T.na_Weight_drams, fs_Weight_drams _, _, rfl, a, _, dx, _, _, rfl, hx, T.cl_Weight, T.na_Weight_drams, fs_Weight_drams _, _, _, rfl, rfl, _, rfl, ?_⟩
    refine iteD (fun hm => ?_) (fun hm => ?_)
    · obtain ⟨hb, kE⟩ := kS hm
      refine ⟨_, rfl, b, _, dy, _, _, rfl, hy, T.cl_Weight, T.na_Weight_drams, fs_Weight_drams _, _, rfl, a, _, dx, _, _, rfl, hx, T.cl_Weight, T.na_Weight_drams, fs_Weight_drams _, _, _, rfl, rfl, ?_⟩
      refine ⟨rfl, rfl, fun x1 d1 H2 n1 g1 s2 e2 => ⟨x1, d1, 0, 0, m - n, rfl, e2, fun H3 b3 e3 => ⟨rfl, ?_⟩⟩⟩
      have ez : (0 : Int) * 256 + 0 * 16 + (m - n) = m - n := by omega
      rw [ez] at e3
      have s3 := same_new n1 s2 b3
      refine ⟨by simp, fun e4 H4 n4 s4 h4 => ⟨e4, _, m - n, rfl, h4, ⟨x1, d1, rfl, s4 _ _ e3⟩, by omega, hb, fun d H5 b5 nd e5 ed => ⟨rfl, d, _, b5, e5, ed, nd, fun H6 s6 k6 e6 => ?_⟩⟩⟩
      exact kE d _ H6 (s3.trans s6) e6 ⟨x1, d1, rfl, s6 _ _ e3⟩
    · refine ⟨_, rfl, a, _, dx, _, _, rfl, hx, T.cl_Weight, T.na_Weight_drams, fs_Weight_drams _, _, rfl, b, _, dy, _, _, rfl, hy, T.cl_Weight, T.na_Weight_drams, fs_Weight_drams _, _, _, rfl, rfl, ?_⟩
      refine ⟨rfl, rfl, fun x1 d1 H2 n1 g1 s2 e2 => ⟨x1, d1, 0, 0, n - m, rfl, e2, fun H3 b3 e3 => ⟨rfl, ?_⟩⟩⟩
      have ez : (0 : Int) * 256 + 0 * 16 + (n - m) = n - m := by omega
      rw [ez] at e3
      exact kL (by omega) _ H3 (same_new n1 s2 b3) ⟨x1, d1, rfl, e3⟩
theorem by_field (v : V) : List.lookup ("by" : Str) [(("by" : Str), v)] = some v := by simp [List.lookup]
def sp_law (T : Txt K mg) : Sp := fun vs H Q _ => sp_law0 K vs H Q (fun _ _ _ => False)
theorem ok_law (T : Txt K mg) (hw : T.PP = w.params) : FnOk P w K mg base CX0 8 T.f_law T.fd_law ["script"] (sp_law T) := by
  refine okD T.F_law sc_law (fun vs H Q E h => ?_) (fun cdv A outer s H vs Q E hr h => ?_)
  · obtain ⟨_, _, rfl, _⟩ := h; rfl
  · have hu := hu_of hr
    have hu64 := hr.units
    obtain ⟨its_bd_Weight_init_0_drams, bd_Weight_init_0_drams⟩ := bd_Weight_init_0_drams T
    obtain ⟨ds_bd_Weight_times_0, bd_Weight_times_0⟩ := bd_Weight_times_0 T
    obtain ⟨its_bd_Weight_times_0_many, bd_Weight_times_0_many⟩ := bd_Weight_times_0_many T
    obtain ⟨ds_bd_Weight_times_1, bd_Weight_times_1⟩ := bd_Weight_times_1 T
    refine ⟨_, pss_cons (ps_set (i := 1) sc_law.nd rfl (Or.inl rfl) (pe_call (ok__law_pen (P := P) (w := w) (base := base) T hw) (hr.mono (by decide)) rfl T.mg__law_pen T.F__law_pen.kp (T.b__law_pen) .nil pass0 (pa_cons (pv 0) pa_nil)))
      (pss_cons (ps_for PassesOwn.never rfl (pi_range1 (by rfl) T.b_range (pa_cons (pe_op op_add pe_int (pe_callB (call_min2 rfl) (by rfl) T.b_min (by decide +kernel) (pa_cons pe_int (pa_cons (pe_callB call_len_seq (by rfl) T.b_len PySem.boot_len (pa_cons (pv 0) pa_nil)) pa_nil)))) pa_nil)) (pg_name (i := 2) sc_law.nd rfl (Or.inl rfl)) (pss_cons (ps_par (i := 3) (j := 4) (by rfl) sc_law.nd rfl rfl (by decide) rfl rfl (pa_cons (pe_call (ok__law_number (P := P) (w := w) (base := base) T hw) (hr.mono (by decide)) rfl T.mg__law_number T.F__law_number.kp (T.b__law_number) .nil pass0 (pa_cons (pv 1) pa_nil)) (pa_cons (pe_call (ok__law_number (P := P) (w := w) (base := base) T hw) (hr.mono (by decide)) rfl T.mg__law_number T.F__law_number.kp (T.b__law_number) .nil pass0 (pa_cons (pv 1) pa_nil)) pa_nil)) (by rfl))
      (pss_cons (ps_set (i := 4) sc_law.nd rfl (Or.inl rfl) (pe_ix ix_list (pe_lstY (pa_cons (pv 4) (pa_cons (pv 3) (pa_cons (pe_op op_add (pv 3) pe_int) (pa_cons (pe_callB (call_max2 rfl) (by rfl) T.b_max (by decide +kernel) (pa_cons pe_int (pa_cons (pe_op op_sub (pv 3) pe_int) pa_nil))) pa_nil))))) (pe_call (ok__law_draw (P := P) (w := w) (base := base) T hw) (hr.mono (by decide)) rfl T.mg__law_draw T.F__law_draw.kp (T.b__law_draw) .nil pass0 (pa_cons (pv 1) (pa_cons pe_int pa_nil))) (fun _ _ => rfl)))
      (pss_cons (ps_set (i := 5) sc_law.nd rfl (Or.inl rfl) (pe_ix ix_list (pe_lstY (pa_cons pe_int (pa_cons pe_int (pa_cons (pe_call (ok__law_draw (P := P) (w := w) (base := base) T hw) (hr.mono (by decide)) rfl T.mg__law_draw T.F__law_draw.kp (T.b__law_draw) .nil pass0 (pa_cons (pv 1) (pa_cons pe_int pa_nil))) (pa_cons (pe_call (ok__law_draw (P := P) (w := w) (base := base) T hw) (hr.mono (by decide)) rfl T.mg__law_draw T.F__law_draw.kp (T.b__law_draw) .nil pass0 (pa_cons (pv 1) (pa_cons (pe_op op_pow pe_int pe_int) pa_nil))) pa_nil))))) (pe_call (ok__law_draw (P := P) (w := w) (base := base) T hw) (hr.mono (by decide)) rfl T.mg__law_draw T.F__law_draw.kp (T.b__law_draw) .nil pass0 (pa_cons (pv 1) (pa_cons pe_int pa_nil))) (fun _ _ => rfl)))
      (pss_cons (ps_par (i := 6) (j := 7) (by rfl) sc_law.nd rfl rfl (by decide) rfl rfl (pa_cons (pe_makeKY T.mk_Weight (ok_Weight_init (P := P) (w := w) (base := base) T hw) (hr.mono (by decide)) rfl T.mgc_Weight bd_Weight_init_0_drams pass0 (pk_cons (pv 3) pk_nil)) (pa_cons (pe_makeKY T.mk_Weight (ok_Weight_init (P := P) (w := w) (base := base) T hw) (hr.mono (by decide)) rfl T.mgc_Weight bd_Weight_init_0_drams pass0 (pk_cons (pv 4) pk_nil)) pa_nil)) (by rfl))
      (pss_cons (ps_if (PW.pt (pw_or (pt_cmpR (op_neO (ok_Weight_eq (P := P) (w := w) (base := base) T hw) (hr.mono (by decide)) T.m_Weight_eq.at_ T.m_Weight_eq.fn T.ne_Weight T.mo_Weight T.b_Weight_eq pass0) (pe_meth (pv 6) T.cl_Weight T.m_Weight_plus (ok_Weight_plus (P := P) (w := w) (base := base) T hw) (hr.mono (by decide)) (T.b_Weight_plus) .nil pass0 (pa_cons (pv 7) pa_nil)) (pe_makeKY T.mk_Weight (ok_Weight_init (P := P) (w := w) (base := base) T hw) (hr.mono (by decide)) rfl T.mgc_Weight bd_Weight_init_0_drams pass0 (pk_cons (pe_op op_add (pv 3) (pv 4)) pk_nil)) (nomark _)) (pw_or1 (pt_cmpR (op_neO (ok_Weight_eq (P := P) (w := w) (base := base) T hw) (hr.mono (by decide)) T.m_Weight_eq.at_ T.m_Weight_eq.fn T.ne_Weight T.mo_Weight T.b_Weight_eq pass0) (pe_meth0 (pv 6) T.cl_Weight T.m_Weight_times (ok_Weight_times (P := P) (w := w) (base := base) T hw) (hr.mono (by decide)) bd_Weight_times_0.2 bd_Weight_times_0.1 pass0) (pe_makeKY T.mk_Weight (ok_Weight_init (P := P) (w := w) (base := base) T hw) (hr.mono (by decide)) rfl T.mgc_Weight bd_Weight_init_0_drams pass0 (pk_cons (pe_op op_mul pe_int (pv 3)) pk_nil)) (nomark _))))) (pss_one (ps_ret pe_bl)) pss_nil)
      (pss_cons (ps_if (PW.pt (pw_or (pt_cmpR (op_neO (ok_Weight_eq (P := P) (w := w) (base := base) T hw) (hr.mono (by decide)) T.m_Weight_eq.at_ T.m_Weight_eq.fn T.ne_Weight T.mo_Weight T.b_Weight_eq pass0) (pe_meth (pv 6) T.cl_Weight T.m_Weight_times (ok_Weight_times (P := P) (w := w) (base := base) T hw) (hr.mono (by decide)) bd_Weight_times_1.2 bd_Weight_times_1.1 pass0 (pa_cons (pv 5) pa_nil)) (pe_makeKY T.mk_Weight (ok_Weight_init (P := P) (w := w) (base := base) T hw) (hr.mono (by decide)) rfl T.mgc_Weight bd_Weight_init_0_drams pass0 (pk_cons (pe_op op_mul (pv 5) (pv 3)) pk_nil)) (nomark _)) (pw_or1 (pt_cmpR op_ne (pe_fld (pe_methN0 (pv 6) T.cl_Weight T.m_Weight_times (ok_Weight_times (P := P) (w := w) (base := base) T hw) (hr.mono (by decide)) bd_Weight_times_0_many pass0 (pk_cons (pv 5) pk_nil)) (by rfl)) (pe_op op_mul (pv 5) (pv 3)) (nomark _))))) (pss_one (ps_ret pe_bl)) pss_nil)
      (pss_cons (ps_set (i := 8) sc_law.nd rfl (Or.inl rfl) pe_non)
      (pss_cons (ps_set (i := 9) sc_law.nd rfl (Or.inl rfl) pe_non)
      (pss_cons (ps_try_keep (i := 10) (Wout := fun _ _ _ _ => False) rfl rfl rfl sc_law.nd rfl rfl ⟨rfl, by decide, Or.inl T.mgc_Short⟩ takes0 (fun W pn xe tk _ => pss_one (ps_set (i := 9) sc_law.nd rfl (Or.inl rfl) (pe_methX (pv 6) T.cl_Weight T.m_Weight_less (ok_Weight_less (P := P) (w := w) (base := base) T hw) (hr.mono (by decide)) (T.b_Weight_less) .nil (fun σ => passAt tk σ) (pa_cons (pv 7) pa_nil)))) (fun a oe cls d pn hz hf => pss_one (ps_set (i := 8) sc_law.nd rfl (Or.inl rfl) (pv 10))))
      (pss_cons (ps_if (pt_cmpR op_gt (pv 4) (pv 3) (nomark _)) (pss_cons (ps_if (PW.pt (pw_or (pt_cmpR op_isN (pv 8) pe_non (nomark _)) (pw_or (pt_val (pe_callB (call_isK T.ea_Short) (by rfl) T.b_isinstance (by decide +kernel) (pa_cons (pv 8) (pa_cons (pe_bltn (v := .ty "ZeroDivisionError") (by rfl) T.b_ZeroDivisionError (by decide +kernel) rfl) pa_nil)))) (pw_or1 (pt_cmpR (op_neO (ok_Weight_eq (P := P) (w := w) (base := base) T hw) (hr.mono (by decide)) T.m_Weight_eq.at_ T.m_Weight_eq.fn T.ne_Weight T.mo_Weight T.b_Weight_eq pass0) (pe_xk T.ea_Short T.na_Short_by (pv 8)) (pe_makeKY T.mk_Weight (ok_Weight_init (P := P) (w := w) (base := base) T hw) (hr.mono (by decide)) rfl T.mgc_Weight bd_Weight_init_0_drams pass0 (pk_cons (pe_op op_sub (pv 4) (pv 3)) pk_nil)) (nomark _)))))) (pss_one (ps_ret pe_bl)) pss_nil)
      (pss_one (ps_if (pt_not (pt_val (pe_callB (call_isK T.ea_Short) (by rfl) T.b_isinstance (by decide +kernel) (pa_cons (pv 8) (pa_cons (pe_bltn (v := .ty "ArithmeticError") (by rfl) T.b_ArithmeticError (by decide +kernel) rfl) pa_nil))))) (pss_one (ps_ret pe_bl)) pss_nil))) (pss_one (ps_if (PW.pt (pw_or (pt_cmpR op_notN (pv 8) pe_non (nomark _)) (pw_or1 (pt_cmpR (op_neO (ok_Weight_eq (P := P) (w := w) (base := base) T hw) (hr.mono (by decide)) T.m_Weight_eq.at_ T.m_Weight_eq.fn T.ne_Weight T.mo_Weight T.b_Weight_eq pass0) (pv 9) (pe_makeKY T.mk_Weight (ok_Weight_init (P := P) (w := w) (base := base) T hw) (hr.mono (by decide)) rfl T.mgc_Weight bd_Weight_init_0_drams pass0 (pk_cons (pe_op op_sub (pv 3) (pv 4)) pk_nil)) (nomark _))))) (pss_one (ps_ret pe_bl)) pss_nil)))
      (pss_one (ps_if (pt_cmpR (op_neD hu64) (pe_tupY (pa_cons (pe_fld (pv 6) (by rfl)) (pa_cons (pe_fld (pv 7) (by rfl)) pa_nil))) (pe_tupY (pa_cons (pv 3) (pa_cons (pv 4) pa_nil))) (nomark _)) (pss_one (ps_ret pe_bl)) pss_nil)))))))))))))
      (pss_one (ps_ret pe_bl))), ?_⟩
    obtain ⟨a, ns, rfl, hS, hlen, k⟩ := h
    refine ⟨_, rfl, a, ns, rfl, hS, hlen, fun p H0 np s0 P0 => ?_⟩
    refine ⟨_, rfl, a, _, rfl, .inl (s0.seq hS), _, _, rfl, _, _, rfl, rfl, ?_⟩
    rw [List.length_map]
    have hN : (2 + (if (ns.length : Int) < 8 then (ns.length : Int) else 8)) ≤ 10 := by split <;> omega
    refine ⟨_, rfl, by show -(2 ^ 62 : Int) ≤ _; omega, by show _ < (2 ^ 62 : Int); omega, ?_⟩
    refine for_range (lo := 0) (n := (2 + (if (ns.length : Int) < 8 then (ns.length : Int) else 8)).toNat) (fun i σ H' => ∃ (v2 v3 v4 v5 v6 v7 v8 v9 v10 : Option V), σ = [some (.ref a), some (.ref p), v2, v3, v4, v5, v6, v7, v8, v9, v10] ∧ Pen H' p (i * 100)) ⟨_, _, _, _, _, _, _, _, _, rfl, P0.mono (by omega)⟩ ?_ ?_
    · rintro i σ H' hi ⟨v2, v3, v4, v5, v6, v7, v8, v9, v10, rfl, P0⟩
      have hi10 : i < 10 := by omega
      refine ⟨_, rfl, p, _, rfl, P0, by omega, fun d1 H1 l1 u1 P1 b1 k1 => ?_⟩
      refine ⟨_, rfl, p, _, rfl, P1, by omega, fun d2 H2 l2 u2 P2 b2 k2 => ?_⟩
      refine ⟨_, _, rfl, ?_⟩
      refine ⟨_, rfl, _, rfl, _, rfl, _, _, rfl, rfl, _, rfl, _, _, rfl, rfl, _, _, rfl, by show 4 ≤ sizeLine; decide, fun q3 H3 n3 s3 e3 => ?_⟩
      have P3 := P2.same s3
      refine ⟨_, rfl, p, _, _, rfl, P3, by omega, by omega, by omega, fun d4 H4 l4 u4 P4 b4 k4 => ?_⟩
      obtain ⟨w4, hw4, o, rfl, o0, o1⟩ := atI_all (P := fun v => ∃ z : Int, v = .int z ∧ 0 ≤ z ∧ z ≤ 10 ^ 15) (xs := [.int d2, .int d1, .int (d1 + 1), .int (if d1 - 1 > 0 then d1 - 1 else 0)]) (i := d4)
        (by intro x hx; simp at hx; rcases hx with rfl | rfl | rfl | rfl
            · exact ⟨_, rfl, by omega, by omega⟩
            · exact ⟨_, rfl, by omega, by omega⟩
            · exact ⟨_, rfl, by omega, by omega⟩
            · exact ⟨_, rfl, by split <;> omega, by split <;> omega⟩) l4 u4
      refine ⟨q3, _, _, _, rfl, rfl, SqL.of (k4.lst e3), hw4, ?_⟩
      -- a_many
      refine ⟨_, rfl, p, _, _, rfl, P4, by omega, by omega, by omega, fun d5 H5 l5 u5 P5 b5 k5 => ?_⟩
      refine ⟨_, rfl, _, _, rfl, rfl, ⟨by decide, by decide, by decide⟩, p, _, _, rfl, P5, by omega, by decide, by decide, fun d6 H6 l6 u6 P6 b6 k6 => ?_⟩
      refine ⟨by show 4 ≤ sizeLine; decide, fun q7 H7 n7 s7 e7 => ?_⟩
      have P7 := P6.same s7
      refine ⟨_, rfl, p, _, _, rfl, P7, by omega, by omega, by omega, fun d8 H8 l8 u8 P8 b8 k8 => ?_⟩
      have u6' : d6 < 10 ^ 9 := u6
      obtain ⟨w8, hw8, m, rfl, m0, m1⟩ := atI_all (P := fun v => ∃ z : Int, v = .int z ∧ 0 ≤ z ∧ z ≤ 10 ^ 9) (xs := [.int 0, .int 1, .int d5, .int d6]) (i := d8)
        (by intro x hx; simp at hx; rcases hx with rfl | rfl | rfl | rfl
            · exact ⟨_, rfl, by omega, by omega⟩
            · exact ⟨_, rfl, by omega, by omega⟩
            · exact ⟨_, rfl, by omega, by omega⟩
            · exact ⟨_, rfl, by omega, by omega⟩) l8 u8
      refine ⟨q7, _, _, _, rfl, rfl, SqL.of (k8.lst e7), hw8, ?_⟩
      -- first, second
      refine ⟨_, rfl, ?_⟩
      refine ⟨rfl, rfl, fun x9 dx9 Ha9 n9 g9 sa9 ea9 => ⟨x9, dx9, 0, 0, d1, rfl, ea9, fun H9 b9 e9 => ⟨rfl, ?_⟩⟩⟩
      have ez9 : (0 : Int) * 256 + 0 * 16 + (d1) = d1 := by omega
      rw [ez9] at e9
      have s9 := same_new n9 sa9 b9
      have w9 : WV T H9 (.ref x9) (d1) := ⟨x9, dx9, rfl, e9⟩
      refine ⟨_, rfl, ?_⟩
      refine ⟨rfl, rfl, fun x10 dx10 Ha10 n10 g10 sa10 ea10 => ⟨x10, dx10, 0, 0, o, rfl, ea10, fun H10 b10 e10 => ⟨rfl, ?_⟩⟩⟩
      have ez10 : (0 : Int) * 256 + 0 * 16 + (o) = o := by omega
      rw [ez10] at e10
      have s10 := same_new n10 sa10 b10
      have w10 : WV T H10 (.ref x10) (o) := ⟨x10, dx10, rfl, e10⟩
      refine ⟨_, _, rfl, ?_⟩
      have w9 := w9.same s10
      have P10 := (P8.same s9).same s10
      have e9 := s10 _ _ e9
      -- plus
      refine ⟨_, rfl, x9, dx9, _, rfl, e9, fs_Weight_no _ (by decide +kernel), _, rfl, _, _, d1, o, rfl, w9, w10, fun v11 H11 s11 w11 => ?_⟩
      refine ⟨_, rfl, _, rfl, _, _, rfl, rfl, ?_⟩
      refine ⟨rfl, rfl, fun x12 dx12 Ha12 n12 g12 sa12 ea12 => ⟨x12, dx12, 0, 0, d1 + o, rfl, ea12, fun H12 b12 e12 => ⟨rfl, ?_⟩⟩⟩
      have ez12 : (0 : Int) * 256 + 0 * 16 + (d1 + o) = d1 + o := by omega
      rw [ez12] at e12
      have s12 := same_new n12 sa12 b12
      have w12 : WV T H12 (.ref x12) (d1 + o) := ⟨x12, dx12, rfl, e12⟩
      obtain ⟨y11, dy11, ey11, hy11⟩ := id (w11.same s12)
      subst ey11
      refine ⟨y11, dy11, _, _, rfl, hy11, .ins e12, T.nF_Weight_own, _, _, _, _, rfl, ⟨y11, dy11, rfl, hy11⟩, w12, _, rfl, _, rfl, ?_⟩
      refine iteND (fun hne => absurd (by omega) hne) (fun _ => ?_)
      -- times()
      have s1012 := s11.trans s12
      refine ⟨_, rfl, x9, dx9, _, rfl, s1012 _ _ e9, fs_Weight_no _ (by decide +kernel), _, d1, 2, rfl, w9.same s1012, by decide, by decide, fun v13 H13 s13 w13 => ?_⟩
      refine ⟨_, rfl, _, _, rfl, rfl, .inl ⟨by decide, by decide⟩, ?_⟩
      refine ⟨rfl, rfl, fun x14 dx14 Ha14 n14 g14 sa14 ea14 => ⟨x14, dx14, 0, 0, 2 * d1, rfl, ea14, fun H14 b14 e14 => ⟨rfl, ?_⟩⟩⟩
      have ez14 : (0 : Int) * 256 + 0 * 16 + (2 * d1) = 2 * d1 := by omega
      rw [ez14] at e14
      have s14 := same_new n14 sa14 b14
      have w14 : WV T H14 (.ref x14) (2 * d1) := ⟨x14, dx14, rfl, e14⟩
      obtain ⟨y13, dy13, ey13, hy13⟩ := id (w13.same s14)
      subst ey13
      refine ⟨y13, dy13, _, _, rfl, hy13, .ins e14, T.nF_Weight_own, _, _, _, _, rfl, ⟨y13, dy13, rfl, hy13⟩, w14, _, rfl, _, rfl, ?_⟩
      refine iteND (fun hne => absurd (by omega) hne) (fun _ => ?_)
      have s1014 := (s1012.trans s13).trans s14
      -- times(a_many)
      refine ⟨_, rfl, x9, dx9, _, rfl, s1014 _ _ e9, fs_Weight_no _ (by decide +kernel), _, rfl, _, d1, m, rfl, w9.same s1014, m0, m1, fun v15 H15 s15 w15 => ?_⟩
      refine ⟨_, rfl, _, rfl, _, _, rfl, rfl, .inl ⟨by omega, by omega⟩, ?_⟩
      refine ⟨rfl, rfl, fun x16 dx16 Ha16 n16 g16 sa16 ea16 => ⟨x16, dx16, 0, 0, m * d1, rfl, ea16, fun H16 b16 e16 => ⟨rfl, ?_⟩⟩⟩
      have ez16 : (0 : Int) * 256 + 0 * 16 + (m * d1) = m * d1 := by omega
      rw [ez16] at e16
      have s16 := same_new n16 sa16 b16
      have w16 : WV T H16 (.ref x16) (m * d1) := ⟨x16, dx16, rfl, e16⟩
      obtain ⟨y15, dy15, ey15, hy15⟩ := id (w15.same s16)
      subst ey15
      refine ⟨y15, dy15, _, _, rfl, hy15, .ins e16, T.nF_Weight_own, _, _, _, _, rfl, ⟨y15, dy15, rfl, hy15⟩, w16, _, rfl, _, rfl, ?_⟩
      refine iteND (fun hne => absurd (Int.mul_comm d1 m) hne) (fun _ => ?_)
      have s1016 := (s1014.trans s15).trans s16
      -- times(many=a_many).drams
      refine ⟨_, rfl, x9, dx9, _, rfl, s1016 _ _ e9, fs_Weight_no _ (by decide +kernel), _, rfl, rfl, rfl, _, d1, m, rfl, w9.same s1016, m0, m1, fun v17 H17 s17 w17 => ?_⟩
      obtain ⟨y17, dy17, ey17, hy17⟩ := id w17
      subst ey17
      refine ⟨y17, _, dy17, _, _, rfl, hy17, T.cl_Weight, T.na_Weight_drams, fs_Weight_drams _, _, rfl, _, rfl, _, _, rfl, rfl, .inl ⟨by omega, by omega⟩, rfl, _, rfl, ?_⟩
      refine iteNI (fun hne => absurd (Int.mul_comm d1 m) hne) (fun _ => ?_)
      have s1017 := s1016.trans s17
      have P17 := P10.same s1017
      have w9 := w9.same s1017
      have w10 := w10.same s1017
      have e9 := s1017 _ _ e9
      have e10 := s1017 _ _ e10
      -- less
      refine ⟨_, rfl, x9, dx9, _, rfl, e9, fs_Weight_no _ (by decide +kernel), _, rfl, _, _, d1, o, rfl, w9, w10, fun hle v18 H18 s18 w18 => ?_, fun hlt => ⟨by omega, fun d18 v18 H18 s18 ed18 w18 => ⟨true, T.te_Short, fun _ a18 na18 => ⟨_, rfl, fun H19 s19 e19 => ?_⟩, fun z => nomatch z⟩⟩⟩
      · refine ⟨_, rfl, _, rfl, _, _, rfl, rfl, _, rfl, ?_⟩
        refine iteD (fun hgt => absurd hgt (by omega)) (fun _ => ?_)
        refine ⟨_, rfl, rfl, _, rfl, ?_⟩
        refine iteF ?_
        refine ⟨_, rfl, _, rfl, _, rfl, _, _, rfl, rfl, ?_⟩
        refine ⟨rfl, rfl, fun x20 dx20 Ha20 n20 g20 sa20 ea20 => ⟨x20, dx20, 0, 0, d1 - o, rfl, ea20, fun H20 b20 e20 => ⟨rfl, ?_⟩⟩⟩
        have ez20 : (0 : Int) * 256 + 0 * 16 + (d1 - o) = d1 - o := by omega
        rw [ez20] at e20
        have s20 := same_new n20 sa20 b20
        have w20 : WV T H20 (.ref x20) (d1 - o) := ⟨x20, dx20, rfl, e20⟩
        obtain ⟨y18, dy18, ey18, hy18⟩ := id (w18.same s20)
        subst ey18
        refine ⟨y18, dy18, _, _, rfl, hy18, .ins e20, T.nF_Weight_own, _, _, _, _, rfl, ⟨y18, dy18, rfl, hy18⟩, w20, _, rfl, _, rfl, ?_⟩
        refine iteND (fun hne => absurd (rfl) hne) (fun _ => ?_)
        have sE := (s18.trans s20)
        have P20 := P17.same sE
        refine ⟨_, rfl, x9, _, dx9, _, _, rfl, sE _ _ e9, T.cl_Weight, T.na_Weight_drams, fs_Weight_drams _, _, rfl, x10, _, dx10, _, _, rfl, sE _ _ e10, T.cl_Weight, T.na_Weight_drams, fs_Weight_drams _, by show 2 ≤ sizeLine; decide, fun q21 H21 n21 s21 e21 => ?_⟩
        refine ⟨_, rfl, _, rfl, by show 2 ≤ sizeLine; decide, fun q22 H22 n22 s22 e22 => ?_⟩
        refine ⟨_, _, .tup (SqT.of (s22 _ _ e21)) (dp_pair _ _), .tup (SqT.of e22) (dp_pair _ _), shaped_pair _ _, shaped_pair _ _, _, rfl, ?_⟩
        refine iteNP rfl rfl ?_
        exact ⟨_, _, _, _, _, _, _, _, _, rfl, ((P20.same s21).same s22).mono (by omega)⟩
      · refine ⟨_, rfl, _, rfl, _, _, rfl, rfl, _, rfl, ?_⟩
        refine iteD (fun _ => ?_) (fun hgt => absurd hlt hgt)
        have ed19 := s19 _ _ ed18
        refine ⟨_, rfl, rfl, _, rfl, ?_⟩
        refine iteF ?_
        refine ⟨_, rfl, a18, d18, _, _, _, false, rfl, e19, ed19, fun u h => h, T.ke_Short_ZeroDivisionError, _, rfl, ?_⟩
        refine iteF ?_
        refine ⟨_, rfl, a18, d18, _, v18, rfl, e19, ed19, by_field v18, _, rfl, _, rfl, _, _, rfl, rfl, ?_⟩
        have w18 := w18.same s19
        refine ⟨rfl, rfl, fun x20 dx20 Ha20 n20 g20 sa20 ea20 => ⟨x20, dx20, 0, 0, o - d1, rfl, ea20, fun H20 b20 e20 => ⟨rfl, ?_⟩⟩⟩
        have ez20 : (0 : Int) * 256 + 0 * 16 + (o - d1) = o - d1 := by omega
        rw [ez20] at e20
        have s20 := same_new n20 sa20 b20
        have w20 : WV T H20 (.ref x20) (o - d1) := ⟨x20, dx20, rfl, e20⟩
        obtain ⟨y18, dy18, ey18, hy18⟩ := id (w18.same s20)
        subst ey18
        refine ⟨y18, dy18, _, _, rfl, hy18, .ins e20, T.nF_Weight_own, _, _, _, _, rfl, ⟨y18, dy18, rfl, hy18⟩, w20, _, rfl, _, rfl, ?_⟩
        refine iteND (fun hne => absurd (rfl) hne) (fun _ => ?_)
        refine ⟨_, rfl, a18, d18, _, _, _, true, rfl, s20 _ _ e19, s20 _ _ ed19, fun u h => h, T.ke_Short_ArithmeticError, _, rfl, ?_⟩
        refine iteF ?_
        have sE := ((s18.trans s19).trans s20)
        have P20 := P17.same sE
        refine ⟨_, rfl, x9, _, dx9, _, _, rfl, sE _ _ e9, T.cl_Weight, T.na_Weight_drams, fs_Weight_drams _, _, rfl, x10, _, dx10, _, _, rfl, sE _ _ e10, T.cl_Weight, T.na_Weight_drams, fs_Weight_drams _, by show 2 ≤ sizeLine; decide, fun q21 H21 n21 s21 e21 => ?_⟩
        refine ⟨_, rfl, _, rfl, by show 2 ≤ sizeLine; decide, fun q22 H22 n22 s22 e22 => ?_⟩
        refine ⟨_, _, .tup (SqT.of (s22 _ _ e21)) (dp_pair _ _), .tup (SqT.of e22) (dp_pair _ _), shaped_pair _ _, shaped_pair _ _, _, rfl, ?_⟩
        refine iteNP rfl rfl ?_
        exact ⟨_, _, _, _, _, _, _, _, _, rfl, ((P20.same s21).same s22).mono (by omega)⟩
    · rintro σ H' ⟨v2, v3, v4, v5, v6, v7, v8, v9, v10, rfl, P⟩
      exact k H'
end
theorem all_mk {l : PySem.W.OpenLaw} {w : World} {K : PySem.W.Frag} {h : Heap} {mg : Str → Option Value} {fa C_Short C_Weight f__law_pen f__law_draw f__law_number f_Weight_init f_Weight_eq f_written_parts f_Weight_str f_Weight_plus f_Weight_times f_Short_init f_Weight_less f_law : Addr} (X : K.In h) (G : h.Ns mainGlobals mg) (hfa : mg "law" = some (.ref fa))
    {enm_Short eq_Short : Str} {eN_Short : Addr} {ebs_Short esub_Short : List Value} {esn_Short : List Str} {eab_Short : Bool} {ecol_Short : Option Bool} {edd_Short : Option Addr} {e0_Short e1_Short e2_Short e3_Short e5_Short : Option Value}
    {oc__law_pen kV__law_pen dc__law_pen pm__law_pen cd__law_pen ct__law_pen : Value} {od__law_pen an__law_pen : Option Addr} {sl__law_pen : Array (Option Value)}
    {oc__law_draw kV__law_draw dc__law_draw pm__law_draw cd__law_draw ct__law_draw : Value} {od__law_draw an__law_draw : Option Addr} {sl__law_draw : Array (Option Value)}
    {oc__law_number kV__law_number dc__law_number pm__law_number cd__law_number ct__law_number : Value} {od__law_number an__law_number : Option Addr} {sl__law_number : Array (Option Value)}
    {oc_Weight_init kV_Weight_init dc_Weight_init pm_Weight_init cd_Weight_init ct_Weight_init : Value} {od_Weight_init an_Weight_init : Option Addr} {sl_Weight_init : Array (Option Value)}
    {t_Weight_init_2 : Tok}
    {t_Weight_init_1 : Tok}
    {t_Weight_init_0 : Tok}
    {T_Weight_init : Addr} {ocT_Weight_init : Value} {odT_Weight_init : Option Addr} {nT_Weight_init : Nat} {slT_Weight_init : Array (Option Value)}
    {oc_Weight_eq kV_Weight_eq dc_Weight_eq pm_Weight_eq cd_Weight_eq ct_Weight_eq : Value} {od_Weight_eq an_Weight_eq : Option Addr} {sl_Weight_eq : Array (Option Value)}
    {oc_written_parts kV_written_parts dc_written_parts pm_written_parts cd_written_parts ct_written_parts : Value} {od_written_parts an_written_parts : Option Addr} {sl_written_parts : Array (Option Value)}
    {oc_Weight_str kV_Weight_str dc_Weight_str pm_Weight_str cd_Weight_str ct_Weight_str : Value} {od_Weight_str an_Weight_str : Option Addr} {sl_Weight_str : Array (Option Value)}
    {oc_Weight_plus kV_Weight_plus dc_Weight_plus pm_Weight_plus cd_Weight_plus ct_Weight_plus : Value} {od_Weight_plus an_Weight_plus : Option Addr} {sl_Weight_plus : Array (Option Value)}
    {oc_Weight_times kV_Weight_times dc_Weight_times pm_Weight_times cd_Weight_times ct_Weight_times : Value} {od_Weight_times an_Weight_times : Option Addr} {sl_Weight_times : Array (Option Value)}
    {t_Weight_times_0 : Tok}
    {T_Weight_times : Addr} {ocT_Weight_times : Value} {odT_Weight_times : Option Addr} {nT_Weight_times : Nat} {slT_Weight_times : Array (Option Value)}
    {oc_Short_init kV_Short_init dc_Short_init pm_Short_init cd_Short_init ct_Short_init : Value} {od_Short_init an_Short_init : Option Addr} {sl_Short_init : Array (Option Value)}
    {oc_Weight_less kV_Weight_less dc_Weight_less pm_Weight_less cd_Weight_less ct_Weight_less : Value} {od_Weight_less an_Weight_less : Option Addr} {sl_Weight_less : Array (Option Value)}
    {oc_law kV_law dc_law pm_law cd_law ct_law : Value} {od_law an_law : Option Addr} {sl_law : Array (Option Value)}
    {D_DRAMS_IN : Addr} {es_DRAMS_IN : Array DictEntry} {n_DRAMS_IN : Nat}
    {t_DRAMS_IN_0 : Tok}
    {t_DRAMS_IN_1 : Tok}
    {t_DRAMS_IN_2 : Tok}
    (aC_Short : PySem.W.nsIn K mainGlobals "Short" = some (some (.ref C_Short)))
    (lC_Short : K.lookup C_Short = some (excClassObj enm_Short eq_Short C_Short eN_Short ebs_Short [.type "ArithmeticError", .type "Exception", .type "BaseException", .type "object"] true esn_Short esub_Short eab_Short ecol_Short edd_Short e0_Short e1_Short e2_Short e3_Short e5_Short "ArithmeticError.__new__"))
    (sa_Short : PySem.W.findIn K (.ref C_Short) "__setattr__" = some (some (.builtin "object.__setattr__")))
    (ex_Short : PySem.W.subIn K (.ref C_Short) (.type "BaseException") = some true)
    (ty_Short : PySem.W.typeIn K (.ref C_Short) = some (.type "type"))
    (kc_Short : PySem.W.keepIn K (.ref C_Short) = true)
    (ic_Short : PySem.W.isClsIn K C_Short = true)
    (hd_Short : PySem.W.hasDictIn K C_Short = true)
    (ga_Short : PySem.W.findIn K (.ref C_Short) "__getattribute__" = some (some (.builtin "BaseException.__getattribute__")))
    (gg_Short : PySem.W.findIn K (.ref C_Short) "__getattr__" = some none)
    (ha_Short : PySem.W.findIn K (.ref C_Short) "__class__" = some (some (.builtin "object.__class__")))
    (mo_Short : PySem.W.mroIn K C_Short (.type "object") = some true)
    (so_Short : PySem.W.subIn K (.ref C_Short) (.ref C_Short) = some true)
    (na_Short_by : PySem.W.findIn K (.ref C_Short) "by" = some none)
    (ti_Short_init : PySem.W.typeIn K (.ref f_Short_init) = some (.type "function"))
    (se_Short_ZeroDivisionError : PySem.W.subIn K (.ref C_Short) (.type "ZeroDivisionError") = some false)
    (se_Short_ArithmeticError : PySem.W.subIn K (.ref C_Short) (.type "ArithmeticError") = some true)
    (vi_ArithmeticError : PySem.W.findCls K (.type "ArithmeticError") (.type "type") "__init__" = some (.val (.builtin "ArithmeticError.__init__")))
    (aC_Weight : PySem.W.nsIn K mainGlobals "Weight" = some (some (.ref C_Weight)))
    (pg_Weight : PySem.W.plainGet K C_Weight Str.empty = true)
    (hd_Weight : PySem.W.hasDictIn K C_Weight = true)
    (po_Weight : PySem.W.plainOver K C_Weight = true)
    (sa_Weight : PySem.W.findIn K (.ref C_Weight) "__setattr__" = some (some (.builtin "object.__setattr__")))
    (na_Weight_drams : PySem.W.findIn K (.ref C_Weight) "drams" = some none)
    (mks_Weight : PySem.W.makesIn K C_Weight = true)
    (kc_Weight : PySem.W.keepIn K (.ref C_Weight) = true)
    (ne_Weight : PySem.W.findIn K (.ref C_Weight) "__ne__" = some (some (.builtin "object.__ne__")))
    (fo_Weight : PySem.W.findIn K (.ref C_Weight) "__format__" = some (some (.builtin "object.__format__")))
    (ha_Weight : PySem.W.findIn K (.ref C_Weight) "__class__" = some (some (.builtin "object.__class__")))
    (mo_Weight : PySem.W.mroIn K C_Weight (.type "object") = some true)
    (nF_Weight_own : PySem.W.notFirst K C_Weight (.ref C_Weight) = true)
    (nF_Weight_NoneType : PySem.W.notFirst K C_Weight (.type "NoneType") = true)
    (ic_Weight : PySem.W.isClsIn K C_Weight = true)
    (ty_Weight : PySem.W.typeIn K (.ref C_Weight) = some (.type "type"))
    (su_Weight_NoneType : PySem.W.subIn K (.type "NoneType") (.ref C_Weight) = some false)
    (hn : PySem.W.specialIn K (.builtin "object.__class__") "__get__" = some (some (.builtin "getset_descriptor.__get__")))
    (ht : PySem.W.takesIn K (.builtin "object.__class__") = some true)
    (a__law_pen : PySem.W.nsIn K mainGlobals "_law_pen" = some (some (.ref f__law_pen)))
    (l__law_pen : K.lookup f__law_pen = some ⟨oc__law_pen, od__law_pen, .func (PySem.W.fnOf "_law_pen" "_law_pen" (defArgs s__law_pen) (defBody s__law_pen) (defScope s__law_pen) .none kV__law_pen dc__law_pen pm__law_pen an__law_pen cd__law_pen ct__law_pen), sl__law_pen⟩)
    (c__law_pen : PySem.W.codeIn K cd__law_pen "_law_pen" = true)
    (k__law_pen : PySem.W.keepIn K (.ref f__law_pen) = true)
    (a__law_draw : PySem.W.nsIn K mainGlobals "_law_draw" = some (some (.ref f__law_draw)))
    (l__law_draw : K.lookup f__law_draw = some ⟨oc__law_draw, od__law_draw, .func (PySem.W.fnOf "_law_draw" "_law_draw" (defArgs s__law_draw) (defBody s__law_draw) (defScope s__law_draw) .none kV__law_draw dc__law_draw pm__law_draw an__law_draw cd__law_draw ct__law_draw), sl__law_draw⟩)
    (c__law_draw : PySem.W.codeIn K cd__law_draw "_law_draw" = true)
    (k__law_draw : PySem.W.keepIn K (.ref f__law_draw) = true)
    (a__law_number : PySem.W.nsIn K mainGlobals "_law_number" = some (some (.ref f__law_number)))
    (l__law_number : K.lookup f__law_number = some ⟨oc__law_number, od__law_number, .func (PySem.W.fnOf "_law_number" "_law_number" (defArgs s__law_number) (defBody s__law_number) (defScope s__law_number) .none kV__law_number dc__law_number pm__law_number an__law_number cd__law_number ct__law_number), sl__law_number⟩)
    (c__law_number : PySem.W.codeIn K cd__law_number "_law_number" = true)
    (k__law_number : PySem.W.keepIn K (.ref f__law_number) = true)
    (a_Weight_init : PySem.W.findIn K (.ref C_Weight) "__init__" = some (some (.ref f_Weight_init)))
    (i_Weight_init : PySem.W.isFn K (.ref f_Weight_init) = true)
    (l_Weight_init : K.lookup f_Weight_init = some ⟨oc_Weight_init, od_Weight_init, .func (PySem.W.fnOf "__init__" "Weight.__init__" (defArgs s_Weight_init) (defBody s_Weight_init) (defScope s_Weight_init) (.ref T_Weight_init) kV_Weight_init dc_Weight_init pm_Weight_init an_Weight_init cd_Weight_init ct_Weight_init), sl_Weight_init⟩)
    (c_Weight_init : PySem.W.codeIn K cd_Weight_init "Weight.__init__" = true)
    (k_Weight_init : PySem.W.keepIn K (.ref f_Weight_init) = true)
    (lT_Weight_init : K.lookup T_Weight_init = some ⟨ocT_Weight_init, odT_Weight_init, .seq (List.toArray [Value.int 0 t_Weight_init_0, Value.int 0 t_Weight_init_1, Value.int 0 t_Weight_init_2]) nT_Weight_init, slT_Weight_init⟩)
    (a_Weight_eq : PySem.W.findIn K (.ref C_Weight) "__eq__" = some (some (.ref f_Weight_eq)))
    (i_Weight_eq : PySem.W.isFn K (.ref f_Weight_eq) = true)
    (l_Weight_eq : K.lookup f_Weight_eq = some ⟨oc_Weight_eq, od_Weight_eq, .func (PySem.W.fnOf "__eq__" "Weight.__eq__" (defArgs s_Weight_eq) (defBody s_Weight_eq) (defScope s_Weight_eq) .none kV_Weight_eq dc_Weight_eq pm_Weight_eq an_Weight_eq cd_Weight_eq ct_Weight_eq), sl_Weight_eq⟩)
    (c_Weight_eq : PySem.W.codeIn K cd_Weight_eq "Weight.__eq__" = true)
    (k_Weight_eq : PySem.W.keepIn K (.ref f_Weight_eq) = true)
    (a_written_parts : PySem.W.nsIn K mainGlobals "written_parts" = some (some (.ref f_written_parts)))
    (l_written_parts : K.lookup f_written_parts = some ⟨oc_written_parts, od_written_parts, .func (PySem.W.fnOf "written_parts" "written_parts" (defArgs s_written_parts) (defBody s_written_parts) (defScope s_written_parts) .none kV_written_parts dc_written_parts pm_written_parts an_written_parts cd_written_parts ct_written_parts), sl_written_parts⟩)
    (c_written_parts : PySem.W.codeIn K cd_written_parts "written_parts" = true)
    (k_written_parts : PySem.W.keepIn K (.ref f_written_parts) = true)
    (a_Weight_str : PySem.W.findIn K (.ref C_Weight) "__str__" = some (some (.ref f_Weight_str)))
    (i_Weight_str : PySem.W.isFn K (.ref f_Weight_str) = true)
    (l_Weight_str : K.lookup f_Weight_str = some ⟨oc_Weight_str, od_Weight_str, .func (PySem.W.fnOf "__str__" "Weight.__str__" (defArgs s_Weight_str) (defBody s_Weight_str) (defScope s_Weight_str) .none kV_Weight_str dc_Weight_str pm_Weight_str an_Weight_str cd_Weight_str ct_Weight_str), sl_Weight_str⟩)
    (c_Weight_str : PySem.W.codeIn K cd_Weight_str "Weight.__str__" = true)
    (k_Weight_str : PySem.W.keepIn K (.ref f_Weight_str) = true)
    (a_Weight_plus : PySem.W.findIn K (.ref C_Weight) "plus" = some (some (.ref f_Weight_plus)))
    (i_Weight_plus : PySem.W.isFn K (.ref f_Weight_plus) = true)
    (l_Weight_plus : K.lookup f_Weight_plus = some ⟨oc_Weight_plus, od_Weight_plus, .func (PySem.W.fnOf "plus" "Weight.plus" (defArgs s_Weight_plus) (defBody s_Weight_plus) (defScope s_Weight_plus) .none kV_Weight_plus dc_Weight_plus pm_Weight_plus an_Weight_plus cd_Weight_plus ct_Weight_plus), sl_Weight_plus⟩)
    (c_Weight_plus : PySem.W.codeIn K cd_Weight_plus "Weight.plus" = true)
    (k_Weight_plus : PySem.W.keepIn K (.ref f_Weight_plus) = true)
    (a_Weight_times : PySem.W.findIn K (.ref C_Weight) "times" = some (some (.ref f_Weight_times)))
    (i_Weight_times : PySem.W.isFn K (.ref f_Weight_times) = true)
    (l_Weight_times : K.lookup f_Weight_times = some ⟨oc_Weight_times, od_Weight_times, .func (PySem.W.fnOf "times" "Weight.times" (defArgs s_Weight_times) (defBody s_Weight_times) (defScope s_Weight_times) (.ref T_Weight_times) kV_Weight_times dc_Weight_times pm_Weight_times an_Weight_times cd_Weight_times ct_Weight_times), sl_Weight_times⟩)
    (c_Weight_times : PySem.W.codeIn K cd_Weight_times "Weight.times" = true)
    (k_Weight_times : PySem.W.keepIn K (.ref f_Weight_times) = true)
    (lT_Weight_times : K.lookup T_Weight_times = some ⟨ocT_Weight_times, odT_Weight_times, .seq (List.toArray [Value.int 2 t_Weight_times_0]) nT_Weight_times, slT_Weight_times⟩)
    (a_Short_init : PySem.W.findIn K (.ref C_Short) "__init__" = some (some (.ref f_Short_init)))
    (i_Short_init : PySem.W.isFn K (.ref f_Short_init) = true)
    (l_Short_init : K.lookup f_Short_init = some ⟨oc_Short_init, od_Short_init, .func (PySem.W.fnOf "__init__" "Short.__init__" (defArgs s_Short_init) (defBody s_Short_init) (defScope s_Short_init) .none kV_Short_init dc_Short_init pm_Short_init an_Short_init cd_Short_init ct_Short_init), sl_Short_init⟩)
    (c_Short_init : PySem.W.codeIn K cd_Short_init "Short.__init__" = true)
    (k_Short_init : PySem.W.keepIn K (.ref f_Short_init) = true)
    (a_Weight_less : PySem.W.findIn K (.ref C_Weight) "less" = some (some (.ref f_Weight_less)))
    (i_Weight_less : PySem.W.isFn K (.ref f_Weight_less) = true)
    (l_Weight_less : K.lookup f_Weight_less = some ⟨oc_Weight_less, od_Weight_less, .func (PySem.W.fnOf "less" "Weight.less" (defArgs s_Weight_less) (defBody s_Weight_less) (defScope s_Weight_less) .none kV_Weight_less dc_Weight_less pm_Weight_less an_Weight_less cd_Weight_less ct_Weight_less), sl_Weight_less⟩)
    (c_Weight_less : PySem.W.codeIn K cd_Weight_less "Weight.less" = true)
    (k_Weight_less : PySem.W.keepIn K (.ref f_Weight_less) = true)
    (a_law : PySem.W.nsIn K mainGlobals "law" = some (some (.ref f_law)))
    (l_law : K.lookup f_law = some ⟨oc_law, od_law, .func (PySem.W.fnOf "law" "law" (defArgs s_law) (defBody s_law) (defScope s_law) .none kV_law dc_law pm_law an_law cd_law ct_law), sl_law⟩)
    (c_law : PySem.W.codeIn K cd_law "law" = true)
    (k_law : PySem.W.keepIn K (.ref f_law) = true)
    (z_ArithmeticError : PySem.W.nsIn K mainGlobals "ArithmeticError" = some none)
    (z_ZeroDivisionError : PySem.W.nsIn K mainGlobals "ZeroDivisionError" = some none)
    (z_abs : PySem.W.nsIn K mainGlobals "abs" = some none)
    (z_divmod : PySem.W.nsIn K mainGlobals "divmod" = some none)
    (z_isinstance : PySem.W.nsIn K mainGlobals "isinstance" = some none)
    (z_len : PySem.W.nsIn K mainGlobals "len" = some none)
    (z_max : PySem.W.nsIn K mainGlobals "max" = some none)
    (z_min : PySem.W.nsIn K mainGlobals "min" = some none)
    (z_range : PySem.W.nsIn K mainGlobals "range" = some none)
    (aD_DRAMS_IN : PySem.W.nsIn K mainGlobals "DRAMS_IN" = some (some (.ref D_DRAMS_IN)))
    (lD_DRAMS_IN : K.lookup D_DRAMS_IN = some ⟨.type "dict", none, .dict es_DRAMS_IN n_DRAMS_IN, #[]⟩)
    (lo_DRAMS_IN : (D_DRAMS_IN == sysModules) = false)
    (kl_DRAMS_IN : PySem.W.KeysLit w.params es_DRAMS_IN.toList)
    (nD_DRAMS_IN_0 : PySem.W.nsIn K D_DRAMS_IN "lb" = some (some (Value.int 256 t_DRAMS_IN_0)))
    (nD_DRAMS_IN_1 : PySem.W.nsIn K D_DRAMS_IN "oz" = some (some (Value.int 16 t_DRAMS_IN_1)))
    (nD_DRAMS_IN_2 : PySem.W.nsIn K D_DRAMS_IN "dr" = some (some (Value.int 1 t_DRAMS_IN_2)))
    (ro_DRAMS_IN : rowsOk es_DRAMS_IN.toList [(.str "lb", .int 256), (.str "oz", .int 16), (.str "dr", .int 1)])
    : ∃ fd : FuncData, (∀ (s : Shared) (v : Value), BindsTo s fd ⟨[v], []⟩ [("script", v)]) ∧ ∀ base : Heap, K.In base → base.Ns mainGlobals mg → FnOk l.prog w K mg base CX0 8 fa fd ["script"] (sp_law0 K) := by
  have e : fa = f_law := by
    have z := hfa.symm.trans (PySem.W.mg_of X G a_law)
    cases z
    rfl
  have T : ∃ T : Txt K mg, T.f_law = fa ∧ T.PP = w.params ∧ ∀ (s : Shared) (v : Value), BindsTo s T.fd_law ⟨[v], []⟩ [("script", v)] := by
    refine ⟨{ C_Short := C_Short, C_Weight := C_Weight, f__law_pen := f__law_pen, f__law_draw := f__law_draw, f__law_number := f__law_number, f_Weight_init := f_Weight_init, f_Weight_eq := f_Weight_eq, f_written_parts := f_written_parts, f_Weight_str := f_Weight_str, f_Weight_plus := f_Weight_plus, f_Weight_times := f_Weight_times, f_Short_init := f_Short_init, f_Weight_less := f_Weight_less, f_law := f_law, fd__law_pen := _, fd__law_draw := _, fd__law_number := _, fd_Weight_init := _, fd_Weight_eq := _, fd_written_parts := _, fd_Weight_str := _, fd_Weight_plus := _, fd_Weight_times := _, fd_Short_init := _, fd_Weight_less := _, fd_law := _, mgc_Short := PySem.W.mg_of X G aC_Short, er_Short := ⟨⟨_, _, _, _, _, _, _, _, _, _, _, _, _, _, _, lC_Short, by first | rfl | decide +kernel⟩, PySem.F.excBase_ArithmeticError, PySem.F.store_ArithmeticError, sa_Short, ex_Short, ty_Short, kc_Short⟩, ea_Short := ⟨ic_Short, hd_Short, ga_Short, gg_Short, ex_Short, ha_Short, hn, ht, mo_Short⟩, te_Short := exm_own ex_Short hd_Short ty_Short so_Short, na_Short_by := na_Short_by, ti_Short_init := ti_Short_init, ke_Short_ZeroDivisionError := kit_ty (by decide +kernel) se_Short_ZeroDivisionError, ke_Short_ArithmeticError := kit_ty (by decide +kernel) se_Short_ArithmeticError, vi_ArithmeticError := vi_ArithmeticError, mgc_Weight := PySem.W.mg_of X G aC_Weight, cl_Weight := ⟨pg_Weight, hd_Weight, po_Weight, sa_Weight⟩, na_Weight_drams := na_Weight_drams, mk_Weight := ⟨mks_Weight, a_Weight_init, i_Weight_init, kc_Weight⟩, ne_Weight := ne_Weight, fo_Weight := fo_Weight, ha_Weight := ha_Weight, mo_Weight := mo_Weight, nF_Weight_own := nF_Weight_own, nF_Weight_NoneType := nF_Weight_NoneType, ki_Weight_own := if_pos (beq_self_eq_true _), ki_Weight_NoneType := kit_own ic_Weight ty_Weight su_Weight_NoneType, hn := hn, ht := ht, mg__law_pen := PySem.W.mg_of X G a__law_pen, F__law_pen := ⟨⟨_, _, _, _, _, _, _, _, _, _, rfl, l__law_pen, c__law_pen, .inl ⟨rfl, rfl⟩, .inl rfl⟩, k__law_pen⟩, mg__law_draw := PySem.W.mg_of X G a__law_draw, F__law_draw := ⟨⟨_, _, _, _, _, _, _, _, _, _, rfl, l__law_draw, c__law_draw, .inl ⟨rfl, rfl⟩, .inl rfl⟩, k__law_draw⟩, mg__law_number := PySem.W.mg_of X G a__law_number, F__law_number := ⟨⟨_, _, _, _, _, _, _, _, _, _, rfl, l__law_number, c__law_number, .inl ⟨rfl, rfl⟩, .inl rfl⟩, k__law_number⟩, m_Weight_init := ⟨a_Weight_init, i_Weight_init, k_Weight_init⟩, F_Weight_init := ⟨⟨_, _, _, _, _, _, _, _, _, _, rfl, l_Weight_init, c_Weight_init, .inr ⟨by simp, T_Weight_init, _, [Value.int 0 t_Weight_init_0, Value.int 0 t_Weight_init_1, Value.int 0 t_Weight_init_2], _, rfl, lT_Weight_init, rfl, .cons ⟨_, rfl⟩ (.cons ⟨_, rfl⟩ (.cons ⟨_, rfl⟩ .nil))⟩, .inl rfl⟩, k_Weight_init⟩, m_Weight_eq := ⟨a_Weight_eq, i_Weight_eq, k_Weight_eq⟩, F_Weight_eq := ⟨⟨_, _, _, _, _, _, _, _, _, _, rfl, l_Weight_eq, c_Weight_eq, .inl ⟨rfl, rfl⟩, .inl rfl⟩, k_Weight_eq⟩, mg_written_parts := PySem.W.mg_of X G a_written_parts, F_written_parts := ⟨⟨_, _, _, _, _, _, _, _, _, _, rfl, l_written_parts, c_written_parts, .inl ⟨rfl, rfl⟩, .inl rfl⟩, k_written_parts⟩, m_Weight_str := ⟨a_Weight_str, i_Weight_str, k_Weight_str⟩, F_Weight_str := ⟨⟨_, _, _, _, _, _, _, _, _, _, rfl, l_Weight_str, c_Weight_str, .inl ⟨rfl, rfl⟩, .inl rfl⟩, k_Weight_str⟩, m_Weight_plus := ⟨a_Weight_plus, i_Weight_plus, k_Weight_plus⟩, F_Weight_plus := ⟨⟨_, _, _, _, _, _, _, _, _, _, rfl, l_Weight_plus, c_Weight_plus, .inl ⟨rfl, rfl⟩, .inl rfl⟩, k_Weight_plus⟩, m_Weight_times := ⟨a_Weight_times, i_Weight_times, k_Weight_times⟩, F_Weight_times := ⟨⟨_, _, _, _, _, _, _, _, _, _, rfl, l_Weight_times, c_Weight_times, .inr ⟨by simp, T_Weight_times, _, [Value.int 2 t_Weight_times_0], _, rfl, lT_Weight_times, rfl, .cons ⟨_, rfl⟩ .nil⟩, .inl rfl⟩, k_Weight_times⟩, m_Short_init := ⟨a_Short_init, i_Short_init, k_Short_init⟩, F_Short_init := ⟨⟨_, _, _, _, _, _, _, _, _, _, rfl, l_Short_init, c_Short_init, .inl ⟨rfl, rfl⟩, .inl rfl⟩, k_Short_init⟩, m_Weight_less := ⟨a_Weight_less, i_Weight_less, k_Weight_less⟩, F_Weight_less := ⟨⟨_, _, _, _, _, _, _, _, _, _, rfl, l_Weight_less, c_Weight_less, .inl ⟨rfl, rfl⟩, .inl rfl⟩, k_Weight_less⟩, mg_law := PySem.W.mg_of X G a_law, F_law := ⟨⟨_, _, _, _, _, _, _, _, _, _, rfl, l_law, c_law, .inl ⟨rfl, rfl⟩, .inl rfl⟩, k_law⟩, b_ArithmeticError := PySem.W.mg_none_of X G z_ArithmeticError, b_ZeroDivisionError := PySem.W.mg_none_of X G z_ZeroDivisionError, b_abs := PySem.W.mg_none_of X G z_abs, b_divmod := PySem.W.mg_none_of X G z_divmod, b_isinstance := PySem.W.mg_none_of X G z_isinstance, b_len := PySem.W.mg_none_of X G z_len, b_max := PySem.W.mg_none_of X G z_max, b_min := PySem.W.mg_none_of X G z_min, b_range := PySem.W.mg_none_of X G z_range, PP := w.params, D_DRAMS_IN := D_DRAMS_IN, es_DRAMS_IN := es_DRAMS_IN, n_DRAMS_IN := n_DRAMS_IN, gd_DRAMS_IN := PySem.W.mg_of X G aD_DRAMS_IN, nD_DRAMS_IN_lb := ⟨_, nD_DRAMS_IN_0, ⟨_, rfl⟩⟩, nD_DRAMS_IN_oz := ⟨_, nD_DRAMS_IN_1, ⟨_, rfl⟩⟩, nD_DRAMS_IN_dr := ⟨_, nD_DRAMS_IN_2, ⟨_, rfl⟩⟩, lD_DRAMS_IN := lD_DRAMS_IN, lo_DRAMS_IN := lo_DRAMS_IN, kl_DRAMS_IN := kl_DRAMS_IN, ro_DRAMS_IN := rowsE_of ro_DRAMS_IN }, e.symm, rfl, fun s v => .of_eq rfl⟩
  obtain ⟨T, rfl, hw, hb⟩ := T
  exact ⟨T.fd_law, hb, fun base _ _ => ok_law T hw⟩
theorem walk {l : PySem.W.OpenLaw} {q : Program} {loose : List Str} {XP : (Str → Option Value) → Heap → Prop} {YP : World → Heap → Prop} {d : DefRec} {K : Params → PySem.W.Frag} (hn : l.most = some 63) (hdf : d.params.defaults = [])
    (hY : ∀ (w : World) (h : Heap), YP w h → (K w.params).In h)
    (F : ∀ (w : World) (mg : Str → Option Value) (fa : Addr) (h : Heap), (K w.params).In h → h.Ns mainGlobals mg → mg d.name = some (.ref fa) →
      ∃ fd : FuncData, (∀ (s : Shared) (u : Value), BindsTo s fd ⟨[u], []⟩ [("script", u)]) ∧ ∀ base : Heap, (K w.params).In base → base.Ns mainGlobals mg → FnOk l.prog w (K w.params) mg base CX0 8 fa fd ["script"] (sp_law0 (K w.params))) :
    PySem.W.WalkO q loose XP YP l.row.toRowW d [] (fun f vs => PySem.call f vs) :=
  L2.walk_of (n := 63) (k := 8) (x := "script") (CX := fun _ => CX0) (sp := fun w => sp_law0 (K w.params)) hn (by decide) hdf ⟨rfl, by decide, by decide⟩ hY F (fun _ _ a ns hl _ hS => ⟨a, ns, rfl, hS, hl, fun _ => rfl⟩) fun _ _ _ _ _ z => z
end Law
open PySem PySem.W PyProof.Rows
set_option maxRecDepth 100000 in
set_option maxHeartbeats 0 in
theorem PySem.Challenge.cw_yarnback_k02_weights_together_and_less_holds : PySem.Challenge.rw_yarnback_k02_weights_together_and_less.Holds := by
  w_on; o_law; k_head; (case hw => w_witness2)
  k_fill
  refine Law.walk (l := PySem.Challenge.rw_yarnback_k02_weights_together_and_less) rfl rfl (fun w h Y => PySem.W.kIn_of Y) ?F
  case F =>
    intro w mg fa h KX G hmg
    refine' Law.all_mk KX G hmg ?aC_Short ?lC_Short ?sa_Short ?ex_Short ?ty_Short ?kc_Short ?ic_Short ?hd_Short ?ga_Short ?gg_Short ?ha_Short ?mo_Short ?so_Short ?na_Short_by ?ti_Short_init ?se_Short_ZeroDivisionError ?se_Short_ArithmeticError ?vi_ArithmeticError ?aC_Weight ?pg_Weight ?hd_Weight ?po_Weight ?sa_Weight ?na_Weight_drams ?mks_Weight ?kc_Weight ?ne_Weight ?fo_Weight ?ha_Weight ?mo_Weight ?nF_Weight_own ?nF_Weight_NoneType ?ic_Weight ?ty_Weight ?su_Weight_NoneType ?hn ?ht ?a__law_pen ?l__law_pen ?c__law_pen ?k__law_pen ?a__law_draw ?l__law_draw ?c__law_draw ?k__law_draw ?a__law_number ?l__law_number ?c__law_number ?k__law_number ?a_Weight_init ?i_Weight_init ?l_Weight_init ?c_Weight_init ?k_Weight_init ?lT_Weight_init ?a_Weight_eq ?i_Weight_eq ?l_Weight_eq ?c_Weight_eq ?k_Weight_eq ?a_written_parts ?l_written_parts ?c_written_parts ?k_written_parts ?a_Weight_str ?i_Weight_str ?l_Weight_str ?c_Weight_str ?k_Weight_str ?a_Weight_plus ?i_Weight_plus ?l_Weight_plus ?c_Weight_plus ?k_Weight_plus ?a_Weight_times ?i_Weight_times ?l_Weight_times ?c_Weight_times ?k_Weight_times ?lT_Weight_times ?a_Short_init ?i_Short_init ?l_Short_init ?c_Short_init ?k_Short_init ?a_Weight_less ?i_Weight_less ?l_Weight_less ?c_Weight_less ?k_Weight_less ?a_law ?l_law ?c_law ?k_law ?z_ArithmeticError ?z_ZeroDivisionError ?z_abs ?z_divmod ?z_isinstance ?z_len ?z_max ?z_min ?z_range ?aD_DRAMS_IN ?lD_DRAMS_IN ?lo_DRAMS_IN ?kl_DRAMS_IN ?nD_DRAMS_IN_0 ?nD_DRAMS_IN_1 ?nD_DRAMS_IN_2 ?ro_DRAMS_IN
    (case aC_Short => k_is)
    (case lC_Short => k_is)
    (case sa_Short => k_is)
    (case ex_Short => k_is)
    (case ty_Short => k_is)
    (case kc_Short => k_is)
    (case ic_Short => k_is)
    (case hd_Short => k_is)
    (case ga_Short => k_is)
    (case gg_Short => k_is)
    (case ha_Short => k_is)
    (case mo_Short => k_is)
    (case so_Short => first | rfl | k_is)
    (case na_Short_by => k_is)
    (case se_Short_ZeroDivisionError => k_is)
    (case se_Short_ArithmeticError => k_is)
    (case vi_ArithmeticError => k_is)
    (case aC_Weight => k_is)
    (case pg_Weight => k_is)
    (case hd_Weight => k_is)
    (case po_Weight => k_is)
    (case sa_Weight => k_is)
    (case na_Weight_drams => k_is)
    (case mks_Weight => k_is)
    (case kc_Weight => k_is)
    (case ne_Weight => k_is)
    (case fo_Weight => k_is)
    (case ha_Weight => k_is)
    (case mo_Weight => k_is)
    (case nF_Weight_own => k_is)
    (case nF_Weight_NoneType => k_is)
    (case ic_Weight => k_is)
    (case ty_Weight => k_is)
    (case su_Weight_NoneType => k_is)
    (case hn => k_is)
    (case ht => k_is)
    (case a__law_pen => k_is)
    (case l__law_pen => k_is)
    (case c__law_pen => k_is)
    (case k__law_pen => k_is)
    (case a__law_draw => k_is)
    (case l__law_draw => k_is)
    (case c__law_draw => k_is)
    (case k__law_draw => k_is)
    (case a__law_number => k_is)
    (case l__law_number => k_is)
    (case c__law_number => k_is)
    (case k__law_number => k_is)
    (case a_Weight_init => k_is)
    (case i_Weight_init => k_is)
    (case l_Weight_init => k_is)
    (case c_Weight_init => k_is)
    (case k_Weight_init => k_is)
    (case lT_Weight_init => k_is)
    (case a_Weight_eq => k_is)
    (case i_Weight_eq => k_is)
    (case l_Weight_eq => k_is)
    (case c_Weight_eq => k_is)
    (case k_Weight_eq => k_is)
    (case a_written_parts => k_is)
    (case l_written_parts => k_is)
    (case c_written_parts => k_is)
    (case k_written_parts => k_is)
    (case a_Weight_str => k_is)
    (case i_Weight_str => k_is)
    (case l_Weight_str => k_is)
    (case c_Weight_str => k_is)
    (case k_Weight_str => k_is)
    (case a_Weight_plus => k_is)
    (case i_Weight_plus => k_is)
    (case l_Weight_plus => k_is)
    (case c_Weight_plus => k_is)
    (case k_Weight_plus => k_is)
    (case a_Weight_times => k_is)
    (case i_Weight_times => k_is)
    (case l_Weight_times => k_is)
    (case c_Weight_times => k_is)
    (case k_Weight_times => k_is)
    (case lT_Weight_times => k_is)
    (case a_Short_init => k_is)
    (case i_Short_init => k_is)
    (case l_Short_init => k_is)
    (case c_Short_init => k_is)
    (case k_Short_init => k_is)
    (case a_Weight_less => k_is)
    (case i_Weight_less => k_is)
    (case l_Weight_less => k_is)
    (case c_Weight_less => k_is)
    (case k_Weight_less => k_is)
    (case a_law => k_is)
    (case l_law => k_is)
    (case c_law => k_is)
    (case k_law => k_is)
    (case z_ArithmeticError => k_is)
    (case z_ZeroDivisionError => k_is)
    (case z_abs => k_is)
    (case z_divmod => k_is)
    (case z_isinstance => k_is)
    (case z_len => k_is)
    (case z_max => k_is)
    (case z_min => k_is)
    (case z_range => k_is)
    (case aD_DRAMS_IN => k_is)
    (case lD_DRAMS_IN => k_is)
    (case lo_DRAMS_IN => first | rfl | decide +kernel | k_is)
    (case kl_DRAMS_IN => exact ⟨⟨_, _, rfl, rfl⟩, ⟨_, _, rfl, rfl⟩, ⟨_, _, rfl, rfl⟩, trivial⟩)
    (case nD_DRAMS_IN_0 => k_is)
    (case nD_DRAMS_IN_1 => k_is)
    (case nD_DRAMS_IN_2 => k_is)
    (case ro_DRAMS_IN => exact ⟨⟨⟨_, rfl⟩, ⟨_, rfl⟩⟩, ⟨⟨_, rfl⟩, ⟨_, rfl⟩⟩, ⟨⟨_, rfl⟩, ⟨_, rfl⟩⟩, trivial⟩)
    (case ti_Short_init => k_is)
