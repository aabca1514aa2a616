import PyProof.Rows.All
import Wide.All
import OpenK.AllK
import Wide.FinOn
import HandS.ForMost
import HandS.Defaults
import HandS.MakeKw
import HandS.MakeKwOnly
import HandS.Wide
import HandS.Flow
import HandS.Style
import HandS.IsInst
import HandS.StrMore
import HandS.Codes
import KE.KCallOwn
import KE.KFmtOwn
import HandS.OwnEq
import HandS.FStr
import HandS.Sort
import HandS.Exc
import HandS.ExcInit
import HandS.ExcIs
import HandS.ExcField
import HandS.ExcOwn
import HandS.CallSlots
import HandS.WordsExc
import KE.KExcInit
import KE.KExcIs
import KE.KDictWalk
import HandS.Iter
import HandS.More
import HandS.WideBits
import HandS.Text
import HandS.Zip
import PyProof.SliceList
import HandS.SetFor
import KE.IntTextLaws
import PyProof.Rows.StrSplitJoin
import PySem.Challenge.RW_yarnback_k03_what_writes_no_weight
set_option Elab.async false
set_option linter.all false
set_option maxRecDepth 100000
set_option maxHeartbeats 4000000
namespace Yarn
open PySem PySem.Spec PyProof.Rows L2

/-! ### closing a reading upwards: what holds of a continuation holds of a weaker one -/
def clA (t : TA) : TA := fun σ H K => ∃ K0, t σ H K0 ∧ ∀ xs H1, K0 xs H1 → K xs H1
def clE (t : TE) : TE := fun σ H K => ∃ K0, t σ H K0 ∧ ∀ x H1, K0 x H1 → K x H1
section
variable {X : Cx}
theorem PA.cl {es : List Expr} {t : TA} (h : PA X es t) : PA X es (clA t) := ⟨fun pos pins s σ H Q I q => by
  obtain ⟨K0, q0, m⟩ := q
  exact thn (h.run pos pins s σ H K0 I q0) fun us s1 ⟨vs, H1, I1, r, z⟩ => ⟨vs, H1, I1, r, m _ _ z⟩⟩
theorem PK.cl {ks : List Keyword} {t : TA} (h : PK X ks t) : PK X ks (clA t) := ⟨fun pos pins s σ H Q I q => by
  obtain ⟨K0, q0, m⟩ := q
  exact thn (h.run pos pins s σ H K0 I q0) fun us s1 ⟨vs, H1, I1, r, z⟩ => ⟨vs, H1, I1, r, m _ _ z⟩⟩
theorem PE.cl {e : Expr} {t : TE} (h : PE X e t) : PE X e (clE t) := ⟨fun pins s σ H Q I q => by
  obtain ⟨K0, q0, m⟩ := q
  exact thn (h.run pins s σ H K0 I q0) fun u s1 ⟨x, H1, I1, r, z⟩ => ⟨x, H1, I1, r, m _ _ z⟩⟩
theorem PE.weak {e : Expr} {t t' : TE} (h : PE X e t) (m : ∀ σ H Q, t' σ H Q → t σ H Q) : PE X e t' := ⟨fun pins s σ H Q I q => h.run pins s σ H Q I (m σ H Q q)⟩
theorem PS.weak {e : Stmt} {t t' : TS} (h : PS X e t) (m : ∀ D σ H, t' D σ H → t D σ H) : PS X e t' := ⟨fun pins s σ H D I q => h.run pins s σ H D I (m D σ H q)⟩
end

/-! ### what a step keeps -/
/-- all but the object at p -/
def But (p : Addr) (H H' : Hp) : Prop := ∀ a o, a ≠ p → H a = some o → H' a = some o
theorem But.trans {p : Addr} {H H1 H2 : Hp} (a : But p H H1) (b : But p H1 H2) : But p H H2 := fun c o h e => b c o h (a c o h e)
theorem same_but {p : Addr} {H H1 : Hp} (a : Same H H1) : But p H H1 := fun c o _ e => a c o e
theorem same_upd {H : Hp} {p : Addr} {o : HO} (h : H p = none) : Same H (upd H p o) := fun a u e => by rw [upd_ne (ne_of_none e h)]; exact e
theorem but_upd {H : Hp} {p : Addr} {o : HO} : But p H (upd H p o) := fun a u h e => by rw [upd_ne h]; exact e
/-- an object is made at x (new), and then filled -/
theorem same_new {H H1 H2 : Hp} {x : Addr} (n : H x = none) (s : Same H H1) (b : But x H1 H2) : Same H H2 := fun a o e => b a o (ne_of_none e n) (s a o e)

/-! ### displays, by what the heap behind them keeps -/
def tLstY (t : TA) : TE := fun σ H Q => t σ H fun xs H1 => xs.length ≤ sizeLine ∧ ∀ p H2, H1 p = none → Same H1 H2 → H2 p = some (.lst xs) → Q (.ref p) H2
def tTupY (t : TA) : TE := fun σ H Q => t σ H fun xs H1 => xs.length ≤ sizeLine ∧ ∀ p H2, H1 p = none → Same H1 H2 → H2 p = some (.tup xs) → Q (.ref p) H2
section
variable {X : Cx} {es : List Expr} {t : TA} {pos : Pos}
theorem pe_lstY (h : PA X es t) : PE X (.List es pos) (tLstY t) :=
  PE.weak (pe_lst (PA.cl h)) fun σ H Q q => ⟨_, q, fun xs H1 z => ⟨z.1, fun p hp => z.2 p _ hp (same_upd hp) upd_same⟩⟩
theorem pe_tupY {x1} (h : PA X es t) : PE X (.Tuple es x1 pos) (tTupY t) :=
  PE.weak (pe_tup (PA.cl h)) fun σ H Q q => ⟨_, q, fun xs H1 z => ⟨z.1, fun p hp => z.2 p _ hp (same_upd hp) upd_same⟩⟩
end

/-! ### a slice of a list -/
def rSlLY (K : PySem.W.Frag) : V → Option Int → Option Int → Hp → VK → Prop := fun x lo hi H Q => ∃ a xs, x = .ref a ∧ SqL K H a xs ∧ ∀ p H2, H p = none → Same H H2 → H2 p = some (.lst (cutV xs lo hi)) → Q (.ref p) H2

/-! ### an instance is made -/
def tMakeY (C : Addr) (sp : Sp) (dvs : List V) (E : XK) (t : TA) : TE := fun σ H Q => t σ H fun vs H1 => ∀ x dx H2, H1 x = none → dx ≠ x → Same H1 H2 → H2 x = some (.ins C dx []) →
  sp (.ref x :: (vs ++ dvs)) H2 (fun v H3 => v = .non ∧ Q (.ref x) H3) E
def tMakeNY (C : Addr) (n m : Nat) (sp : Sp) (gV : List V → List V → List V) (E : XK) (t tk : TA) : TE := fun σ H Q => t σ H fun vs H1 => tk σ H1 fun zs H2 => vs.length = n ∧ zs.length = m ∧
  ∀ x dx H3, H2 x = none → dx ≠ x → Same H2 H3 → H3 x = some (.ins C dx []) → sp (gV (.ref x :: vs) zs) H3 (fun v H4 => v = .non ∧ Q (.ref x) H4) E
section
variable {X : Cx} {CX : CXT} {k n : Nat} {f C : Addr} {fd : FuncData} {ps ks : List Str} {sp : Sp} {E : XK} {dvs : List V} {ds : List Value} {x : Str} {p pos : Pos} {e : Expr} {es : List Expr} {kws : List Keyword} {t tk : TA} {g : List Value → List Value → List Value} {gV : List V → List V → List V}
theorem same_made {H : Hp} {x dx : Addr} (hx : H x = none) (hd : H dx = none) (ne : dx ≠ x) : Same H (upd (upd H dx (.own x)) x (.ins C dx [])) := fun a o z => by
  rw [upd_ne (ne_of_none z hx), upd_ne (ne_of_none z hd)]
  exact z
theorem pe_makeY (M : Mk X.K C f) (F : FnOk X.prog X.w X.K X.mg X.base CX k f fd ps sp) (hr : Room (k + 1) X.A) (hg : Gl X x) (hm : X.mg x = some (.ref C)) (hb : Binds X.K fd ps ds) (hd : Vals dvs ds) (hx : Passes CX X E) (ha : PA X (e :: es) t)
    (hdb : (x == ("__debug__" : Str)) = false := by decide)
    (he : starEach (e :: es) X.env = (false, eval e X.env) :: starEach es X.env := by rfl) (hpl : (backTo pos (starEach es X.env)).any (·.1) = false := by rfl) :
    PE X (.Call (.Name x p) (e :: es) [] pos) (tMakeY C sp dvs E t) :=
  PE.weak (pe_make M F hr hg hm hb hd hx (PA.cl ha) hdb he hpl) fun σ H Q q => ⟨_, q, fun vs H1 z y dy h1 h2 h3 => z y dy _ h1 h3 (same_made h1 h2 h3) upd_same⟩
theorem pe_makeY0 (M : Mk X.K C f) (F : FnOk X.prog X.w X.K X.mg X.base CX k f fd ps sp) (hr : Room (k + 1) X.A) (hg : Gl X x) (hm : X.mg x = some (.ref C)) (hb : Binds X.K fd ps ds) (hd : Vals dvs ds) (hx : Passes CX X E)
    (hdb : (x == ("__debug__" : Str)) = false := by decide) :
    PE X (.Call (.Name x p) [] [] pos) (tMakeY C sp dvs E tNil) :=
  PE.weak (pe_make0 M F hr hg hm hb hd hx hdb) fun σ H Q q => fun y dy h1 h2 h3 => q y dy _ h1 h3 (same_made h1 h2 h3) upd_same
theorem pe_makeNY (M : Mk X.K C f) (F : FnOk X.prog X.w X.K X.mg X.base CX k f fd ps sp) (hr : Room (k + 1) X.A) (hg : Gl X x) (hm : X.mg x = some (.ref C)) (hb : KBn X.K fd ps (n + 1) ks g gV) (hx : Passes CX X E)
    (ha : PA X (e :: es) t) (hkw : PK X kws tk) (hall : (backToKw pos (keywordEach kws X.env)).all (·.1.isSome) = true := by rfl) (hks : (backToKw pos (keywordEach kws X.env)).filterMap (·.1) = ks := by rfl)
    (hdb : (x == ("__debug__" : Str)) = false := by decide) (he : starEach (e :: es) X.env = (false, eval e X.env) :: starEach es X.env := by rfl)
    (hpl : ((backTo pos (starEach (e :: es) X.env)).any (·.1) || (backToKw pos (keywordEach kws X.env)).any (·.1.isNone)) = false := by rfl) :
    PE X (.Call (.Name x p) (e :: es) kws pos) (tMakeNY C n ks.length sp gV E t tk) :=
  PE.weak (pe_makeN M F hr hg hm hb hx (PA.cl ha) (PK.cl hkw) hall hks hdb he hpl) fun σ H Q q =>
    ⟨_, q, fun vs H1 z => ⟨_, z, fun zs H2 ⟨l1, l2, w⟩ => ⟨l1, l2, fun y dy h1 h2 h3 => w y dy _ h1 h3 (same_made h1 h2 h3) upd_same⟩⟩⟩
theorem pe_makeKY (M : Mk X.K C f) (F : FnOk X.prog X.w X.K X.mg X.base CX k f fd ps sp) (hr : Room (k + 1) X.A) (hg : Gl X x) (hm : X.mg x = some (.ref C)) (hb : KBn X.K fd ps 1 ks g gV) (hx : Passes CX X E) (hkw : PK X kws tk)
    (hall : (backToKw pos (keywordEach kws X.env)).all (·.1.isSome) = true := by rfl) (hks : (backToKw pos (keywordEach kws X.env)).filterMap (·.1) = ks := by rfl) (hdb : (x == ("__debug__" : Str)) = false := by decide)
    (hpl : ((backTo pos (starEach [] X.env)).any (·.1) || (backToKw pos (keywordEach kws X.env)).any (·.1.isNone)) = false := by rfl) :
    PE X (.Call (.Name x p) [] kws pos) (tMakeNY C 0 ks.length sp gV E tNil tk) :=
  PE.weak (pe_makeK0 M F hr hg hm hb hx (PK.cl hkw) hall hks hdb hpl) fun σ H Q q =>
    ⟨_, q, fun zs H2 ⟨l1, l2, w⟩ => ⟨l1, l2, fun y dy h1 h2 h3 => w y dy _ h1 h3 (same_made h1 h2 h3) upd_same⟩⟩
end

/-! ### a field is stored -/
def sFldY (K : PySem.W.Frag) (ta tv : TE) (f : Str) : TS := fun D σ H => tv σ H fun y H1 => ta σ H1 fun x H2 => ∃ a C dx fs, x = .ref a ∧ H2 a = some (.ins C dx fs) ∧ Cls K C ∧ NoAttr K C f ∧ fs.length < 1000 ∧
  ∀ H3, But a H2 H3 → H3 a = some (.ins C dx (putF f y fs)) → D.nx σ H3
theorem ps_fldY {X : Cx} {o value : Expr} {f : Str} {pos pos' : Pos} {ta tv : TE} (ha : PE X o ta) (hv : PE X value tv) (hs : swapsWith value (some (.Attribute o f pos')) pos.line X.env = pure false) :
    PS X (.Assign [.Attribute o f pos'] value pos) (sFldY X.K ta tv f) :=
  PS.weak (ps_fld (PE.cl ha) (PE.cl hv) hs) fun D σ H q => ⟨_, q, fun y H1 z => ⟨_, z, fun x H2 ⟨a, C, dx, fs, e, h, c, n, l, w⟩ => ⟨a, C, dx, fs, e, h, c, n, l, w _ but_upd upd_same⟩⟩⟩
end Yarn

set_option Elab.async false
set_option linter.all false
set_option maxRecDepth 100000
set_option maxHeartbeats 4000000
namespace Yarn
open PySem PySem.Spec PyProof.Rows L2

section
variable {X : Cx} {CX : CXT} {pins : List (Addr × Obj)} {σ : L2.St} {H : Hp} {s : Shared} {C f : Addr} {fd : FuncData} {ps : List Str} {sp : Sp} {E : XK} {n : Nat}
/-- a def of the text runs somewhere below the running body -/
theorem at_fn {A : Around} {Q : VK} {us : List Value} {vs : List V} (F : FnOk X.prog X.w X.K X.mg X.base CX n f fd ps sp) (hr : Room n A) (e0 : Env0 X.prog X.w X.K X.mg X.base A X.stack s H)
    (hb : Binds X.K fd ps []) (hx : Passes CX X E) (I : Inv X pins σ H s) (r : Vals vs us) (h : sp vs H Q E) :
    wpAny (model X.prog X.w) A (call (.ref f) us) (EP X pins σ Q) X.xe s := by
  have hl := F.len _ _ _ _ h
  have hb' : BindsTo s fd ⟨us, []⟩ (ps.zip us) := by
    have z := hb s us I.kIn (by rw [List.append_nil, ← r.length]; exact hl)
    rw [List.append_nil] at z
    exact z
  refine wpAny_call (codeAny_mono (F.run A X.stack s H ⟨us, []⟩ us vs Q E hr e0 hb' r h) fun r s' hq => ?_)
  cases r with
  | error e => exact hx pins σ H s e s' I hq
  | ok fl =>
    cases fl with
    | ret u => exact I.after hq
    | next => exact hq.elim
    | brk => exact hq.elim
    | cont => exact hq.elim
theorem room_in1 {A : Around} (h : Room (n + 1) A) : Room n A.in1 := h.in1

/-! ### == and != by an own __eq__ -/
/-- the class of a value as it is looked up -/
inductive ClOf (H : Hp) : V → Value → Prop where
  | non : ClOf H .non (.type "NoneType")
  | bl (b : Bool) : ClOf H (.bl b) (.type "bool")
  | int (i : Int) : ClOf H (.int i) (.type "int")
  | str (x : Str) : ClOf H (.str x) (.type "str")
  | tup {a : Addr} {xs : List V} (e : H a = some (.tup xs)) : ClOf H (.ref a) (.type "tuple")
  | lst {a : Addr} {xs : List V} (e : H a = some (.lst xs)) : ClOf H (.ref a) (.type "list")
  | ins {a C dx : Addr} {fs : List (Str × V)} (e : H a = some (.ins C dx fs)) : ClOf H (.ref a) (.ref C)
theorem looks_cls {M : Model} {h : Heap} {a : Addr} {o : Obj} (e : h.get? a = some o) : PySem.W.Looks M h (typeOf (.ref a)) o.cls := fun A Q E s k q => wpAny_typeOf_ref (k _ _ e) q
theorem ClOf.looks {M : Model} {y : V} {u t : Value} (I : Inv X pins σ H s) (r : RelV y u) (c : ClOf H y t) : PySem.W.Looks M s.heap (typeOf u) t := by
  cases c with
  | non => cases (show u = Value.none from r); exact PySem.W.Looks.of_pure rfl
  | bl b => cases (show u = Value.bool b from r); exact PySem.W.Looks.of_pure rfl
  | int i => obtain ⟨t, q⟩ := (show ∃ t, u = Value.int i t from r); cases q; exact PySem.W.Looks.of_pure rfl
  | str x => obtain ⟨t, q⟩ := (show ∃ t, u = Value.str x t from r); cases q; exact PySem.W.Looks.of_pure rfl
  | @tup a xs ea =>
    cases (show u = Value.ref a from r)
    obtain ⟨_, _, _, o, h1, h2, _⟩ := (show ObjOk X.prog X.w H s.heap a (.tup xs) from I.hok a _ ea)
    rw [← h2]
    exact looks_cls h1
  | @lst a xs ea =>
    cases (show u = Value.ref a from r)
    obtain ⟨_, _, m, _, h1⟩ := (show ObjOk X.prog X.w H s.heap a (.lst xs) from I.hok a _ ea)
    exact looks_cls h1
  | @ins a C dx fs ea =>
    cases (show u = Value.ref a from r)
    obtain ⟨mA, O, _⟩ := ins_get I.hok ea
    obtain ⟨od, J, _⟩ := O.look
    exact J.type
/-- x == y, x an instance of the class at C -/
def rEqO (K : PySem.W.Frag) (C : Addr) (sp : Sp) (E : XK) : R2 := fun x y H Q => ∃ a dx fs tb, x = .ref a ∧ H a = some (.ins C dx fs) ∧ ClOf H y tb ∧ PySem.W.notFirst K C tb = true ∧ sp [x, y] H Q E
theorem back_cmp {P : Value → Shared → Prop} {z : V} {v : Value} {s' : Shared} (r : RelV z v) (h : P v s') : PySem.W.CmpBack P v s' := by
  cases z with
  | non => cases (show v = Value.none from r); exact h
  | bl b => cases (show v = Value.bool b from r); exact h
  | int i => obtain ⟨t, e⟩ := (show ∃ t, v = Value.int i t from r); cases e; exact h
  | str x => obtain ⟨t, e⟩ := (show ∃ t, v = Value.str x t from r); cases e; exact h
  | byt x => obtain ⟨t, e⟩ := (show ∃ t, v = Value.bytes x t from r); cases e; exact h
  | flt x => obtain ⟨t, e⟩ := (show ∃ t, v = Value.float x t from r); cases e; exact h
  | ref a => cases (show v = Value.ref a from r); exact h
  | ty m => cases (show v = Value.type m from r); exact h
theorem op_eqO (F : FnOk X.prog X.w X.K X.mg X.base CX n f fd ps sp) (hr : Room n X.A) (hs : PySem.W.findIn X.K (.ref C) "__eq__" = some (some (.ref f))) (hf : PySem.W.isFn X.K (.ref f) = true) (hb : Binds X.K fd ps [])
    (hx : Passes CX X E) : OpR X (compareOp .Eq) (rEqO X.K C sp E) := by
  intro pins s σ H x y v u Q I rx ry h
  obtain ⟨a, dx, fs, tb, rfl, ea, hc, hn, q⟩ := h
  cases (show v = Value.ref a from rx)
  obtain ⟨mA, O, _⟩ := ins_get I.hok ea
  obtain ⟨od, J, _⟩ := O.look
  obtain ⟨m, hF⟩ := I.fr
  show wpAny (model X.prog X.w) X.A (richCompare .Eq (.ref a) u) (EP X pins σ Q) X.xe s
  refine PySem.W.cmp_K (op := .Eq) (tb := tb) hr.units0 hF I.ok.mod.kin J (hc.looks I ry) hn hs hf (thn (at_fn F hr I.env0 hb hx I (.cons rx (.cons ry .nil)) q) fun w s' z => ?_)
  obtain ⟨z', H', I', rz, qz⟩ := z
  exact back_cmp rz ⟨z', H', I', rz, qz⟩

theorem ifBound_B {M : Model} {A : Around} {E : Value → Shared → Prop} {K : PySem.W.Frag} {x : Addr} {ox : Obj} {od : Option Obj} {name : Str} {id : String} {args : List Value} {Q : Option Value → Shared → Prop} (Xk : K.In s.heap) (I : PySem.W.InstAt s.heap x ox C od)
    (hs : PySem.W.findIn K (.ref C) name = some (some (.builtin id))) (hb : ∀ self, bindSpecial (.builtin id) self = pure (.builtin id, [self]))
    (h : wpAny M A (call (.builtin id) (.ref x :: args)) (fun v => Q (some v)) E s) : wpAny M A (callSpecialIfBound? (.ref x) name args) Q E s := by
  simp only [callSpecialIfBound?, bindSpecialIfBound?]
  have L1 := (PySem.W.looks_findIn (M := M) Xk hs)
  refine wpAny_holding (wpAny_bind (wpAny_bind (wpAny_bind (I.type.here (L1.here ?_)))))
  refine wpAny_bind (wpAny_askSetting (wpAny_ite ?_))
  have fin : wpAny M A (call (.builtin id) ([.ref x] ++ args) >>= fun v => pure (some v)) Q E s := wpAny_bind (wpAny_mono h (fun v s' z => wpAny_pure z) fun _ _ z => z)
  split
  · exact wpAny_bind ((PySem.W.Looks.of_pure (hb _)).here (wpAny_pure (by exact fin)))
  · exact wpAny_tryCatch (wpAny_bind ((PySem.W.Looks.of_pure (hb _)).here (wpAny_pure (by exact fin))))

/-- object.__ne__ over an own __eq__ that gives a truth -/
theorem objNe_own {prog : Program} {w : World} {A : Around} {E : Value → Shared → Prop} {K : PySem.W.Frag} {x : Addr} {b : Value} {ox : Obj} {od : Option Obj} {Q : Value → Shared → Prop} (hu : A.in1.units < cLine) (Xk : K.In s.heap) (I : PySem.W.InstAt s.heap x ox C od)
    (hm : PySem.W.mroIn K C (.type "object") = some true) (hr : PySem.W.findIn K (.ref C) "__eq__" = some (some (.ref f))) (hf : PySem.W.isFn K (.ref f) = true)
    (h : wpAny (model prog w) A.in1 (call (.ref f) [.ref x, b]) (fun v s' => ∃ k, v = .bool k ∧ Q (.bool (!k)) s') E s) : wpAny (model prog w) A (call (.builtin "object.__ne__") [.ref x, b]) Q E s := by
  refine wpAny_call (codeAny_call_builtin PySem.F.slot_object_ne.plain PySem.F.cmpEntry_ne (PySem.W.check_slot (i := "object.__ne__") (owner := "object") (n := "__ne__") PySem.F.cmpKind_ne PySem.F.cmpSplit_ne (I.type.andThen (PySem.W.looks_mroIn Xk hm)) (PySem.F.cmpArgs_ne _ _) ?_))
  unfold Builtin.«object.__ne__»
  refine wpAny_bind (m := slotArgs "__ne__" 1 _) (wpAny_pure ?_)
  refine wpAny_bind (m := cRoomFor _ _) (wpAny_cRoomFor hu ?_)
  refine wpAny_bind (m := callSpecialIfBound? (.ref x) (Str.ofString "__eq__") _) (PySem.W.ifBound_K Xk I hr hf (wpAny_mono h (fun r s' hq => ?_) fun _ _ y => y))
  obtain ⟨k, e, q⟩ := hq
  subst e
  refine wpAny_bind (wpAny_truthy_bool ?_)
  exact wpAny_pure q

/-- x != y by object.__ne__ -/
def rNeO (K : PySem.W.Frag) (C : Addr) (sp : Sp) (E : XK) : R2 := fun x y H Q => ∃ a dx fs tb, x = .ref a ∧ H a = some (.ins C dx fs) ∧ ClOf H y tb ∧ PySem.W.notFirst K C tb = true ∧ sp [x, y] H (fun v H' => ∃ k, v = .bl k ∧ Q (.bl (!k)) H') E
theorem cmp_ne_own {prog : Program} {w : World} {A : Around} {E : Value → Shared → Prop} {K : PySem.W.Frag} {x : Addr} {b tb : Value} {ox : Obj} {od : Option Obj} {Q : Value → Shared → Prop} (hu : A.units < cLine) (hu2 : A.in1.units < cLine) (Xk : K.In s.heap) (I : PySem.W.InstAt s.heap x ox C od)
    (hl : PySem.W.Looks (model prog w) s.heap (typeOf b) tb) (hn : PySem.W.notFirst K C tb = true)
    (hm : PySem.W.mroIn K C (.type "object") = some true) (hne : PySem.W.findIn K (.ref C) "__ne__" = some (some (.builtin "object.__ne__"))) (hr : PySem.W.findIn K (.ref C) "__eq__" = some (some (.ref f))) (hf : PySem.W.isFn K (.ref f) = true)
    (h : wpAny (model prog w) A.in1 (call (.ref f) [.ref x, b]) (fun v s' => ∃ k, v = .bool k ∧ Q (.bool (!k)) s') E s) : wpAny (model prog w) A (richCompare .NotEq (.ref x) b) Q E s := by
  have one : wpAny (model prog w) A (tryCompare (.ref x) (cmpInfo .NotEq).2.1 b) (fun r s' => ∃ v, r = some v ∧ Q v s') E s := by
    show wpAny (model prog w) A (tryCompare (.ref x) "__ne__" b) _ E s
    unfold tryCompare
    refine wpAny_bind (ifBound_B Xk I hne PySem.F.slot_object_ne.bind (objNe_own hu2 Xk I hm hr hf (wpAny_mono h (fun v s' hv => ?_) fun _ _ e => e)))
    obtain ⟨k, e, q⟩ := hv
    exact ⟨k, e, wpAny_pure ⟨_, rfl, q⟩⟩
  unfold richCompare
  simp only [oneThing_ref]
  refine wpAny_holding (wpAny_bind (wpAny_cRoomFor hu ?_))
  refine wpAny_bind (I.type.here (wpAny_bind (hl.here ?_)))
  have tail : ∀ t : Sem Value, wpAny (model prog w) A (tryCompare (.ref x) (cmpInfo .NotEq).2.1 b >>= fun r => match r with | some v => pure v | none => t) Q E s := fun t => by
    refine wpAny_bind (wpAny_mono one (fun r s' z => ?_) fun _ _ e => e)
    obtain ⟨v, rfl, hq⟩ := z
    exact wpAny_pure hq
  split
  · rename_i q
    have e : PySem.W.subIn K tb (.ref C) = some false := by
      rcases Bool.or_eq_true_iff.mp hn with e | e
      · rw [beq_iff_eq.mp e] at q
        simp at q
      · exact beq_iff_eq.mp e
    refine wpAny_bind ((PySem.W.looks_subIn Xk e).here ?_)
    simp only [Bool.false_eq_true, if_false]
    refine wpAny_bind (wpAny_mono one (fun r s' z => ?_) fun _ _ e => e)
    obtain ⟨v, rfl, hq⟩ := z
    exact wpAny_pure hq
  · refine wpAny_bind (wpAny_pure ?_)
    simp only [Bool.false_eq_true, if_false]
    refine wpAny_bind (wpAny_mono one (fun r s' z => ?_) fun _ _ e => e)
    obtain ⟨v, rfl, hq⟩ := z
    exact wpAny_pure hq
theorem op_neO (F : FnOk X.prog X.w X.K X.mg X.base CX n f fd ps sp) (hr : Room (n + 1) X.A) (hs : PySem.W.findIn X.K (.ref C) "__eq__" = some (some (.ref f))) (hf : PySem.W.isFn X.K (.ref f) = true)
    (hne : PySem.W.findIn X.K (.ref C) "__ne__" = some (some (.builtin "object.__ne__"))) (hm : PySem.W.mroIn X.K C (.type "object") = some true) (hb : Binds X.K fd ps [])
    (hx : Passes CX X E) : OpR X (compareOp .NotEq) (rNeO X.K C sp E) := by
  intro pins s σ H x y v u Q I rx ry h
  obtain ⟨a, dx, fs, tb, rfl, ea, hc, hn, q⟩ := h
  cases (show v = Value.ref a from rx)
  obtain ⟨mA, O, _⟩ := ins_get I.hok ea
  obtain ⟨od, J, _⟩ := O.look
  show wpAny (model X.prog X.w) X.A (richCompare .NotEq (.ref a) u) (EP X pins σ Q) X.xe s
  refine cmp_ne_own (tb := tb) hr.units0 hr.in1.units0 I.kIn J (hc.looks I ry) hn hm hne hs hf (thn (at_fn F hr.in1 I.env0.in1 hb hx I (.cons rx (.cons ry .nil)) q) fun w s' z => ?_)
  obtain ⟨z', H', I', rz, k, e, qz⟩ := z
  subst e
  cases (show w = Value.bool k from rz)
  exact ⟨k, rfl, .bl (!k), H', I', rfl, qz⟩

/-! ### str(x), repr(x), len(x) of an instance -/
def rStrO (C : Addr) (sp : Sp) (E : XK) : List V → Hp → VK → Prop := fun xs H Q => ∃ a dx fs, xs = [.ref a] ∧ H a = some (.ins C dx fs) ∧ sp [.ref a] H (fun v H' => ∃ z, v = .str z ∧ Q v H') E
theorem call_strO (F : FnOk X.prog X.w X.K X.mg X.base CX n f fd ps sp) (hr : Room (n + 2) X.A) (hs : PySem.W.findIn X.K (.ref C) "__str__" = some (some (.ref f))) (hf : PySem.W.isFn X.K (.ref f) = true) (hb : Binds X.K fd ps [])
    (hx : Passes CX X E) : CallR X (.type "str") (rStrO C sp E) := by
  intro pins s σ H xs us Q I r h
  obtain ⟨a, dx, fs, rfl, ea, q⟩ := h
  obtain ⟨u, rfl, ru⟩ := vals1 r
  cases (show u = Value.ref a from ru)
  obtain ⟨mA, O, _⟩ := ins_get I.hok ea
  obtain ⟨od, J, _⟩ := O.look
  have hr1 : Room (n + 1) X.A.in1 := hr.in1
  refine PySem.W.kso_call hr1.in1.units0 I.kIn J hs hf (thn (at_fn F hr1.in1 I.env0.in1.in1 hb hx I (vs := [.ref a]) (us := [.ref a]) (.cons rfl .nil) q) fun w s' z => ?_)
  obtain ⟨z', H', I', rz, y, e, qz⟩ := z
  subst e
  obtain ⟨t, e⟩ := (show ∃ t, w = Value.str y t from rz)
  cases e
  exact ⟨.str y, H', I', ⟨t, rfl⟩, qz⟩
theorem call_reprO (F : FnOk X.prog X.w X.K X.mg X.base CX n f fd ps sp) (hr : Room (n + 1) X.A) (hs : PySem.W.findIn X.K (.ref C) "__repr__" = some (some (.ref f))) (hf : PySem.W.isFn X.K (.ref f) = true) (hb : Binds X.K fd ps [])
    (hx : Passes CX X E) : CallR X (.builtin "repr") (rStrO C sp E) := by
  intro pins s σ H xs us Q I r h
  obtain ⟨a, dx, fs, rfl, ea, q⟩ := h
  obtain ⟨u, rfl, ru⟩ := vals1 r
  cases (show u = Value.ref a from ru)
  obtain ⟨mA, O, _⟩ := ins_get I.hok ea
  obtain ⟨od, J, _⟩ := O.look
  obtain ⟨m, hF⟩ := I.fr
  refine PySem.W.repr_K hr.in1.units0 hF I.ok.mod.kin J hs hf (thn (at_fn F hr.in1 I.env0.in1 hb hx I (vs := [.ref a]) (us := [.ref a]) (.cons rfl .nil) q) fun w s' z => ?_)
  obtain ⟨z', H', I', rz, y, e, qz⟩ := z
  subst e
  obtain ⟨t, e⟩ := (show ∃ t, w = Value.str y t from rz)
  cases e
  exact ⟨.str y, H', I', ⟨t, rfl⟩, qz⟩
def rLenO (C : Addr) (sp : Sp) (E : XK) : List V → Hp → VK → Prop := fun xs H Q => ∃ a dx fs, xs = [.ref a] ∧ H a = some (.ins C dx fs) ∧ sp [.ref a] H (fun v H' => ∃ i, v = .int i ∧ 0 ≤ i ∧ i < 2 ^ 63 ∧ Q v H') E
theorem call_lenO (F : FnOk X.prog X.w X.K X.mg X.base CX n f fd ps sp) (hr : Room (n + 1) X.A) (hs : PySem.W.findIn X.K (.ref C) "__len__" = some (some (.ref f))) (hf : PySem.W.isFn X.K (.ref f) = true) (hb : Binds X.K fd ps [])
    (hx : Passes CX X E) : CallR X (.builtin "len") (rLenO C sp E) := by
  intro pins s σ H xs us Q I r h
  obtain ⟨a, dx, fs, rfl, ea, q⟩ := h
  obtain ⟨u, rfl, ru⟩ := vals1 r
  cases (show u = Value.ref a from ru)
  obtain ⟨mA, O, _⟩ := ins_get I.hok ea
  obtain ⟨od, J, _⟩ := O.look
  obtain ⟨m, hF⟩ := I.fr
  refine PySem.W.len_K hF I.ok.mod.kin J hs hf (thn (at_fn F hr.in1 I.env0.in1 hb hx I (vs := [.ref a]) (us := [.ref a]) (.cons rfl .nil) q) fun w s' z => ?_)
  obtain ⟨z', H', I', rz, i, e, h0, h1, qz⟩ := z
  subst e
  obtain ⟨t, e⟩ := (show ∃ t, w = Value.int i t from rz)
  cases e
  exact ⟨⟨h0, h1⟩, .int i, H', I'.tok _, ⟨_, rfl⟩, qz⟩
end

/-! ### o.m(k = v, ..) -/
def tMethN (C : Addr) (m : Str) (n mm : Nat) (sp : Sp) (gV : List V → List V → List V) (E : XK) (ta : TE) (t tk : TA) : TE := fun σ H Q => ta σ H fun x H1 => ∃ a dx fs, x = .ref a ∧ H1 a = some (.ins C dx fs) ∧ fs.lookup m = none ∧
  t σ H1 fun vs H2 => tk σ H2 fun zs H3 => vs.length = n ∧ zs.length = mm ∧ sp (gV (x :: vs) zs) H3 Q E
section
variable {X : Cx} {CX : CXT} {k n : Nat} {f C : Addr} {fd : FuncData} {ps ks : List Str} {sp : Sp} {E : XK} {m : Str} {pos apos : Pos} {o : Expr} {kws : List Keyword} {ta : TE} {t tk : TA} {g : List Value → List Value → List Value} {gV : List V → List V → List V}
theorem pe_methN0 {pl : Sem Bool} (he : PE X o ta) (c : Cls X.K C) (hm : Meth X.K C m f) (F : FnOk X.prog X.w X.K X.mg X.base CX k f fd ps sp) (hr : Room k X.A) (hb : KBn X.K fd ps 1 ks g gV) (hx : Passes CX X E) (hkw : PK X kws tk)
    (hall : (backToKw pos (keywordEach kws X.env)).all (·.1.isSome) = true := by rfl) (hks : (backToKw pos (keywordEach kws X.env)).filterMap (·.1) = ks := by rfl)
    (hpl : ((backTo pos (starEach [] X.env)).any (·.1) || (backToKw pos (keywordEach kws X.env)).any (·.1.isNone)) = false := by rfl)
    (ht : eval (.Call (.Attribute o m apos) [] kws pos) X.env = (do
      let ov ← eval o X.env
      standAt apos.atName
      let (f, first) ← holding [ov] (getMethod ov m pl)
      callWith pos f first (backTo pos (starEach [] X.env)) (backToKw pos (keywordEach kws X.env))) := by rfl) :
    PE X (.Call (.Attribute o m apos) [] kws pos) (tMethN C m 0 ks.length sp gV E ta tNil tk) := by
  refine ⟨fun pins s σ H Q I h => ?_⟩
  refine PySem.W.methodCall_KW (pl := pl) (thn (he.run pins s σ H _ I h) fun u s1 ⟨x, H1, I1, rx, a, dx, fs, ex, ea, l, q⟩ => ?_) ht
  subst ex
  obtain rfl : u = Value.ref a := rx
  refine getmeth_ok I1 ea c hm l ?_
  refine PySem.W.callWith_KW0 (first := [.ref a]) (h₀ := X.base) I.ok.mod.kin hm.kp hall ?_ hpl
  refine thn (hkw.run pos pins s1 σ H1 _ I1 q) fun ws s2 ⟨zs, H2, I2, rz, l1, l2, q2⟩ => ⟨I2.kIn, ?_⟩
  rw [hks]
  exact run_fnN (n := 1) (us := [.ref a]) (vs := [.ref a]) F hr hb hx I2 (.cons rfl .nil) rz rfl l2 q2
end
end Yarn

set_option Elab.async false
set_option linter.all false
set_option maxRecDepth 100000
set_option maxHeartbeats 4000000
namespace Yarn
open PySem PySem.Spec PyProof.Rows L2

/-! ### a def that lets nothing out, whatever its defaults -/
theorem okD {P : Program} {w : World} {K : PySem.W.Frag} {mg : Str → Option Value} {base : Heap} {x qual : Str} {params : Arguments} {body : List Stmt} {scope : Scope} {dvs : List V} {kws : List (Str × V)} {f : Addr} {fd : FuncData}
    {N ps : List Str} {k : Nat} {sp : Sp} (F : FunD K x qual params body scope dvs kws f fd) (S : FnScope N ps scope) (len : ∀ vs H Q E, sp vs H Q E → vs.length = ps.length)
    (hbody : ∀ (cdv : Value) (A : Around) (outer : List Env) (s : Shared) (H : Hp) (vs : List V) (Q : VK) (E : XK), Room k (A.deeper (envOfC qual scope s.heap.objs.size f cdv)) → sp vs H Q E →
      ∃ t, PSs (cxOf CX0 P w K mg base N qual scope f cdv A outer s H E).nox body t ∧ t { nx := fun _ H' => Q .non H', rt := Q } (start N vs) H) : FnOk P w K mg base CX0 (k + 1) f fd ps sp :=
  F.ok S len fun cdv A outer s H vs Q E hr h => let ⟨t, h1, q⟩ := hbody cdv A outer s H vs Q E hr h; ⟨t, h1.nox, q⟩

/-! ### what stays but for dicts -/
def NotD : HO → Prop
  | .dK _ => False
  | _ => True
def Kp (H H' : Hp) : Prop := ∀ a o, NotD o → H a = some o → H' a = some o
theorem Kp.refl (H : Hp) : Kp H H := fun _ _ _ h => h
theorem Kp.trans {H H1 H2 : Hp} (a : Kp H H1) (b : Kp H1 H2) : Kp H H2 := fun c o n h => b c o n (a c o n h)
theorem same_kp {H H' : Hp} (s : Same H H') : Kp H H' := fun a o _ h => s a o h
theorem Kp.ins {H H' : Hp} {a C dx : Addr} {fs : List (Str × V)} (k : Kp H H') (h : H a = some (.ins C dx fs)) : H' a = some (.ins C dx fs) := k a _ trivial h
theorem Kp.tup {H H' : Hp} {a : Addr} {xs : List V} (k : Kp H H') (h : H a = some (.tup xs)) : H' a = some (.tup xs) := k a _ trivial h
theorem Kp.lst {H H' : Hp} {a : Addr} {xs : List V} (k : Kp H H') (h : H a = some (.lst xs)) : H' a = some (.lst xs) := k a _ trivial h
theorem Kp.seqL {K : PySem.W.Frag} {H H' : Hp} {a : Addr} {xs : List V} (k : Kp H H') (h : SqL K H a xs) : SqL K H' a xs := by
  rcases h with (h | ⟨o, h⟩) | h
  · exact .inl (.inl (k.lst h))
  · exact .inl (.inr ⟨o, k a _ trivial h⟩)
  · exact .inr h
theorem Kp.seqT {K : PySem.W.Frag} {H H' : Hp} {a : Addr} {xs : List V} (k : Kp H H') (h : SqT K H a xs) : SqT K H' a xs := by
  rcases h with (h | ⟨o, h⟩) | h
  · exact .inl (.inl (k.tup h))
  · exact .inl (.inr ⟨o, k a _ trivial h⟩)
  · exact .inr h

/-! ### the pen: a dict of a list of numbers, a place, what is left -/
def penD (c : Addr) (a l : Int) : List (Key × V) := [(.inr "cells", .ref c), (.inr "at", .int a), (.inr "left", .int l)]
theorem s_ca : ¬ (("cells" : Str) = "at") := by decide +kernel
theorem s_cl : ¬ (("cells" : Str) = "left") := by decide +kernel
theorem s_al : ¬ (("at" : Str) = "left") := by decide +kernel
theorem inr_ne {x y : Str} (h : ¬ x = y) : ¬ (Sum.inr x : Key) = Sum.inr y := fun z => h (Sum.inr.inj z)
theorem pen_cells (c : Addr) (a l : Int) : valV (penD c a l) (.inr "cells") = some (.ref c) := valV_pos rfl
theorem pen_at (c : Addr) (a l : Int) : valV (penD c a l) (.inr "at") = some (.int a) := (valV_neg (inr_ne s_ca)).trans (valV_pos rfl)
theorem pen_left (c : Addr) (a l : Int) : valV (penD c a l) (.inr "left") = some (.int l) := (valV_neg (inr_ne s_cl)).trans ((valV_neg (inr_ne s_al)).trans (valV_pos rfl))
theorem put_at (c : Addr) (a l x : Int) : putK (penD c a l) (.inr "at") (.int x) = penD c x l := by
  simp [putK, penD, s_ca, Ne.symm s_al]
theorem put_left (c : Addr) (a l x : Int) : putK (penD c a l) (.inr "left") (.int x) = penD c a x := by
  simp [putK, penD, s_cl, s_al]
theorem pen_merge (c : Addr) : mergeK [] (penD c 0 0) = penD c 0 0 := by
  simp [mergeK, putK, penD, s_ca, s_cl, s_al]
structure Pen (H : Hp) (p : Addr) (n : Int) : Prop where
  ex : ∃ (c : Addr) (ns : List Int) (a l : Int), H p = some (.dK (penD c a l)) ∧ H c = some (.lst (ns.map V.int)) ∧ ns.length ≤ 63 ∧ 0 ≤ a ∧ a ≤ n ∧ 0 ≤ l
theorem Pen.same {H H' : Hp} {p : Addr} {n : Int} (s : Same H H') (P : Pen H p n) : Pen H' p n := by
  obtain ⟨c, ns, a, l, h1, h2, r⟩ := P.ex
  exact ⟨c, ns, a, l, s _ _ h1, s _ _ h2, r⟩
theorem Pen.mono {H : Hp} {p : Addr} {n m : Int} (P : Pen H p n) (h : n ≤ m) : Pen H p m := by
  obtain ⟨c, ns, a, l, h1, h2, h3, h4, h5, h6⟩ := P.ex
  exact ⟨c, ns, a, l, h1, h2, h3, h4, by omega, h6⟩
theorem Pen.kp {H H' : Hp} {p : Addr} {n : Int} (P : Pen H p n) (b : But p H H') : Kp H H' := fun a o no h => b a o (fun e => by
  obtain ⟨c, ns, x, l, h1, _⟩ := P.ex
  subst e
  rw [h] at h1
  cases h1
  exact no) h
/-- a draw: some number below m, the pen one further -/
def spDraw : Sp := fun vs H Q _ => ∃ (p : Addr) (m n : Int), vs = [.ref p, .int m] ∧ Pen H p n ∧ n ≤ 2 ^ 60 ∧ 0 < m ∧ m ≤ 2 ^ 60 ∧
  ∀ (d : Int) (H' : Hp), 0 ≤ d → d < m → Pen H' p (n + 1) → But p H H' → Kp H H' → Q (.int d) H'
/-- a number: small, or of up to fifteen figures -/
def spNumber : Sp := fun vs H Q _ => ∃ (p : Addr) (n : Int), vs = [.ref p] ∧ Pen H p n ∧ n ≤ 2 ^ 59 ∧
  ∀ (d : Int) (H' : Hp), 0 ≤ d → d < 10 ^ 15 → Pen H' p (n + 4) → But p H H' → Kp H H' → Q (.int d) H'
/-- the pen is made -/
def spPen (K : PySem.W.Frag) : Sp := fun vs H Q _ => ∃ (a : Addr) (ns : List Int), vs = [.ref a] ∧ SqL K H a (ns.map V.int) ∧ ns.length ≤ 63 ∧
  ∀ (p : Addr) (H' : Hp), H p = none → Same H H' → Pen H' p 0 → Q (.ref p) H'
/-- a law's: a list of at most 63 ints is handed in, True comes out -/
def sp_law0 (K : PySem.W.Frag) : Sp := fun vs H Q _ => ∃ (a : Addr) (ns : List Int), vs = [.ref a] ∧ SqL K H a (ns.map V.int) ∧ ns.length ≤ 63 ∧ ∀ H', Q (.bl true) H'

/-! ### // by a positive divisor of any size in use -/
theorem div_ok {i j : Int} (h : 0 < j) (hb : j ≤ 2 ^ 200) : CDivW i j := wide_div (b := 201) h (by omega) (by decide) (by decide)
theorem op_fdivY {X : Cx} : OpR X (binaryOp .FloorDiv) (rI (fun _ j => 0 < j ∧ j ≤ 2 ^ 200) fun i j => .int (i / j)) := by
  intro pins s σ H x y v u Q I rx ry h
  obtain ⟨i, j, e1, e2, ⟨h1, h2⟩, q⟩ := h
  exact op_fdivW pins s σ H x y v u Q I rx ry ⟨i, j, e1, e2, div_ok h1 h2, q⟩
/-! ### small helps for readings -/
theorem list_nonempty_ne (xs : List Int) : (!PyData.eqv (.list (xs.map PyData.int)) (.list [])) = !xs.isEmpty := by
  cases xs with
  | nil => rfl
  | cons a r => rfl
theorem ints_can : ∀ ns : List Int, PyData.canLayAll0 (ns.map PyData.int) = true
  | [] => by simp [PyData.canLayAll0]
  | n :: ns => by simp [PyData.canLayAll0, PyData.canLay0, ints_can ns]
theorem ints_depth : ∀ ns : List Int, PyData.depthAll (ns.map PyData.int) = 0
  | [] => by simp [PyData.depthAll]
  | n :: ns => by simp [PyData.depthAll, PyData.depth, ints_depth ns]
theorem shaped_ints (ns : List Int) : SeqAt.shaped (.list (ns.map PyData.int)) = true := by
  simp [SeqAt.shaped, PyData.canLay0, ints_can, PyData.depth, ints_depth]
theorem shaped_nil : SeqAt.shaped (.list []) = true := shaped_ints []
theorem dp_ints {K : PySem.W.Frag} {H : Hp} : ∀ ns : List Int, DpAll K H (ns.map V.int) (ns.map PyData.int)
  | [] => .nil
  | n :: ns => .cons (.int n) (dp_ints ns)
theorem atI_int {xs : List V} {ns : List Int} (e : xs = ns.map V.int) {i : Int} (h0 : 0 ≤ i) (h1 : i < ns.length) : ∃ z, atI xs i = some (.int z) := by
  subst e
  obtain ⟨j, rfl⟩ : ∃ j : Nat, i = j := ⟨i.toNat, by omega⟩
  have hj : j < ns.length := by omega
  refine ⟨ns[j], atI_nat ?_⟩
  rw [List.getElem?_map, List.getElem?_eq_getElem hj] <;> rfl
end Yarn
namespace Yarn
open PySem PySem.Spec PyProof.Rows L2
/-! ### splitting on a test -/
theorem iteD {p A B : Prop} [Decidable p] (h1 : p → A) (h2 : ¬ p → B) : if decide p = true then A else B := by
  by_cases h : p
  · rw [if_pos (decide_eq_true h)]
    exact h1 h
  · rw [if_neg (by rw [decide_eq_false h]; exact Bool.false_ne_true)]
    exact h2 h
theorem iteND {p A B : Prop} [Decidable p] (h1 : ¬ p → A) (h2 : p → B) : if (!decide p) = true then A else B := by
  by_cases h : p
  · rw [decide_eq_true h]
    exact iteF (h2 h)
  · rw [decide_eq_false h]
    exact iteT (h1 h)
theorem iteEI {a b : Int} {A B : Prop} (h1 : a = b → A) (h2 : ¬ a = b → B) : if decide (V.int a = V.int b) = true then A else B :=
  iteD (fun h => h1 (V.int.inj h)) fun h => h2 fun e => h (congrArg V.int e)
theorem iteNI {a b : Int} {A B : Prop} (h1 : ¬ a = b → A) (h2 : a = b → B) : if (!decide (V.int a = V.int b)) = true then A else B :=
  iteND (fun h => h1 fun e => h (congrArg V.int e)) fun h => h2 (V.int.inj h)
theorem iteB {b : Bool} {A B : Prop} (h1 : b = true → A) (h2 : b = false → B) : if b = true then A else B := by
  cases b
  · exact iteF (h2 rfl)
  · exact iteT (h1 rfl)
theorem iteNB {b : Bool} {A B : Prop} (h1 : b = false → A) (h2 : b = true → B) : if (!b) = true then A else B := by
  cases b
  · exact iteT (h1 rfl)
  · exact iteF (h2 rfl)
theorem iteNe {ns : List Int} {A B : Prop} (h1 : ns ≠ [] → A) (h2 : ns = [] → B) : if (!PyData.eqv (.list (ns.map PyData.int)) (.list [])) = true then A else B := by
  rw [list_nonempty_ne]
  cases ns with
  | nil => exact iteF (h2 rfl)
  | cons a r => exact iteT (h1 (by simp))
theorem absI (i : Int) : 0 ≤ (if i < 0 then -i else i) := by split <;> omega
theorem cut_ints (ns : List Int) (lo hi : Option Int) : ∃ ms : List Int, cutV (ns.map V.int) lo hi = ms.map V.int ∧ ms.length ≤ ns.length := by
  refine ⟨(ns.drop (HT.sIx (ns.map V.int).length 0 lo)).take (HT.sIx (ns.map V.int).length (ns.map V.int).length hi - HT.sIx (ns.map V.int).length 0 lo), ?_, ?_⟩
  · unfold cutV
    rw [List.map_take, List.map_drop]
  · rw [List.length_take, List.length_drop]
    omega
theorem get_int {ns : List Int} {i : Nat} {x : V} (h : (ns.map V.int)[i]? = some x) : ∃ n, ns[i]? = some n ∧ x = .int n := by
  rw [List.getElem?_map] at h
  cases e : ns[i]? with
  | none => rw [e] at h; cases h
  | some n => rw [e] at h; exact ⟨n, rfl, (Option.some.inj h).symm⟩
theorem take_more {α : Type} : ∀ {l : List α} {i : Nat} {x : α}, l[i]? = some x → l.take (i + 1) = l.take i ++ [x]
  | [], i, x, h => by simp at h
  | a :: l, 0, x, h => by
    have e : a = x := Option.some.inj h
    subst e
    rfl
  | a :: l, i + 1, x, h => by
    have ih := take_more (l := l) (i := i) (x := x) h
    show a :: l.take (i + 1) = a :: l.take i ++ [x]
    rw [ih]
    rfl
end Yarn
namespace Yarn
open PySem PySem.Spec PyProof.Rows L2
theorem atI_all {xs : List V} {P : V → Prop} {i : Int} (h : ∀ x ∈ xs, P x) (h0 : 0 ≤ i) (h1 : i < xs.length) : ∃ v, atI xs i = some v ∧ P v := by
  obtain ⟨j, rfl⟩ : ∃ j : Nat, i = j := ⟨i.toNat, by omega⟩
  have hj : j < xs.length := by omega
  exact ⟨xs[j], atI_nat (List.getElem?_eq_getElem hj), h _ (List.getElem_mem hj)⟩
end Yarn
namespace Yarn
open PySem PySem.Spec PyProof.Rows L2
theorem iteSp {a b c d : Int} {A B : Prop} (h1 : a = b) (h2 : c = d) (h : B) : if (!(decide (a = b) && decide (c = d))) = true then A else B := by
  rw [decide_eq_true h1, decide_eq_true h2]
  exact iteF h
theorem bothT {a b c d : Int} (h1 : a = b) (h2 : c = d) : (decide (a = b) && decide (c = d)) = true := by rw [decide_eq_true h1, decide_eq_true h2] <;> rfl
end Yarn
namespace Yarn
open PySem PySem.Spec PyProof.Rows L2
theorem kit_own {K : PySem.W.Frag} {t : String} {C : Addr} {b : Bool} (h1 : PySem.W.isClsIn K C = true) (h2 : PySem.W.typeIn K (.ref C) = some (.type "type")) (h3 : PySem.W.subIn K (.type t) (.ref C) = some b) :
    PySem.W.kitOne K (.type t) (.ref C) = some b := by
  have hne : (Value.type t == Value.ref C) = false := Bool.eq_false_iff.mpr fun q => by cases beq_iff_eq.mp q
  unfold PySem.W.kitOne
  rw [hne]
  have h1' : (PySem.W.clsIn K C).isSome = true := h1
  simp [PySem.W.kitCls, h1', h2, h3]
end Yarn

set_option Elab.async false
set_option linter.all false
set_option maxRecDepth 100000
set_option maxHeartbeats 4000000
namespace Yarn
open PySem PySem.SeqAt
open AutoSeq1 (wpAny_loadPart')
open MeetsSeq MeetsSeq2 MeetsSeq3 SeqRoads2

section
variable {prog : Program} {w : World} {A : Around} {R : Result → Shared → Prop}
/-- at each turn the list is read anew: N items, the i-th compared with x gives e i -/
def CntI (prog : Program) (w : World) (A : Around) (E : Value → Shared → Prop) (l : Addr) (x : Value) (N : Nat) (e : Nat → Bool) (I : Shared → Prop) : Prop :=
  ∀ s, I s → ∃ (items : Array Value) (n : Nat), s.heap.get? l = some { cls := .type "list", data := .seq items n } ∧ items.size = N ∧
    ∀ (i : Nat) (h1 : i < items.size), wpAny (model prog w) A.in1 (eqBool items[i] x) (fun r s' => r = e i ∧ I s') E s
/-- how many of e i .. e (N - 1) hold -/
def cnt (e : Nat → Bool) (i : Nat) : Nat → Nat
  | 0 => 0
  | k + 1 => (if e i then 1 else 0) + cnt e (i + 1) k
theorem count_loopG (l : Addr) (x : Value) (N : Nat) (e : Nat → Bool) (I : Shared → Prop) (hl : CntI prog w A (fun er s' => R (.error er) s') l x N e I) (total : Int)
    (fin : ∀ s, I s → R (.ok (.ret (.int total s.toks))) { s with toks := s.toks + 1 }) (k : Nat) :
    ∀ (i : Nat) (found : Int), N - i = k → i ≤ N → found + (cnt e i k : Nat) = total → ∀ s, I s →
      wpAny (model prog w) A.in1 (Builtin.«list.count.loop» ⟨[.ref l, x, rawInt i, rawInt found], []⟩) (GQ.FinOf prog w A R) (fun er s' => R (.error er) s') s := by
  induction k with
  | zero =>
    intro i found hk hi ht s h
    obtain ⟨items, n, hl1, hs1, _⟩ := hl _ h
    have hR := fin s h
    have ht' : found = total := by simp [cnt] at ht; exact ht
    subst ht'
    obtain ⟨hp, g, d, tk, os⟩ := s
    wp_walk using wpAny_loadPart' hl1
    have hi1 : items[((i : Nat) : Int).toNat]? = none := by simp; omega
    rw [hi1]
    wp_walk
    exact hR
  | succ k ih =>
    intro i found hk hi ht s h
    obtain ⟨items, n, hl1, hs1, turn⟩ := hl _ h
    have hlt : i < items.size := by omega
    have hturn := turn i hlt
    obtain ⟨hp, g, d, tk, os⟩ := s
    wp_walk using wpAny_loadPart' hl1
    have hi1 : items[((i : Nat) : Int).toNat]? = some items[i] := by simp [hlt]
    have hc : ((i : Int) + 1) = ((i + 1 : Nat) : Int) := by omega
    rw [hi1]
    refine wpAny_bind (wpAny_mono hturn (fun r s2 h2 => ?_) fun _ _ z => z)
    obtain ⟨hr, h2⟩ := h2
    subst hr
    have hrec := ih (i + 1) (found + (if e i then 1 else 0)) (by omega) (by omega) (by rw [← ht]; show found + (if e i = true then 1 else 0) + ((cnt e (i + 1) k : Nat) : Int) = found + (((if e i = true then 1 else 0) + cnt e (i + 1) k : Nat) : Int); split <;> omega) s2 h2
    obtain ⟨hp2, g2, d2, tk2, os2⟩ := s2
    wp_walk
    rw [hc]
    refine ⟨plainId_quiet plain_count_loop _, codeAny_builtin entry_count_loop ?_⟩
    rw [Around.under_plainId plain_count_loop _]
    cases hb : e i with
    | false =>
      rw [hb] at hrec
      simp only [Bool.false_eq_true, if_false, Int.add_zero] at hrec ⊢
      exact hrec
    | true =>
      rw [hb] at hrec
      simp only [if_true] at hrec ⊢
      exact hrec
theorem list_countG (l : Addr) (x : Value) (N : Nat) (e : Nat → Bool) (I : Shared → Prop) (hl : CntI prog w A (fun er s' => R (.error er) s') l x N e I)
    (fin : ∀ s, I s → R (.ok (.ret (.int (cnt e 0 N : Nat) s.toks))) { s with toks := s.toks + 1 }) {s : Shared} (h : I s) :
    wpAny (model prog w) A.in1 (Builtin.«list.count» ⟨[.ref l, x], []⟩) (GQ.FinOf prog w A R) (fun er s' => R (.error er) s') s := by
  obtain ⟨items, n, hl1, hs1, _⟩ := hl _ h
  have hrec := count_loopG (A := A) (R := R) l x N e I hl _ fin N 0 0 (by omega) (Nat.zero_le _) (by simp) s h
  obtain ⟨hp, g, d, tk, os⟩ := s
  wp_walk using wpAny_loadPart' hl1
  refine ⟨plainId_quiet plain_count_loop _, codeAny_builtin entry_count_loop ?_⟩
  rw [Around.under_plainId plain_count_loop _]
  exact hrec
/-- x in a list -/
def anyB (e : Nat → Bool) (i : Nat) : Nat → Bool
  | 0 => false
  | k + 1 => e i || anyB e (i + 1) k
theorem contains_loopG (l : Addr) (x : Value) (N : Nat) (e : Nat → Bool) (I : Shared → Prop) (hl : CntI prog w A (fun er s' => R (.error er) s') l x N e I) (b : Bool)
    (fin : ∀ s, I s → R (.ok (.ret (.bool b))) s) (k : Nat) :
    ∀ (i : Nat), N - i = k → i ≤ N → anyB e i k = b → ∀ s, I s →
      wpAny (model prog w) A.in1 (Builtin.«list.__contains__.loop» ⟨[.ref l, x, rawInt i], []⟩) (GQ.FinOf prog w A R) (fun er s' => R (.error er) s') s := by
  induction k with
  | zero =>
    intro i hk hi ht s h
    obtain ⟨items, n, hl1, hs1, _⟩ := hl _ h
    have hR := fin s h
    have ht' : false = b := ht
    subst ht'
    obtain ⟨hp, g, d, tk, os⟩ := s
    wp_walk using wpAny_loadPart' hl1
    have hi1 : items[((i : Nat) : Int).toNat]? = none := by simp; omega
    rw [hi1]
    wp_walk
    exact hR
  | succ k ih =>
    intro i hk hi ht s h
    obtain ⟨items, n, hl1, hs1, turn⟩ := hl _ h
    have hlt : i < items.size := by omega
    have hturn := turn i hlt
    obtain ⟨hp, g, d, tk, os⟩ := s
    wp_walk using wpAny_loadPart' hl1
    have hi1 : items[((i : Nat) : Int).toNat]? = some items[i] := by simp [hlt]
    have hc : ((i : Int) + 1) = ((i + 1 : Nat) : Int) := by omega
    rw [hi1]
    refine wpAny_bind (wpAny_mono hturn (fun r s2 h2 => ?_) fun _ _ z => z)
    obtain ⟨hr, h2⟩ := h2
    subst hr
    have ht' : (e i || anyB e (i + 1) k) = b := ht
    cases hb : e i with
    | true =>
      rw [hb, Bool.true_or] at ht'
      subst ht'
      have hR := fin s2 h2
      obtain ⟨hp2, g2, d2, tk2, os2⟩ := s2
      wp_walk
      exact hR
    | false =>
      rw [hb, Bool.false_or] at ht'
      have hrec := ih (i + 1) (by omega) (by omega) ht' s2 h2
      obtain ⟨hp2, g2, d2, tk2, os2⟩ := s2
      wp_walk
      rw [hc]
      refine ⟨plainId_quiet plain_contains_loop _, codeAny_builtin entry_contains_loop ?_⟩
      rw [Around.under_plainId plain_contains_loop _]
      exact hrec
theorem list_containsG (l : Addr) (x : Value) (N : Nat) (e : Nat → Bool) (I : Shared → Prop) (hl : CntI prog w A (fun er s' => R (.error er) s') l x N e I)
    (fin : ∀ s, I s → R (.ok (.ret (.bool (anyB e 0 N)))) s) {s : Shared} (h : I s) :
    wpAny (model prog w) A.in1 (Builtin.«list.__contains__» ⟨[.ref l, x], []⟩) (GQ.FinOf prog w A R) (fun er s' => R (.error er) s') s := by
  obtain ⟨items, n, hl1, hs1, _⟩ := hl _ h
  have hrec := contains_loopG (A := A) (R := R) l x N e I hl _ fin N 0 (by omega) (Nat.zero_le _) rfl s h
  obtain ⟨hp, g, d, tk, os⟩ := s
  wp_walk using wpAny_loadPart' hl1
  refine ⟨plainId_quiet plain_contains_loop _, codeAny_builtin entry_contains_loop ?_⟩
  rw [Around.under_plainId plain_contains_loop _]
  exact hrec
end
end Yarn

namespace Yarn
open PySem PySem.Spec PyProof.Rows L2
/-- == within a builtin gives b for what D says, and changes nothing -/
def EqB (X : Cx) (n : Nat) (D : V → V → Bool → Hp → Prop) : Prop :=
  ∀ (A : Around) (pins : List (Addr × Obj)) (s : Shared) (σ : L2.St) (H : Hp) (x y : V) (b : Bool) (u v : Value), Room n A → A.frames = X.A.frames → Inv X pins σ H s → RelV x u → RelV y v → D x y b H →
    wpAny (model X.prog X.w) A (eqBool u v) (fun r s' => r = b ∧ Inv X pins σ H s') X.xe s
/-- two instances of classes with an own ==, as the def at the left says -/
def DOwn (K : PySem.W.Frag) (C : Addr) (sp : Sp) (E : XK) : V → V → Bool → Hp → Prop := fun x y b H => ∃ a c dx fs tb, x = .ref a ∧ y = .ref c ∧ H a = some (.ins C dx fs) ∧ ClOf H (.ref c) tb ∧ PySem.W.notFirst K C tb = true ∧ (a = c → b = true) ∧
  sp [.ref a, .ref c] H (fun v H' => v = .bl b ∧ H' = H) E
section
variable {X : Cx} {CX : CXT} {C f : Addr} {fd : FuncData} {ps : List Str} {sp : Sp} {E : XK} {n : Nat} {D : V → V → Bool → Hp → Prop}
theorem eqB_own (F : FnOk X.prog X.w X.K X.mg X.base CX n f fd ps sp) (hs : PySem.W.findIn X.K (.ref C) "__eq__" = some (some (.ref f))) (hf : PySem.W.isFn X.K (.ref f) = true) (hb : Binds X.K fd ps [])
    (hx : Passes CX X E) : EqB X n (DOwn X.K C sp E) := by
  intro A pins s σ H x y b u v hr hfr I rx ry d
  obtain ⟨a, c, dx, fs, tb, rfl, rfl, ea, hc, hn, hsame, q⟩ := d
  cases (show u = Value.ref a from rx)
  cases (show v = Value.ref c from ry)
  by_cases hac : a = c
  · subst hac
    have hb1 := hsame rfl
    subst hb1
    exact SeqAt.EqAt.same (A := A) (s := s) (.ref a) X.prog X.w X.xe _ ⟨rfl, I⟩
  · have e0 : Env0 X.prog X.w X.K X.mg X.base A X.stack s H := by
      have e := I.env0
      exact ⟨by rw [hfr]; exact e.frames, e.mod, e.bs, e.bsz, e.funs, e.frf, e.hok, e.bare⟩
    obtain ⟨mA, O, _⟩ := ins_get I.hok ea
    obtain ⟨od, J, _⟩ := O.look
    obtain ⟨m, hF⟩ := I.fr
    refine GQ.eqBool_refG hac (PySem.W.cmp_K (op := .Eq) (tb := tb) hr.units0 hF I.ok.mod.kin J (hc.looks I (show RelV (.ref c) (.ref c) from rfl)) hn hs hf (thn (at_fn F hr e0 hb hx I (vs := [.ref a, .ref c]) (us := [.ref a, .ref c]) (.cons rfl (.cons rfl .nil)) q) fun z s' h => ?_))
    obtain ⟨z', H', I', rz, ez, eH⟩ := h
    subst ez
    subst eH
    cases (show z = Value.bool b from rz)
    exact ⟨b, rfl, rfl, I'⟩
theorem cnt_of (hD : EqB X n D) {A : Around} (hr : Room (n + 1) A) (hfr : A.frames = X.A.frames) {pins : List (Addr × Obj)} {σ : L2.St} {H : Hp} {p : Addr} {ys : List V} {y : V} {u : Value} {e : Nat → Bool} (hp : H p = some (.lst ys)) (ry : RelV y u)
    (he : ∀ i v, ys[i]? = some v → D v y (e i) H) : CntI X.prog X.w A X.xe p u ys.length e (fun s => Inv X pins σ H s) := by
  intro s I
  obtain ⟨z, its, k, r, e1⟩ := I.hok p _ hp
  refine ⟨its.toArray, k, e1, by rw [List.size_toArray, ← r.length], fun i h1 => ?_⟩
  have g1 : its[i]? = some its.toArray[i] := by
    have h1' : i < its.length := by simpa using h1
    rw [List.getElem?_eq_getElem h1'] <;> simp
  have k1 : i < ys.length := by rw [r.length]; simpa using h1
  obtain ⟨u1, hu, ru⟩ := r.get (List.getElem?_eq_getElem k1)
  rw [g1] at hu
  rw [Option.some.inj hu]
  exact hD A.in1 pins s σ H _ y (e i) _ u hr.in1 hfr I ru ry (he i _ (List.getElem?_eq_getElem k1))
/-- xs.count(y) by own == -/
def rCntO (D : V → V → Bool → Hp → Prop) : V → List V → Hp → VK → Prop := fun x xs H Q => ∃ (p : Addr) (ys : List V) (y : V) (e : Nat → Bool), x = .ref p ∧ xs = [y] ∧ H p = some (.lst ys) ∧ (∀ i v, ys[i]? = some v → D v y (e i) H) ∧ Q (.int (cnt e 0 ys.length : Nat)) H
theorem mt_countO (hD : EqB X n D) (hr : Room (n + 1) X.A) : MtR X "list.count" (rCntO D) := by
  intro pins s σ H x xs v us Q I rx rxs h
  obtain ⟨p, ys, y, e, rfl, rfl, hp, he, q⟩ := h
  cases (show v = Value.ref p from rx)
  obtain ⟨u, rfl, ru⟩ := vals1 rxs
  obtain ⟨z, its, k, r, e1⟩ := I.hok p _ hp
  refine GQ.call_here PySem.F.slot_list_count ⟨_, e1, rfl⟩ PySem.F.entry_list_count (PySem.F.args_list_count_2 _ _) ?_
  refine list_countG (R := wants (EP X pins σ Q) X.xe) p u ys.length e (fun s => Inv X pins σ H s) (cnt_of hD hr rfl hp ru he) (fun s' I' => ?_) I
  exact ⟨.int (cnt e 0 ys.length : Nat), H, I'.tok _, ⟨_, rfl⟩, q⟩
/-- x in xs by own == -/
def rInO (D : V → V → Bool → Hp → Prop) : R2 := fun x y H Q => ∃ (p : Addr) (ys : List V) (e : Nat → Bool), y = .ref p ∧ H p = some (.lst ys) ∧ (∀ i v, ys[i]? = some v → D v x (e i) H) ∧ Q (.bl (anyB e 0 ys.length)) H
theorem op_inO (hD : EqB X n D) (hr : Room (n + 1) X.A) : OpR X (compareOp .In) (rInO D) := by
  intro pins s σ H x y v u Q I rx ry h
  obtain ⟨p, ys, e, rfl, hp, he, q⟩ := h
  cases (show u = Value.ref p from ry)
  obtain ⟨z, its, k, r, e1⟩ := I.hok p _ hp
  show wpAny _ X.A (do return .bool (← contains (.ref p) v)) (EP X pins σ Q) X.xe s
  refine wpAny_bind (PySem.wpAny_contains_slot (T := "list") ⟨_, e1, rfl⟩ PySem.F.slot_list_contains (GQ.call_here PySem.F.slot_list_contains ⟨_, e1, rfl⟩ PySem.F.entry_list_contains (PySem.F.args_list_contains_2 _ _) ?_))
  refine list_containsG (R := wants _ X.xe) p v ys.length e (fun s => Inv X pins σ H s) (cnt_of hD hr rfl hp rx he) (fun s' I' => ?_) I
  exact wpAny_truthy_bool (wpAny_pure ⟨.bl (anyB e 0 ys.length), H, I', rfl, q⟩)
end
end Yarn

set_option Elab.async false
set_option linter.all false
set_option maxRecDepth 100000
set_option maxHeartbeats 4000000
namespace Yarn
open PySem PySem.Spec PyProof.Rows L2
section
variable {X : Cx} {CX : CXT} {C f : Addr} {fd : FuncData} {ps : List Str} {sp : Sp} {E : XK} {n : Nat}
theorem range_size (i j : Int) : Builtin.Range.rangeSize i j 1 = ((j - i).toNat : Nat) := by
  unfold Builtin.Range.rangeSize
  simp
  split <;> omega
/-- len(range(i, j)) -/
theorem call_lenR : CallR X (.builtin "len") (fun xs H Q => ∃ (a : Addr) (lo hi : Int), xs = [.ref a] ∧ H a = some (.rng lo hi) ∧ hi - lo < 2 ^ 63 ∧ Q (.int ((hi - lo).toNat : Nat)) H) := by
  intro pins s σ H vs us Q I r h
  obtain ⟨a, lo, hi, rfl, ea, hz, q⟩ := h
  obtain ⟨u, rfl, ru⟩ := vals1 r
  cases (show u = Value.ref a from ru)
  obtain ⟨t, t2, t3, e⟩ := (show ObjOk X.prog X.w H s.heap a (.rng lo hi) from I.hok a _ ea)
  exact call_len_range (n := (hi - lo).toNat) e (range_size lo hi) (by omega) ⟨.int ((hi - lo).toNat : Nat), H, I.tok _, ⟨_, rfl⟩, q⟩

/-! ### bool(x) by an own __len__ -/
open Builtin in
theorem len_body {prog : Program} {w : World} {A : Around} {E : Value → Shared → Prop} {Q : Value → Shared → Prop} {s : Shared} {K : PySem.W.Frag} {x : Addr} {ox : Obj} {od : Option Obj} (Xk : K.In s.heap) (I : PySem.W.InstAt s.heap x ox C od)
    (hs : PySem.W.findIn K (.ref C) "__len__" = some (some (.ref f))) (hf : PySem.W.isFn K (.ref f) = true)
    (h : wpAny (model prog w) A (call (.ref f) [.ref x]) (fun v s' => ∃ i t, v = .int i t ∧ (0 ≤ i ∧ i < 2 ^ 63) ∧ Q (.int i s'.toks) { s' with toks := s'.toks + 1 }) E s) :
    wpAny (model prog w) A (Builtin.«len» ⟨[.ref x], []⟩) (fun fin s' => ∃ v, fin = .done (.ret v) ∧ Q v s') E s := by
  unfold Builtin.«len»
  refine wpAny_bind (m := oneArg "len" _) (wpAny_pure ?_)
  refine wpAny_bind (m := callSpecial? (.ref x) (Str.ofString "__len__")) (PySem.W.special_fn Xk I hs (beq_iff_eq.mp hf) (wpAny_mono h (fun r s' hr => ?_) fun _ _ y => y))
  obtain ⟨i, t, rfl, ⟨h0, h1⟩, hq⟩ := hr
  refine wpAny_bind (wpAny_holding (wpAny_pure ?_))
  refine wpAny_bind (wpAny_letGo ?_)
  show wpAny _ _ (if i < 0 then _ else _) _ _ _
  rw [if_neg (show ¬ i < 0 by omega)]
  show wpAny _ _ (if i ≥ 2 ^ 63 then _ else _) _ _ _
  rw [if_neg (show ¬ i ≥ 2 ^ 63 by omega)]
  exact wpAny_bind (wpAny_mkInt (wpAny_pure ⟨_, rfl, hq⟩))
theorem truthy_len {prog : Program} {w : World} {A : Around} {E : Value → Shared → Prop} {s : Shared} {K : PySem.W.Frag} {x : Addr} {ox : Obj} {od : Option Obj} {Q : Bool → Shared → Prop} (Xk : K.In s.heap) (I : PySem.W.InstAt s.heap x ox C od)
    (hb : PySem.W.findIn K (.ref C) "__bool__" = some none) (hs : PySem.W.findIn K (.ref C) "__len__" = some (some (.ref f))) (hf : PySem.W.isFn K (.ref f) = true)
    (h : wpAny (model prog w) A.in1 (call (.ref f) [.ref x]) (fun v s' => ∃ i t, v = .int i t ∧ (0 ≤ i ∧ i < 2 ^ 63) ∧ Q (i != 0) { s' with toks := s'.toks + 1 }) E s) : wpAny (model prog w) A (truthy (.ref x)) Q E s := by
  unfold truthy
  refine wpAny_bind (m := callSpecial? (.ref x) (Str.ofString "__bool__")) (wpAny_bind (wpAny_bind (I.type.here ((PySem.W.looks_findIn Xk hb).here (wpAny_pure ?_)))))
  refine wpAny_bind (wpAny_bind (I.type.here ((PySem.W.looks_findIn Xk hs).here ?_)))
  refine wpAny_bind (wpAny_runValue (codeAny_builtin entry_len ?_))
  rw [Around.under_plainId plain_len _]
  refine wpAny_mono (len_body (Q := fun v s' => ∃ i t, v = .int i t ∧ Q (i != 0) s') Xk I hs hf (wpAny_mono h (fun v s' hv => ?_) fun _ _ y => y)) (fun fin s' hf => ?_) fun _ _ y => y
  · obtain ⟨i, t, rfl, hi, hq⟩ := hv
    exact ⟨i, t, rfl, hi, i, _, rfl, hq⟩
  · obtain ⟨v, rfl, i, t, rfl, hq⟩ := hf
    exact wpAny_pure hq
def rBoolO (C : Addr) (sp : Sp) (E : XK) : List V → Hp → VK → Prop := fun xs H Q => ∃ a dx fs, xs = [.ref a] ∧ H a = some (.ins C dx fs) ∧ sp [.ref a] H (fun v H' => ∃ i, v = .int i ∧ 0 ≤ i ∧ i < 2 ^ 63 ∧ Q (.bl (i != 0)) H') E
theorem call_boolO (F : FnOk X.prog X.w X.K X.mg X.base CX n f fd ps sp) (hr : Room (n + 3) X.A) (hs : PySem.W.findIn X.K (.ref C) "__len__" = some (some (.ref f))) (hf : PySem.W.isFn X.K (.ref f) = true)
    (hbo : PySem.W.findIn X.K (.ref C) "__bool__" = some none) (hb : Binds X.K fd ps []) (hx : Passes CX X E) : CallR X (.type "bool") (rBoolO C sp E) := by
  intro pins s σ H vs us Q I r h
  obtain ⟨a, dx, fs, rfl, ea, q⟩ := h
  obtain ⟨u, rfl, ru⟩ := vals1 r
  cases (show u = Value.ref a from ru)
  obtain ⟨mA, O, _⟩ := ins_get I.hok ea
  obtain ⟨od, J, _⟩ := O.look
  have hr2 : Room (n + 2) X.A.in1 := hr.in1
  have hr1 : Room (n + 1) X.A.in1.in1 := hr2.in1
  have hr0 : Room n X.A.in1.in1.in1 := hr1.in1
  refine callType_codes (T := "bool") (Bi := Builtin.«object.__init__») (Q₁ := fun r s₁ => ∃ b, r = .bool b ∧ EP X pins σ Q r s₁) PySem.F.called_bool (PySem.F.typeCall_bool_1 _) PySem.F.entry_object_init ?_ ?_
  · refine codeAny_of_tree ?_
    show wpAny _ X.A.in1.in1 (do checkBuiltinCall "bool.__new__" ⟨[.type "bool", .ref a], []⟩; again (.builtin "bool.__new__" ⟨[.type "bool", .ref a], []⟩)) _ _ s
    refine wpAny_bind (wpAny_of_eq (PySem.F.newCall_bool_1 _) (wpAny_pure ⟨plainId_quiet (by decide +kernel) _, codeAny_builtin PySem.F.entry_bool_new ?_⟩))
    rw [Around.under_plainId (by decide +kernel) _]
    have key : wpAny (model X.prog X.w) X.A.in1.in1 (truthy (.ref a)) (fun b s1 => EP X pins σ Q (.bool b) s1) X.xe s := by
      refine truthy_len I.kIn J hbo hs hf (thn (at_fn F hr0 I.env0.in1.in1.in1 hb hx I (vs := [.ref a]) (us := [.ref a]) (.cons rfl .nil) q) fun w s' z => ?_)
      obtain ⟨z', H', I', rz, i, e, h0, h1, qz⟩ := z
      subst e
      obtain ⟨t, e⟩ := (show ∃ t, w = Value.int i t from rz)
      cases e
      exact ⟨i, t, rfl, ⟨h0, h1⟩, .bl (i != 0), H', I'.tok _, rfl, qz⟩
    have f1 := PySem.F.conv_sub_bool
    obtain ⟨hp, g, d, tk, os⟩ := s
    unfold Builtin.«bool.__new__»
    repeat (any_goals (first | assumption | with_reducible exact wpAny_bind (m := truthy (.ref a)) (wpAny_mono key (fun b s1 z => wpAny_pure ⟨b, rfl, z⟩) fun _ _ y => y) | wp_step))
  · rintro obj s₁ ⟨b, rfl, hq⟩
    exact ⟨PySem.typeIs_bool _ _, PySem.F.args_object_init_2 _ _, object_init_meets PySem.F.called_bool.init.lookup PySem.F.called_bool.made (by decide) X.prog X.w X.A.in1 _ s₁ ⟨PySem.typeIs_bool _ _, rfl, hq⟩⟩
end
end Yarn
namespace Yarn
open PySem PySem.Spec PyProof.Rows L2
section
variable {X : Cx}
theorem cr_range2Y : CallR X (.type "range") (fun vs H Q => ∃ i j, vs = [V.int i, V.int j] ∧ ∀ p H2, H p = none → Same H H2 → H2 p = some (.rng i j) → Q (.ref p) H2) := fun pins s σ H vs us Q I r ⟨i, j, e, q⟩ =>
  cr_range2 pins s σ H vs us Q I r ⟨i, j, e, fun p hp => q p _ hp (same_upd hp) upd_same⟩
end
/-! ### numbers as texts -/
theorem log_small {i : Int} (h0 : 0 ≤ i) (h1 : i < 10 ^ 60) : i.natAbs.log2 < 1920 := by
  have h : i.natAbs < 2 ^ 1920 := by
    have e : (10 : Nat) ^ 60 < 2 ^ 1920 := by decide
    omega
  exact PySem.Flt.log2_lt_of (by decide) h
theorem num_len {i : Int} (h0 : 0 ≤ i) (h1 : i < 10 ^ 60) : (Str.ofString (toString i)).length ≤ 60 := toString_length_le h0 (by decide) h1
theorem line_big {n : Nat} (h : n ≤ 1000000) : n ≤ sizeLine := Nat.le_trans h (by decide)
end Yarn
namespace Yarn
open PySem PySem.Spec PyProof.Rows L2
theorem eqv_pair (a b c d : Int) : PyData.eqv (.tuple [.int a, .int b]) (.tuple [.int c, .int d]) = (decide (a = c) && decide (b = d)) := by
  have e : ∀ x y : Int, (x == y) = decide (x = y) := fun x y => by by_cases h : x = y <;> simp [h]
  simp [PyData.eqv, PyData.eqvAll]
  rw [e, e]
theorem shaped_pair (a b : Int) : SeqAt.shaped (.tuple [.int a, .int b]) = true := by
  simp [SeqAt.shaped, PyData.canLay0, PyData.canLayAll0, PyData.depth, PyData.depthAll]
theorem dp_pair {K : PySem.W.Frag} {H : Hp} (a b : Int) : DpAll K H [.int a, .int b] [.int a, .int b] := .cons (.int a) (.cons (.int b) .nil)
theorem iteNP {a b c d : Int} {A B : Prop} (h1 : a = c) (h2 : b = d) (h : B) : if (!PyData.eqv (.tuple [.int a, .int b]) (.tuple [.int c, .int d])) = true then A else B := by
  rw [eqv_pair, decide_eq_true h1, decide_eq_true h2]
  exact iteF h
theorem iteNBl {a b : Bool} {A B : Prop} (h : a = b) (hB : B) : if (!decide (V.bl a = V.bl b)) = true then A else B := by
  subst h
  rw [decide_eq_true rfl]
  exact iteF hB
theorem iteNSt {a b : Str} {A B : Prop} (h : a = b) (hB : B) : if (!decide (V.str a = V.str b)) = true then A else B := by
  subst h
  rw [decide_eq_true rfl]
  exact iteF hB
theorem str_len (x y : Str) : (x ++ y).length = x.length + y.length := by
  have h2 : (TL.tl (x ++ y)).length = (TL.tl x).length + (TL.tl y).length := by rw [TL.tl_append, List.length_append]
  rw [TL.len_tl, TL.len_tl x, TL.len_tl y]
  exact h2
end Yarn

set_option Elab.async false
set_option linter.all false
set_option maxRecDepth 100000
set_option maxHeartbeats 4000000
namespace Yarn
open PySem PySem.Spec PyProof.Rows L2

/-! ### own errors over any built-in one -/
/-- what the written part says of the error's class at C, which stands over the built-in B -/
structure ErrC (K : PySem.W.Frag) (C : Addr) (B nI iI : String) (bmB : List Value) : Prop where
  cls : ∃ nm q N bs bm sn sub ab col dd k0 k1 k2 k3 k5, K.lookup C = some (excClassObj nm q C N bs bm true sn sub ab col dd k0 k1 k2 k3 k5 nI) ∧ PySem.W.excTail bmB bm = true
  FB : ExcBaseFacts B nI iI bmB
  SF : StoreFacts B bmB "object.__setattr__" "object"
  sa : PySem.W.findIn K (.ref C) "__setattr__" = some (some (.builtin "object.__setattr__"))
  exC : PySem.W.subIn K (.ref C) (.type "BaseException") = some true
  tyC : PySem.W.typeIn K (.ref C) = some (.type "type")
  kC : PySem.W.keepIn K (.ref C) = true
section
variable {K : PySem.W.Frag} {C : Addr} {B nI iI : String} {bmB : List Value}
theorem ErrC.over (T : ErrC K C B nI iI bmB) : PySem.W.excOver K C bmB = true := by
  obtain ⟨nm, q, N, bs, bm, sn, sub, ab, col, dd, k0, k1, k2, k3, k5, hC, hb⟩ := T.cls
  unfold PySem.W.excOver PySem.W.clsIn
  rw [hC]
  show (C == C && PySem.W.excTail bmB bm) = true
  rw [hb, beq_self_eq_true]
  rfl
theorem ErrC.dict (T : ErrC K C B nI iI bmB) : PySem.W.hasDictIn K C = true := by
  obtain ⟨nm, q, N, bs, bm, sn, sub, ab, col, dd, k0, k1, k2, k3, k5, hC, hb⟩ := T.cls
  unfold PySem.W.hasDictIn PySem.W.clsIn
  rw [hC]
  rfl
theorem taker_no {f : Str} (h : PySem.W.findIn K (.ref C) f = some none) : PySem.W.takerIn K C f = some none := by
  unfold PySem.W.takerIn
  rw [h]
  rfl
/-- the error at e, its record's first field t, its dict d -/
abbrev erO (C t : Addr) (d : Option Addr) : Obj := { cls := .ref C, dict := d, data := .fields #[.ref t, .none, .none, .none, .bool false, .none] }
section
variable {prog : Program} {w : World} {A : Around} {R : Result → Shared → Prop} {hp : Heap} {g : Array GenState} {dr : Drawn} {tk : Nat} {os : OsState} {x t dx : Addr} {f : Str} {tok : Tok} {v : Value}
theorem er_first (T : ErrC K C B nI iI bmB) (X : K.In hp) (hx : hp.get? x = some (erO C t none)) (hno : PySem.W.findIn K (.ref C) f = some none)
    (hq : ∀ h' tk' dx, (∀ b o, b ≠ x → hp.get? b = some o → h'.get? b = some o) → hp.objs.size ≤ dx → dx ≠ x → h'.get? x = some (erO C t (some dx)) → h'.Ns1 dx (fun y => if y = f then some v else none) → R (.ok (.ret .none)) ⟨h', g, dr, tk', os⟩) :
    codeAny (model prog w) A (.call (.builtin "object.__setattr__") ⟨[.ref x, .str f tok, v], []⟩) R ⟨hp, g, dr, tk, os⟩ := by
  have hlt := Heap.lt_size hx
  have hne : x ≠ hp.objs.size := Nat.ne_of_lt hlt
  obtain ⟨cd, hc, hd⟩ := PySem.W.any_some T.dict
  refine PySem.W.osa_openX (s := ⟨hp, g, dr, tk, os⟩) (od := none) T.SF X ⟨hx, rfl, rfl, trivial⟩ T.over (taker_no hno) fun b => ?_
  refine wpAny_bind (wpAny_pure (wpAny_bind (PySem.W.instanceDict_exc (s := ⟨hp, g, dr, tk, os⟩) hx (PySem.W.looks_clsIn X hc) hd ?_)))
  have hx1 : (hp.push (PySem.W.dictOf [] 0)).get? x = some (erO C t none) := Heap.get?_push_of_some _ hx
  have e1 : ((hp.push (PySem.W.dictOf [] 0)).update x fun o => { o with dict := some hp.objs.size }).get? hp.objs.size = some (PySem.W.dictOf [] 0) :=
    (Heap.get?_update_ne _ _ _ _ hne.symm).trans (Heap.get?_push_at rfl rfl)
  have e2 : ((hp.push (PySem.W.dictOf [] 0)).update x fun o => { o with dict := some hp.objs.size }).get? x = some (erO C t (some hp.objs.size)) := Heap.get?_update_self _ hx1 rfl
  refine HandSPX.store_in_new ⟨_, #[], _, e1, rfl, fun e he => absurd he (by simp), fun _ => rfl⟩ fun h' tk' hn hs => ?_
  refine hq h' tk' hp.objs.size (fun b o hb ho => ?_) (Nat.le_refl _) hne.symm ((hs.2 x hne).trans e2) hn
  exact (hs.2 b (Nat.ne_of_lt (Heap.lt_size ho))).trans ((Heap.get?_update_ne _ _ _ _ hb).trans (Heap.get?_push_of_some _ ho))
theorem er_more {m0 : Str → Option Value} {nl : List Str} (T : ErrC K C B nI iI bmB) (X : K.In hp) (hx : hp.get? x = some (erO C t (some dx))) (hns : hp.Ns1 dx m0) (hw : Within m0 nl) (hz : nl.length ≤ 1000) (hno : PySem.W.findIn K (.ref C) f = some none)
    (hq : ∀ h' tk', (∀ b o, b ≠ dx → hp.get? b = some o → h'.get? b = some o) → h'.Ns1 dx (fun y => if y = f then some v else m0 y) → R (.ok (.ret .none)) ⟨h', g, dr, tk', os⟩) :
    codeAny (model prog w) A (.call (.builtin "object.__setattr__") ⟨[.ref x, .str f tok, v], []⟩) R ⟨hp, g, dr, tk, os⟩ := by
  obtain ⟨oD, _, _, hoD, _, _⟩ := hns.count hw
  obtain ⟨cd, hc, hd⟩ := PySem.W.any_some T.dict
  refine PySem.W.osa_openX (s := ⟨hp, g, dr, tk, os⟩) (od := some oD) T.SF X ⟨hx, rfl, rfl, hoD⟩ T.over (taker_no hno) fun b => ?_
  refine wpAny_bind (wpAny_pure (wpAny_bind (wpAny_bind (wpAny_loadPart hx (wpAny_bind ((PySem.W.looks_clsIn X hc).here ?_))))))
  rw [hd]
  refine wpAny_pure (a := some dx) ?_
  exact OEX.store_in_old hns hw hz fun h' tk' hn hs => hq h' tk' (fun b o hb ho => (hs.2 b hb).trans ho) hn
end
end

/-! ### over the abstract heap: exo is the error being made, exd its dict -/
section
variable {X : Cx} {pins : List (Addr × Obj)} {σ : L2.St} {H : Hp} {s : Shared} {a C dx : Addr} {B nI iI : String} {bmB : List Value} {f : Str} {y : V} {u : Value} {fs : List (Str × V)}
/-- an abstract heap that differs at a (an error being made) and at d (its dict, new), and has the rest -/
theorem er_un {hp h' : Heap} {o1 o2 : HO} (I : Inv X pins σ H s) (ea : H a = some (exo a C none)) (e : s.heap = hp) (hd : hp.objs.size ≤ dx) (hne : dx ≠ a) (k : ∀ b o, b ≠ a → hp.get? b = some o → h'.get? b = some o) (there : ∃ o, h'.get? a = some o) :
    Un X.fs [] H (upd (upd H dx o1) a o2) hp h' := by
  subst e
  have nd : H dx = none := I.hok.fresh hd
  have na : ∀ b, H b = none → b ≠ a := fun b n z => by
    rw [z, ea] at n
    cases n
  have ot : ∀ b o, H b = some o → o ≠ exo a C none → upd (upd H dx o1) a o2 b = some o := fun b o q n => by
    have h1 : b ≠ a := fun z => n (by rw [z, ea] at q; exact (Option.some.inj q).symm)
    rw [upd_ne h1, upd_ne (ne_of_none q nd)]
    exact q
  refine ⟨fun b o q n _ _ => k b o (na b n) q, fun b o q n _ _ => ⟨o.slots, k b o (na b n) q⟩, fun b o q n _ => ?_, fun b o q _ => ?_, fun b xs q => ot b _ q exo_tup.symm, fun b o v q => ot b _ q exo_frz.symm, fun b ps q => ⟨#[], by rw [ot b _ q exo_tbl.symm]; simp⟩⟩
  · rw [upd_ne (na b n), upd_ne (Nat.ne_of_lt (Nat.lt_of_lt_of_le (Heap.lt_size q) hd))]
    exact n
  · by_cases h : b = a
    · rw [h]; exact there
    · exact ⟨o, k b o h q⟩
theorem er_put1 {A : Around} {E : Value → Shared → Prop} {Q : Unit → Shared → Prop} (T : ErrC X.K C B nI iI bmB) (I : Inv X pins σ H s) (e : H a = some (exo a C none)) (hno : PySem.W.findIn X.K (.ref C) f = some none) (ry : RelV y u)
    (h : ∀ dx s', H dx = none → dx ≠ a → Inv X pins σ (upd (upd H dx (exd dx [(f, y)])) a (exo a C (some dx))) s' → Q () s') : wpAny (model X.prog X.w) A (setAttr (.ref a) f u) Q E s := by
  obtain ⟨t1, ho⟩ := exo_at I.hok e
  obtain ⟨hp, g, d, t, os⟩ := s
  refine PySem.W.set_plain I.kIn (ox := erO C t1 none) (od := none) ⟨ho, rfl, rfl, trivial⟩ T.sa ?_
  refine er_first T I.kIn ho hno (fun h' tk' dx k dn dne hx hn => ?_)
  have hnd : H dx = none := I.hok.fresh dn
  refine h dx _ hnd dne (I.un (t' := tk') (er_un I e rfl dn dne k ⟨_, hx⟩) fun b o q => ?_)
  by_cases hb : b = a
  · rw [hb] at q ⊢
    rw [upd_same] at q
    cases q
    exact exo_ok hx
  · rw [upd_ne hb] at q
    by_cases hd : b = dx
    · rw [hd] at q ⊢
      rw [upd_same] at q
      cases q
      exact exd_ok hn (relO_put (fs := []) ry fun g => True.intro)
    · rw [upd_ne hd] at q
      have st : ∀ c (o' : HO), H c = some o' → o' ≠ exo a C none → upd (upd H dx (exd dx [(f, y)])) a (exo a C (some dx)) c = some o' := fun c o' z n => by
        have h1 : c ≠ a := fun r => n (by rw [r, e] at z; exact (Option.some.inj z).symm)
        rw [upd_ne h1, upd_ne (ne_of_none z hnd)]
        exact z
      refine (I.hok b o q).stay (fun c v hc z => k c v ?_ z) (fun c hc => st c _ hc exo_own.symm) fun c xs hc => st c _ hc exo_tup.symm
      rcases hc with hc | hc
      · rw [hc]
        exact hb
      · exact fun r => by
          rw [r, e] at hc
          exact exo_own (Option.some.inj hc)
theorem er_put2 {A : Around} {E : Value → Shared → Prop} {Q : Unit → Shared → Prop} (T : ErrC X.K C B nI iI bmB) (I : Inv X pins σ H s) (e : H a = some (exo a C (some dx))) (ed : H dx = some (exd dx fs)) (hl : fs.length ≤ 900) (hno : PySem.W.findIn X.K (.ref C) f = some none) (ry : RelV y u)
    (h : ∀ s', Inv X pins σ (upd H dx (exd dx ((f, y) :: fs))) s' → Q () s') : wpAny (model X.prog X.w) A (setAttr (.ref a) f u) Q E s := by
  obtain ⟨t1, ho⟩ := exo_at I.hok e
  obtain ⟨mA, hns, rel⟩ := exd_at I.hok ed
  have hw := within_of rel
  obtain ⟨hp, g, d, t, os⟩ := s
  obtain ⟨oD, _, _, hoD, _, _⟩ := hns.count hw
  refine PySem.W.set_plain I.kIn (ox := erO C t1 (some dx)) (od := some oD) ⟨ho, rfl, rfl, hoD⟩ T.sa ?_
  refine er_more T I.kIn ho hns hw (by rw [List.length_map]; omega) hno (fun h' tk' k hn => ?_)
  have hd : ∃ o, h'.get? dx = some o := let ⟨o, _, _, z, _⟩ := hn; ⟨o, z⟩
  exact h _ (I.write (t' := tk') (x := dx) (e := dx) (o := exd dx ((f, y) :: fs)) (by rw [ed]; exact True.intro) (.inl rfl) k hd (exd_ok hn (relO_put ry rel)))
/-- B.__init__(self, ..) -/
theorem er_base {A : Around} {E : Value → Shared → Prop} {us : List Value} {Q : Value → Shared → Prop} (T : ErrC X.K C B nI iI bmB) (I : Inv X pins σ H s) (e : H a = some (exo a C none)) (hl : us.length ≤ sizeLine) (h : ∀ s', Inv X pins σ H s' → Q .none s') :
    wpAny (model X.prog X.w) A (call (.builtin iI) (.ref a :: us)) Q E s := by
  obtain ⟨nm, q, N, bs, bm, sn, sub, ab, col, dd, k0, k1, k2, k3, k5, hC, hbm⟩ := T.cls
  obtain ⟨t1, ho⟩ := exo_at I.hok e
  obtain ⟨hp, g, d, t, os⟩ := s
  refine wpAny_call (HandSPX.init_base T.FB (fun Y => PySem.W.excTail_contains Y bm hbm) (I.kIn _ _ hC) ho hl fun h' t2 k hx => ?_)
  have J := I.write (t' := t) (x := a) (e := a) (o := exo a C none) (by rw [e]; exact True.intro) (.inl rfl) k ⟨_, hx⟩ (exo_ok hx)
  have eu : upd H a (exo a C none) = H := funext fun b => by
    by_cases hb : b = a
    · rw [hb, upd_same, e]
    · rw [upd_ne hb]
  rw [eu] at J
  exact h _ J
end

/-! ### the readings -/
/-- B.__init__(self, ..): nothing of it is told -/
def tErI (K : PySem.W.Frag) (B nI iI : String) (bmB : List Value) (ta : TA) : TE := fun σ H Q => ta σ H fun vs H1 => ∃ (a C : Addr) (ws : List V), vs = .ref a :: ws ∧ ws.length ≤ 1000 ∧ ErrC K C B nI iI bmB ∧ H1 a = some (exo a C none) ∧ Q .non H1
/-- self.f = e -/
def tErP (K : PySem.W.Frag) (B nI iI : String) (bmB : List Value) (f : Str) (to te : TE) : TS := fun D σ H => te σ H fun y H1 => to σ H1 fun x H2 => ∃ a C : Addr, x = .ref a ∧ ErrC K C B nI iI bmB ∧ PySem.W.findIn K (.ref C) f = some none ∧
  ((H2 a = some (exo a C none) ∧ ∀ dx H3, H2 dx = none → But a H2 H3 → H3 a = some (exo a C (some dx)) → H3 dx = some (exd dx [(f, y)]) → D.nx σ H3) ∨
    ∃ (dx : Addr) (fs : List (Str × V)), H2 a = some (exo a C (some dx)) ∧ H2 dx = some (exd dx fs) ∧ fs.length ≤ 900 ∧ ∀ H3, But dx H2 H3 → H3 dx = some (exd dx ((f, y) :: fs)) → D.nx σ H3)
/-- C(e, ..): behind it the error is out of sight, its dict d is told -/
def tErM (C : Addr) (sp : Sp) (dvs : List V) (ta : TA) : L2.St → Hp → XK → Prop := fun σ H Q => ta σ H fun vs H1 => vs.length ≤ 1000 ∧ ∀ a H2, H1 a = none → Same H1 H2 → H2 a = some (exo a C none) → sp (.ref a :: (vs ++ dvs)) H2
  (fun v H3 => v = .non ∧ ∃ (d : Addr) (fs : List (Str × V)), But a H2 H3 ∧ H3 a = some (exo a C (some d)) ∧ H3 d = some (exd d fs) ∧ H2 d = none ∧ ∀ H4, Same H1 H4 → (∀ b o, b ≠ a → b ≠ d → H3 b = some o → H4 b = some o) → H4 d = some (.xd fs) → Q (.ref C) (some d) H4) (fun _ _ _ => False)
section
variable {X : Cx} {o e : Expr} {es : List Expr} {to te : TE} {ta : TA} {f x : Str} {p p' p1 p2 pos : Pos} {B nI iI : String} {bmB : List Value}
theorem pe_erI {pl : Sem Bool} (hg : Gl X x) (hm : X.mg x = none) (hbt : bootBuiltins x = some (.type B)) (hty : typeOf (.type B) = pure (.type "type")) (vV : PySem.W.findCls X.K (.type B) (.type "type") "__init__" = some (.val (.builtin iI))) (ha : PA X (e :: es) ta)
    (hst : Manifest.isStub B = false := by decide +kernel) (hh : PySem.W.handedIn (.builtin iI) = true := by decide +kernel)
    (hn : x ≠ "__name__" := by decide) (hdb : (x == ("__debug__" : Str)) = false := by decide)
    (hc : eval (.Call (.Attribute (.Name x p1) "__init__" p2) (e :: es) [] pos) X.env = (do
      let ov ← eval (.Name x p1) X.env
      standAt p2.atName
      let (f, first) ← holding [ov] (getMethod ov "__init__" pl)
      callWith pos f first (backTo pos (starEach (e :: es) X.env)) (backToKw pos (keywordEach [] X.env))) := by rfl)
    (he : starEach (e :: es) X.env = (false, eval e X.env) :: starEach es X.env := by rfl) (hpl : (backTo pos (starEach es X.env)).any (·.1) = false := by rfl) :
    PE X (.Call (.Attribute (.Name x p1) "__init__" p2) (e :: es) [] pos) (tErI X.K B nI iI bmB ta) := by
  refine ⟨fun pins s σ H Q I h => ?_⟩
  refine PySem.W.methodCall_KW (ld_blt I hg hm hbt ?_ hn hdb) hc
  obtain ⟨m, fr⟩ := I.fr
  refine PySem.W.method_type fr I.ok.mod.kin hty hst vV hh ?_
  show wpAny _ _ (callWith pos (Value.builtin iI) [] (backTo pos (starEach (e :: es) X.env)) []) _ _ _
  refine PyProof.Rows.callWith_method1 (thn (ha.run pos pins _ σ H _ (I.tok _) h) fun us s1 ⟨vs, H1, I1, r1, a, C, ws, ev, hl, T, ea, q⟩ => ?_) he hpl
  subst ev
  cases r1 with
  | @cons _ u0 _ ur ra rw' =>
    obtain rfl : u0 = Value.ref a := ra
    have hlen : ur.length ≤ sizeLine := by
      rw [← Paired.length rw', sizeLine_eq]
      omega
    exact er_base T I1 ea hlen fun s' J => ⟨.non, H1, J, rfl, q⟩
theorem ps_erP (ho : PE X o to) (he : PE X e te) (hs : swapsWith e (some (.Attribute o f p')) pos.line X.env = pure false := by rfl) : PS X (.Assign [.Attribute o f p'] e pos) (tErP X.K B nI iI bmB f to te) := by
  refine ⟨fun pins s σ H D I h => ?_⟩
  refine plainObj_wpAny_Assign_Attribute (thn (he.run pins s σ H _ I h) fun v s1 ⟨y, H1, I1, r1, q1⟩ => thn (ho.run pins s1 σ H1 _ I1 q1) fun u s2 ⟨x, H2, I2, r2, a, C, ex, T, hno, q⟩ => ?_) hs
  subst ex
  obtain rfl : u = Value.ref a := r2
  rcases q with ⟨ea, q⟩ | ⟨dx, fs, ea, ed, hl, q⟩
  · refine er_put1 T I2 ea hno r1 fun dx s' n ne J => ⟨σ, _, J, q dx _ n (fun b o hb z => ?_) upd_same ?_⟩
    · rw [upd_ne hb, upd_ne (ne_of_none z n)]
      exact z
    · rw [upd_ne ne, upd_same]
  · exact er_put2 T I2 ea ed hl hno r1 fun s' J => ⟨σ, _, J, q _ but_upd upd_same⟩
theorem pmk_er {CX : CXT} {C fI : Addr} {k : Nat} {fd : FuncData} {ps : List Str} {sp : Sp} {ds : List Value} {dvs : List V} (T : ErrC X.K C B nI iI bmB) (iC : PySem.W.findIn X.K (.ref C) "__init__" = some (some (.ref fI))) (tI : PySem.W.typeIn X.K (.ref fI) = some (.type "function"))
    (F1 : FnOk X.prog X.w X.K X.mg X.base CX k fI fd ps sp) (hr : Room (k + 1) X.A) (hb : Binds X.K fd ps ds) (hd : Vals dvs ds) (hx : Passes CX X (fun _ _ _ => False)) (hg : Gl X x) (hm : X.mg x = some (.ref C)) (ha : PA X (e :: es) ta)
    (hdb : (x == ("__debug__" : Str)) = false := by decide) (he : starEach (e :: es) X.env = (false, eval e X.env) :: starEach es X.env := by rfl) (hpl : (backTo pos (starEach es X.env)).any (·.1) = false := by rfl) :
    PMk X (.Call (.Name x p) (e :: es) [] pos) (tErM C sp dvs ta) := by
  intro pins s σ H Q I h
  obtain ⟨nm, q, N, bs, bm, sn, sub, ab, col, dd, k0, k1, k2, k3, k5, hC, hbm⟩ := T.cls
  refine wpAny_Call_Name_kw (ld_glob I hg hm ?_ hdb)
  refine PySem.W.callWith_K (h₀ := X.base) I.ok.mod.kin T.kC (thn (ha.run pos pins s σ H _ I h) fun us s1 ⟨vs, H1, I1, r1, hz, q1⟩ => ⟨I1.kIn, ?_⟩) he hpl
  show wpAny _ _ (call (.ref C) us) _ _ _
  obtain ⟨hp, g, dr, tk, os⟩ := s1
  obtain ⟨n0, en⟩ : ∃ n, n = hp.objs.size + 1 := ⟨_, rfl⟩
  have hsz : hp.objs.size ≤ n0 := by rw [en]; exact Nat.le_succ _
  have hn : H1 n0 = none := I1.hok.fresh hsz
  have hq := q1 n0 (upd H1 n0 (exo n0 C none)) hn (same_upd hn) upd_same
  have kk : ∀ b o, hp.get? b = some o → ((hp.push (PySem.W.kdv_tup us)).push (PySem.HandSPX.excO C hp.objs.size)).get? b = some o := fun b o z => Heap.get?_push_of_some _ (Heap.get?_push_of_some _ z)
  have hget : ((hp.push (PySem.W.kdv_tup us)).push (PySem.HandSPX.excO C hp.objs.size)).get? n0 = some (PySem.HandSPX.excO C hp.objs.size) := by
    rw [en]
    heap_get
  have I2 : Inv X pins σ (upd H1 n0 (exo n0 C none)) ⟨(hp.push (PySem.W.kdv_tup us)).push (PySem.HandSPX.excO C hp.objs.size), g, dr, tk, os⟩ := I1.laid (t' := tk) kk hsz (exo_ok hget)
  have r2 : Vals (V.ref n0 :: (vs ++ dvs)) (Value.ref n0 :: (us ++ ds)) := .cons rfl (r1.append hd)
  have hl : (Value.ref n0 :: us ++ ds).length = ps.length := r2.length.symm.trans (F1.len _ _ _ _ hq)
  have hus : us.length ≤ sizeLine := by
    rw [← Paired.length r1, sizeLine_eq]
    omega
  have J := F1.run (X.A.under (.builtin "type.__call__" ⟨.ref C :: us, []⟩)) X.stack _ _ ⟨Value.ref n0 :: us, []⟩ (Value.ref n0 :: (us ++ ds)) _ _ (fun _ _ _ => False) (hr.make C us []) (I2.env0.make C us []) (hb _ (Value.ref n0 :: us) I2.kIn hl) r2 hq
  refine wpAny_call (PySem.HandSPX.call_own T.FB (fun Y => PySem.W.excTail_contains Y bm hbm) (I1.kIn _ _ hC) (PySem.W.looks_findIn I1.kIn iC) (fun self => PySem.W.bind_fn I1.kIn self tI) hus (en ▸ codeAny_mono J fun r s' hq' => ?_))
  cases r with
  | error er => exact hx pins σ _ _ er s' I2 hq'
  | ok fl =>
    cases fl with
    | ret u =>
      obtain ⟨v, H3, os3, bare3, un3, hok3, rv, ev, d, fs, bu, ea, ed, hd1, q3⟩ := hq'
      subst ev
      have d1 : H1 d = none := by
        cases z : H1 d with
        | none => rfl
        | some o =>
          have y := same_upd (o := exo n0 C none) hn d o z
          rw [hd1] at y
          cases y
      have dne : d ≠ n0 := fun z => by
        rw [z, upd_same] at hd1
        cases hd1
      obtain ⟨h3, g3, dr3, t3, os'⟩ := s'
      refine ⟨rv, mk_end (raises_own T.exC T.tyC) I1 hsz kk un3 hok3 os3 bare3 ea ed d1 (q3 _ (fun b o z => ?_) (fun b o h1 h2 z => ?_) upd_same)⟩
      · have b1 : b ≠ n0 := ne_of_none z hn
        rw [upd_ne (ne_of_none z d1), del_ne b1]
        exact bu b o b1 (same_upd hn b o z)
      · rw [upd_ne h2, del_ne h1]
        exact z
    | next => exact hq'.elim
    | brk => exact hq'.elim
    | cont => exact hq'.elim
end

/-! ### an error that is kept behind its suite -/
/-- at a: an error of class cls, its dict d -/
def ExK (a : Addr) (cls : Value) (d : Option Addr) : HO := .ext fun h => ∃ oe vs, h.get? a = some oe ∧ Zc cls d oe ∧ oe.data = .fields vs
theorem exk_own {a x : Addr} {cls : Value} {d : Option Addr} : ExK a cls d ≠ .own x := fun z => by
  have z' : HO.ext _ = HO.own x := z
  cases z'
theorem exk_ok {P : Program} {w : World} {H : Hp} {h : Heap} {a : Addr} {cls : Value} {d : Option Addr} {oe : Obj} {vs : Array Value} (he : h.get? a = some oe) (hz : Zc cls d oe) (hd : oe.data = .fields vs) : ObjOk P w H h a (ExK a cls d) :=
  ⟨⟨oe, vs, he, hz, hd⟩, ⟨_, he⟩, fun h1 h2 ⟨o, v, q, r⟩ k => ⟨o, v, k _ q, r⟩⟩
theorem exk_at {P : Program} {w : World} {H : Hp} {h : Heap} {a : Addr} {cls : Value} {d : Option Addr} (hok : HOk P w H h) (e : H a = some (ExK a cls d)) : ∃ oe vs, h.get? a = some oe ∧ Zc cls d oe ∧ oe.data = .fields vs := by
  have x : ObjOk P w H h a (.ext fun h => ∃ oe vs, h.get? a = some oe ∧ Zc cls d oe ∧ oe.data = .fields vs) := hok a _ e
  exact x.1
section
variable {X : Cx} {pins : List (Addr × Obj)} {σ : L2.St} {H : Hp} {s : Shared} {a : Addr} {oe : Obj} {vs : Array Value} {cls : Value} {d : Option Addr}
/-- a known object, untold as yet, is told -/
theorem tell (I : Inv X pins σ H s) (he : s.heap.get? a = some oe) (hz : Zc cls d oe) (hd : oe.data = .fields vs) (na : H a = none) (nL : a ≠ X.env.locals) (n0 : X.s_0.heap.get? a = none) (np : ∀ p ∈ X.pn ++ pins, p.1 ≠ a) : Inv X pins σ (upd H a (ExK a cls d)) s := by
  have ot : ∀ b o, H b = some o → upd H a (ExK a cls d) b = some o := fun b o z => by
    rw [upd_ne (ne_of_none z na)]
    exact z
  have no : ∀ b, b ≠ a → H b = none → upd H a (ExK a cls d) b = none := fun b h z => by
    rw [upd_ne h]
    exact z
  refine ⟨I.ok, I.os, I.bare, ⟨I.base.keep, I.base.slot, fun b o e n hx => no b (fun z => ?_) (I.base.free b o e n hx), I.base.there, fun b xs e => ot b _ (I.base.tups b xs e), fun b o v e => ot b _ (I.base.frzs b o v e), fun b ps e => ?_⟩, I.loc, I.cell, no _ nL.symm I.free,
    fun x c e => no c (fun z => ?_) (I.freeC x c e), fun p hp => ?_, fun b o e => ?_, I.len⟩
  · rw [z, n0] at e
    cases e
  · obtain ⟨more, q⟩ := I.base.tbls b ps e
    exact ⟨more, ot b _ q⟩
  · obtain ⟨v, oc, q, r⟩ := I.cell x c e
    rw [z, he] at q
    cases q
    have r' : oe.data = .cell v := by first | exact r | exact r.2 | exact r.1
    rw [hd] at r'
    cases r'
  · obtain ⟨h1, h2, h3⟩ := I.pin p hp
    exact ⟨h1, no _ (np p hp) h2, h3⟩
  · by_cases hb : b = a
    · rw [hb] at e ⊢
      rw [upd_same] at e
      cases e
      exact exk_ok he hz hd
    · rw [upd_ne hb] at e
      exact (I.hok b o e).stay (fun _ _ _ q => q) (fun c q => ot c _ q) fun c xs q => ot c _ q
theorem suite_out {q : Addr × Obj} {pn' : List (Addr × Obj)} (I : Inv (X.suite a (q :: (X.pn ++ pins))) pn' σ H s) (ok : X.Ok) : Inv X (q :: pins) σ H s :=
  ⟨ok, I.os, I.bare, I.base, I.loc, I.cell, I.free, I.freeC, fun p hp => I.pin p (List.mem_append_left _ (by
    rcases List.mem_append.mp hp with z | z
    · exact List.mem_cons_of_mem _ (List.mem_append_left _ z)
    · rcases List.mem_cons.mp z with z | z
      · rw [z]
        exact List.mem_cons_self
      · exact List.mem_cons_of_mem _ (List.mem_append_right _ z))), I.hok, I.len⟩
end

/-- every way out of a suite, with the error at a told from then on -/
def keepD (i : Nat) (a : Addr) (cls : Value) (d : Option Addr) (D : Ends) : Ends :=
  { nx := fun σ' H' => ∀ H2, Same H' H2 → H2 a = some (ExK a cls d) → D.nx (σ'.set i none) H2, bk := fun σ' H' => ∀ H2, Same H' H2 → H2 a = some (ExK a cls d) → D.bk (σ'.set i none) H2,
    ct := fun σ' H' => ∀ H2, Same H' H2 → H2 a = some (ExK a cls d) → D.ct (σ'.set i none) H2, rt := fun v H' => ∀ H2, Same H' H2 → H2 a = some (ExK a cls d) → D.rt v H2 }
/-- what 'except x as n' wishes of the body's errors; slot i is n's -/
def wKp (K : PySem.W.Frag) (c : Value) (i : Nat) (ts : Addr → Value → Option Addr → TS) (Wout : WX) (D : Ends) : WX := fun cls d σ H =>
  ∃ b, PySem.W.exmOne K cls c = some b ∧ (b = true → ∀ a, H a = none → ts a cls d (keepD i a cls d D) (σ.set i (some (.ref a))) H) ∧ (b = false → Wout cls d σ H)
section
variable {X : Cx} {x n : Str} {c : Value} {i : Nat} {body suite : List Stmt} {b₀ : Stmt} {np pos pos' : Pos} {tb : WX → TS} {ts : Addr → Value → Option Addr → TS} {Wout : WX}
theorem sky_new {B : Heap} {l : List Env} {a L : Addr} {Z : Obj → Prop} {h : Heap} (x : Sky B l a Z L h) : B.get? a = none := by
  rcases x with x | x | x <;> exact x.2.1
/-- the suite's end: the name goes, the error is told -/
theorem suite_end {pins : List (Addr × Obj)} {σ : L2.St} {H : Hp} {s : Shared} {a : Addr} {oe : Obj} {vs : Array Value} {cls : Value} {d : Option Addr} {R : Shared → Prop} (I : Inv (X.suite a ((a, oe) :: (X.pn ++ pins))) [] σ H s) (ok : X.Ok) (hN : X.N.Nodup) (hi : X.N[i]? = some n) (hln : X.env.kindOf n = some .local)
    (hz : Zc cls d oe) (hd : oe.data = .fields vs) (n0 : X.s_0.heap.get? a = none) (np : ∀ p ∈ X.pn ++ pins, p.1 ≠ a) (hR : ∀ H2 s', Same H H2 → H2 a = some (ExK a cls d) → Inv X pins (σ.set i none) H2 s' → R s') :
    wpAny (model X.prog X.w) X.A (do bindName X.env n .none; unbindBehindTheSuite X.env n pos') (fun _ s' => R s') X.xe s := by
  refine gone_ok (suite_out I ok) hN hi hln fun s7 J => ?_
  obtain ⟨h1, h2, h3, h4, h5⟩ := J.pin (a, oe) (List.mem_append_right _ List.mem_cons_self)
  have J' : Inv X pins (σ.set i none) H s7 := ⟨ok, J.os, J.bare, J.base, J.loc, J.cell, J.free, J.freeC, fun p hp => J.pin p (by
    rcases List.mem_append.mp hp with z | z
    · exact List.mem_append_left _ z
    · exact List.mem_append_right _ (List.mem_cons_of_mem _ z)), J.hok, J.len⟩
  exact hR _ s7 (same_upd h2) upd_same (tell J' h1 hz hd h2 h3 n0 np)
theorem ps_try_keep (hex : X.ex = []) (hs : X.stack = X.env :: X.outer) (hf : X.env.frame = some X.env.locals) (hN : X.N.Nodup) (hi : X.N[i]? = some n) (hln : X.env.kindOf n = some .local) (hc : Names X x c) (tk : Takes X Wout)
    (hb : ∀ (W : WX) (pn : List (Addr × Obj)) (xe : Value → Shared → Prop), Takes (X.tr pn xe) W → PassesOwn (model X.prog X.w) X.A X.env xe → PSs (X.tr pn xe) body (tb W))
    (hsu : ∀ (a : Addr) (oe : Obj) (cls : Value) (d : Option Addr) (pn : List (Addr × Obj)), Zc cls d oe → (∃ vs, oe.data = .fields vs) → PSs (X.suite a ((a, oe) :: pn)) (b₀ :: suite) (ts a cls d)) :
    PS X (.Try body [.ExceptHandler (some (.Name x np)) (some n) (b₀ :: suite) pos'] [] [] pos) (fun D σ H => tb (wKp X.K c i ts Wout D) D σ H) := by
  refine ⟨fun pins s σ H D I h => ?_⟩
  have ok := I.ok
  have hfr : X.A.frames = some (X.env :: X.outer) := ok.frames.trans (congrArg some hs)
  refine wpAny_Try_except (wpAny_mono ((hb (wKp X.K c i ts Wout D) (X.pn ++ pins) (fun e s₁ => wpAny (model X.prog X.w) X.A (noteFrame e X.env) (fun _ s₂ => wpAny (model X.prog X.w) X.A (setFlight e none) (fun _ s₃ =>
    wpAny (model X.prog X.w) X.A (handleBy e X.env [.ExceptHandler (some (.Name x np)) (some n) (b₀ :: suite) pos']) (SP X pins D) X.xe s₃) X.xe s₂) X.xe s₁) (fun u s' xx => ?_) PassesOwn.looking).run [] s σ H D (I.toTry _) h) (fun f s1 hsp => ?_) fun e s1 he => he)
  · obtain ⟨a, B, sI, pins', σ', H', cls, d, rfl, J', nb, up, sky, na, os, ag, b, hb1, hyes, hno⟩ := xx
    have J : Inv X pins σ' H' sI := J'.ofTry ok
    have sky' : Sky B (X.env :: X.outer) a (Zc cls d) X.env.locals s'.heap := hs ▸ sky
    have Ba := sky_new sky'
    show wpAny (model X.prog X.w) X.A (noteFrame (.ref a) X.env) _ _ _
    refine Sky.land Zc.steady hfr hf sky' fun h3 fl3 up3 => ?_
    have J3 : Inv X pins σ' H' { s' with heap := h3 } := J.landed nb fl3.1 (up.trans up3) os ag
    obtain ⟨oe3, vs3, he3, hz3, hd3⟩ := fl3.there
    have nfr : a ∉ frs (X.env :: X.outer) := fun hm => by
      obtain ⟨_, o', e', hnf⟩ := fl3.2.2.1.mem hm
      rw [he3] at e'
      cases e'
      exact hnf _ hd3
    have nL : a ≠ X.env.locals := fun z => nfr (List.mem_filterMap.mpr ⟨X.env, List.mem_cons_self, by rw [hf, z]⟩)
    have nF : a ∉ X.fs := fun hm => by
      obtain ⟨e, h1, q⟩ := List.mem_filterMap.mp hm
      exact nfr (List.mem_filterMap.mpr ⟨e, List.mem_cons_of_mem _ h1, q⟩)
    -- nothing of the entry, nothing pinned, is the error
    have isnt : ∀ b o, sI.heap.get? b = some o → b ∉ frs (X.env :: X.outer) → b ≠ a := fun b o q h1 z => by
      have y := nb b o q (hs.symm ▸ h1)
      rw [z, Ba] at y
      cases y
    have n0 : X.s_0.heap.get? a = none := by
      cases q : X.s_0.heap.get? a with
      | none => rfl
      | some o =>
        obtain ⟨o', q'⟩ := J.base.there a o q (by rw [hex]; exact List.not_mem_nil)
        exact absurd rfl (isnt a o' q' nfr)
    have npin : ∀ p ∈ X.pn ++ pins, p.1 ≠ a := fun p hp => by
      obtain ⟨h1, _, h2, h3, _⟩ := J.pin p hp
      refine isnt p.1 p.2 h1 fun hm => ?_
      rcases List.mem_cons.mp (J.stkSub p.1 (hs.symm ▸ hm)) with z | z
      · exact h2 z
      · exact h3 z
    have S3 := J3.suite he3 hd3 na nL nF
    refine wpAny_handleBy_cons (codeAny_handlers_test ?_) fun q => nomatch q
    have LT : PySem.W.Looks (model X.prog X.w) h3 (typeOf (.ref a)) cls := fun A Q E s k q => wpAny_typeOf_ref (k _ _ he3) (by rw [hz3.1]; exact q)
    have LM := PySem.W.exm_one (M := model X.prog X.w) J3.kIn LT hb1
    have test : ∀ {Q : Value → Shared → Prop} {E : Value → Shared → Prop}, Q c { s' with heap := h3 } → wpAny (model X.prog X.w) (X.A.mark (some (.ref a))) (eval (.Name x np) X.env) Q E { s' with heap := h3 } := fun {Q E} q => by
      obtain ⟨hg, hdbg, hm | ⟨hm, hv, hnn⟩⟩ := hc
      · exact ld_glob (X := X.suite a ((a, oe3) :: (X.pn ++ pins))) S3 hg hm q hdbg
      · exact ld_blt (X := X.suite a ((a, oe3) :: (X.pn ++ pins))) S3 hg hm hv q hnn hdbg
    refine test (LM.here ?_)
    cases b with
    | true =>
      refine codeAny_handlers_suite_as (HandSPX.lands_againZ fl3 fun h4 fl4 up4 => ?_)
      have J4 : Inv X pins σ' H' { s' with heap := h4 } := J.landed nb fl4.1 ((up.trans up3).trans up4) os ag
      obtain ⟨oe4, vs4, he4, hz4, hd4⟩ := fl4.there
      refine store_ok (X := X.suite a ((a, oe4) :: (X.pn ++ pins))) (v := .ref a) (J4.suite he4 hd4 na nL nF) hN hi (.inl hln) rfl (fun s5 S5 => ?_) (.inr hln)
      refine wpAny_mono ((hsu a oe4 cls d (X.pn ++ pins) hz4 ⟨_, hd4⟩).run [] s5 _ H' _ S5 (hyes rfl a na)) (fun f s6 hsp => ?_) fun _ _ z => False.elim z
      cases f with
      | next =>
        obtain ⟨σ6, H6, S6, q6⟩ := hsp
        exact suite_end S6 ok hN hi hln hz4 hd4 n0 npin fun H2 s7 w1 w2 J7 => ⟨_, _, J7, q6 H2 w1 w2⟩
      | brk =>
        obtain ⟨σ6, H6, S6, q6⟩ := hsp
        exact suite_end S6 ok hN hi hln hz4 hd4 n0 npin fun H2 s7 w1 w2 J7 => ⟨_, _, J7, q6 H2 w1 w2⟩
      | cont =>
        obtain ⟨σ6, H6, S6, q6⟩ := hsp
        exact suite_end S6 ok hN hi hln hz4 hd4 n0 npin fun H2 s7 w1 w2 J7 => ⟨_, _, J7, q6 H2 w1 w2⟩
      | ret u =>
        obtain ⟨v6, σ6, H6, S6, r6, q6⟩ := hsp
        exact suite_end S6 ok hN hi hln hz4 hd4 n0 npin fun H2 s7 w1 w2 J7 => ⟨_, _, _, J7, r6, q6 H2 w1 w2⟩
    | false =>
      show wpAny _ X.A (handleBy (.ref a) X.env []) _ _ _
      refine wpAny_handleBy_nil ?_
      obtain ⟨k1, k2, k3, oe, vs, T, oT, ts', he, hz, hd, h1, hr⟩ := id fl3
      unfold PySem.passOn
      refine wpAny_bind (wpAny_field he hd h1 ?_)
      rw [if_neg (show ¬ ((Value.ref T == Value.none) = true) from by simp)]
      have fin : wpAny (model X.prog X.w) X.A (setFlight (.ref a) X.env.frame) (fun _ s4 => wpAny (model X.prog X.w) X.A (throw (.ref a) : Sem Flow) (SP X pins D) X.xe s4) X.xe { s' with heap := h3 } := by
        rw [hf]
        refine HandSPX.setFlight_upZ fl3 fun h4 hh4 up4 => wpAny_throw (tk _ _ ?_)
        exact ⟨a, B, sI, pins, σ', H', cls, d, rfl, J, nb, (up.trans up3).trans up4, .inr (.inr (by rw [hs]; exact hh4)), na, os, ag, hno rfl⟩
      first
        | exact wpAny_bind (wpAny_pure (wpAny_bind fin))
        | exact wpAny_bind fin
  · cases f with
    | next =>
      obtain ⟨σ', H', J', q⟩ := hsp
      exact wpAny_execs_nil ⟨σ', H', J'.ofTry ok, q⟩
    | brk =>
      obtain ⟨σ', H', J', q⟩ := hsp
      exact ⟨σ', H', J'.ofTry ok, q⟩
    | cont =>
      obtain ⟨σ', H', J', q⟩ := hsp
      exact ⟨σ', H', J'.ofTry ok, q⟩
    | ret u =>
      obtain ⟨v, σ', H', J', r, q⟩ := hsp
      exact ⟨v, σ', H', J'.ofTry ok, r, q⟩
end

/-! ### what is asked of a kept error -/
/-- what the written part says of the class C of errors -/
structure ErrA (K : PySem.W.Frag) (C : Addr) : Prop where
  ic : (PySem.W.clsIn K C).isSome = true
  hd : PySem.W.hasDictIn K C = true
  ga : PySem.W.findIn K (.ref C) "__getattribute__" = some (some (.builtin "BaseException.__getattribute__"))
  gg : PySem.W.findIn K (.ref C) "__getattr__" = some none
  ex : PySem.W.subIn K (.ref C) (.type "BaseException") = some true
  ca : PySem.W.findIn K (.ref C) "__class__" = some (some (.builtin "object.__class__"))
  cn : PySem.W.specialIn K (.builtin "object.__class__") "__get__" = some (some (.builtin "getset_descriptor.__get__"))
  ct : PySem.W.takesIn K (.builtin "object.__class__") = some true
  mo : PySem.W.mroIn K C (.type "object") = some true
section
variable {X : Cx} {pins : List (Addr × Obj)} {σ : L2.St} {H : Hp} {s : Shared} {a C dd : Addr} {fs : List (Str × V)} {f n : Str} {v : V}
theorem exk_inst (T : ErrA X.K C) (I : Inv X pins σ H s) (ea : H a = some (ExK a (.ref C) (some dd))) (ed : H dd = some (.xd fs)) :
    ∃ (oe od : Obj) (mA : Str → Option Value), PySem.W.InstAt s.heap a oe C (some od) ∧ (∀ f, RelO (fs.lookup f) (mA f)) ∧ ∀ f, PySem.W.lookIn f od = some (mA f) := by
  obtain ⟨oe, vs, he, hz, hd⟩ := exk_at I.hok ea
  have hx : ObjOk X.prog X.w H s.heap dd (.xd fs) := I.hok dd _ ed
  obtain ⟨mA, hns, hr⟩ := hx
  obtain ⟨od, ho, hl⟩ := lookIn_ns hns
  exact ⟨oe, od, mA, ⟨he, hz.1, by unfold PySem.W.notCls; rw [hd], by rw [hz.2]; exact ho⟩, hr, hl⟩
/-- isinstance(e, c) -/
def rIsK (K : PySem.W.Frag) (C : Addr) : List V → Hp → VK → Prop := fun xs H Q => ∃ (a dd : Addr) (fs : List (Str × V)) (c : V) (cv : Value) (b : Bool), xs = [.ref a, c] ∧ H a = some (ExK a (.ref C) (some dd)) ∧ H dd = some (.xd fs) ∧ (∀ u, RelV c u → u = cv) ∧ PySem.W.kitOne K (.ref C) cv = some b ∧ Q (.bl b) H
theorem call_isK (T : ErrA X.K C) : CallR X (.builtin "isinstance") (rIsK X.K C) := by
  intro pins s σ H xs us Q I r h
  obtain ⟨a, dd, fs, c, cv, b, rfl, ea, ed, hcv, e, q⟩ := h
  cases r with
  | cons rx rr =>
    cases rr with
    | cons rt rr =>
      cases rr
      cases rx
      have ec := hcv _ rt
      subst ec
      obtain ⟨oe, od, mA, J, _, _⟩ := exk_inst T I ea ed
      exact PySem.W.kia_one (PySem.W.kitx_exc T.ic T.ga T.gg T.ex T.ca T.cn T.ct T.mo) I.kIn J e (fun z => nomatch z) fun tk => ⟨.bl b, H, I.kept (t' := tk) fun _ _ z => z, rfl, q⟩
/-- e.f -/
def tXk (C : Addr) (f : Str) (te : TE) : TE := fun σ H Q => te σ H fun x H1 => ∃ (a dd : Addr) (fs : List (Str × V)) (v : V), x = .ref a ∧ H1 a = some (ExK a (.ref C) (some dd)) ∧ H1 dd = some (.xd fs) ∧ fs.lookup f = some v ∧ Q v H1
theorem pe_xk {e : Expr} {te : TE} {pos : Pos} (T : ErrA X.K C) (hno : PySem.W.findIn X.K (.ref C) n = some none) (he : PE X e te) (hb : attributeBase e n X.env (eval e X.env) = eval e X.env := by rfl) : PE X (.Attribute e n pos) (tXk C n te) := by
  refine ⟨fun pins s σ H Q I h => ?_⟩
  refine attr_of hb (thn (he.run pins s σ H _ I h) fun u s1 hh => ?_)
  obtain ⟨x, H1, I1, rx, a, dd, fs, v, ex, ea, ed, l, q⟩ := hh
  subst ex
  obtain rfl : u = Value.ref a := rx
  obtain ⟨oe, od, mA, J, hr, hl⟩ := exk_inst T I1 ea ed
  obtain ⟨u, hu, ru⟩ := RelO.some_of (v := v) (o := mA n) (by rw [← l]; exact hr n)
  exact HandSPX.exc_get I1.kIn J T.ga T.gg T.ex (PySem.W.findObj_own T.hd hno rfl (by rw [hl, hu])) (handed_of ru) ⟨v, H1, I1.tok _, ru, q⟩
end
/-- isinstance's answer over an own class: of a built-in type, of an own one -/
theorem kit_ty {K : PySem.W.Frag} {C : Addr} {t : String} {b : Bool} (h1 : PySem.W.kitMeta t = true) (h2 : PySem.W.subIn K (.ref C) (.type t) = some b) : PySem.W.kitOne K (.ref C) (.type t) = some b := by
  have hne : (Value.ref C == Value.type t) = false := Bool.eq_false_iff.mpr fun q => by cases beq_iff_eq.mp q
  unfold PySem.W.kitOne
  rw [hne]
  simp [PySem.W.kitCls, h1, h2]
/-- 'except C' catches C's own -/
theorem exm_own {K : PySem.W.Frag} {C : Addr} (h1 : PySem.W.subIn K (.ref C) (.type "BaseException") = some true) (h2 : PySem.W.hasDictIn K C = true) (h3 : PySem.W.typeIn K (.ref C) = some (.type "type")) (h4 : PySem.W.subIn K (.ref C) (.ref C) = some true) :
    PySem.W.exmOne K (.ref C) (.ref C) = some true := PySem.W.exm_ref h1 h2 h3 h4

/-! ### a method that may raise, in a body of try -/
def tMethX (C : Addr) (m : Str) (sp : Sp) (dvs : List V) (E : L2.St → XK) (ta : TE) (t : TA) : TE := fun σ H Q => ta σ H fun x H1 => ∃ a dx fs, x = .ref a ∧ H1 a = some (.ins C dx fs) ∧ fs.lookup m = none ∧ t σ H1 fun vs H2 => sp (x :: (vs ++ dvs)) H2 Q (E σ)
theorem pe_methX {X : Cx} {CX : CXT} {k : Nat} {f C : Addr} {fd : FuncData} {ps : List Str} {sp : Sp} {dvs : List V} {ds : List Value} {E : L2.St → XK} {m : Str} {apos pos : Pos} {e o : Expr} {es : List Expr} {ta : TE} {t : TA} {pl : Sem Bool} (he : PE X o ta) (c : Cls X.K C) (hm : Meth X.K C m f)
    (F : FnOk X.prog X.w X.K X.mg X.base CX k f fd ps sp) (hr : Room k X.A) (hb : Binds X.K fd ps ds) (hd : Vals dvs ds) (hx : ∀ σ, PassesAt CX X σ (E σ)) (ha : PA X (e :: es) t)
    (hst : starEach (e :: es) X.env = (false, eval e X.env) :: starEach es X.env := by rfl) (hpl : (backTo pos (starEach es X.env)).any (·.1) = false := by rfl)
    (ht : eval (.Call (.Attribute o m apos) (e :: es) [] pos) X.env = (do
      let ov ← eval o X.env
      standAt apos.atName
      let (f, first) ← holding [ov] (getMethod ov m pl)
      callWith pos f first (backTo pos (starEach (e :: es) X.env)) (backToKw pos (keywordEach [] X.env))) := by rfl) :
    PE X (.Call (.Attribute o m apos) (e :: es) [] pos) (tMethX C m sp dvs E ta t) := by
  refine ⟨fun pins s σ H Q I h => ?_⟩
  refine PySem.W.methodCall_KW (pl := pl) (thn (he.run pins s σ H _ I h) fun u s1 ⟨x, H1, I1, rx, a, dx, fs, ex, ea, l, q⟩ => ?_) ht
  subst ex
  obtain rfl : u = Value.ref a := rx
  refine getmeth_ok I1 ea c hm l ?_
  exact PySem.W.callWith_K (first := [.ref a]) (h₀ := X.base) I.ok.mod.kin hm.kp (thn (ha.run pos pins s1 σ H1 _ I1 q) fun us s2 ⟨vs, H2, I2, r, q2⟩ => ⟨I2.kIn, run_fnSD (us := .ref a :: us) (vs := .ref a :: vs) F hr hb hd (hx σ) I2 (.cons rfl r) q2⟩) hst hpl

/-! ### {x} of an instance with an own __str__ -/
def tFmtO (C : Addr) (sp : Sp) (E : XK) (te : TE) : TE := fun σ H Q => te σ H fun x H1 => ∃ a dx fs, x = .ref a ∧ H1 a = some (.ins C dx fs) ∧ sp [.ref a] H1 (fun v H2 => ∃ z : Str, v = .str z ∧ Q (.str z) H2) E
theorem pe_fmtO {X : Cx} {CX : CXT} {n : Nat} {C f : Addr} {fd : FuncData} {ps : List Str} {sp : Sp} {E : XK} {e : Expr} {te : TE} {pos : Pos} (F : FnOk X.prog X.w X.K X.mg X.base CX n f fd ps sp) (hr : Room (n + 1) X.A) (hs : PySem.W.findIn X.K (.ref C) "__str__" = some (some (.ref f))) (hf : PySem.W.isFn X.K (.ref f) = true)
    (hfm : PySem.W.findIn X.K (.ref C) "__format__" = some (some (.builtin "object.__format__"))) (hm : PySem.W.mroIn X.K C (.type "object") = some true) (hb : Binds X.K fd ps []) (hx : Passes CX X E) (he : PE X e te) : PE X (.FormattedValue e (-1) none pos) (tFmtO C sp E te) := by
  refine ⟨fun pins s σ H Q I h => ?_⟩
  refine wpAny_FormattedValue_plain (thn (he.run pins s σ H _ I h) fun u s1 ⟨x, H1, I1, rx, a, dx, fs, ex, ea, q⟩ => ?_)
  subst ex
  obtain rfl : u = Value.ref a := rx
  obtain ⟨mA, O, _⟩ := ins_get I1.hok ea
  obtain ⟨od, J, _⟩ := O.look
  refine PySem.W.kfo_fieldS hr.in1.units0 I1.kIn J hfm hm hs hf (thn (at_fn F hr.in1 (I1.tok _).env0.in1 hb hx (I1.tok _) (vs := [.ref a]) (us := [.ref a]) (.cons rfl .nil) q) fun w s' z => ?_)
  obtain ⟨z', H', I', rz, y, ey, qz⟩ := z
  subst ey
  obtain ⟨t, et⟩ := (show ∃ t, w = Value.str y t from rz)
  cases et
  exact ⟨.str y, H', I', ⟨t, rfl⟩, qz⟩

/-! ### a dict of the written part, walked by its items -/
/-- the entries of a written dict, as they are told -/
def RowsE (es : Array DictEntry) (kvs : List (V × V)) : Prop := es.size = kvs.length ∧ ∀ i (h : i < es.size) k v, kvs[i]? = some (k, v) → RelV k es[i].key ∧ RelV v es[i].val
def Itw (kvs : List (V × V)) : It :=
  ⟨fun i _ => i < kvs.length, fun i H x H' => ∃ T k v, kvs[i]? = some (k, v) ∧ x = .ref T ∧ H T = none ∧ H' = upd H T (.tup [k, v]), fun i _ => kvs.length ≤ i⟩
theorem turn_written {P : Program} {w : World} {K : PySem.W.Frag} {d : Addr} {es : Array DictEntry} {ep : Nat} {kvs : List (V × V)} {elts : List Expr} {kk : Nat} {tpos : Pos} (it : Addr) (at_ : K.lookup d = some ⟨.type "dict", none, .dict es ep, #[]⟩) (R : RowsE es kvs) :
    Turn P w K (.Tuple elts kk tpos) (Itw kvs) [it] it (fun i h => ∃ ok ov, IsItemIter h it d i es.size ep ok ov) where
  mem := by simp
  obj := fun i h st b hb => by
    obtain rfl : b = it := by simpa using hb
    obtain ⟨ok, ov, e⟩ := st
    exact ⟨_, e, fun v z => nomatch z⟩
  keep := fun i h h' st k => let ⟨ok, ov, e⟩ := st; ⟨ok, ov, k it (by simp) _ e⟩
  item := by
    intro X hP hw hK hc i pins s σ H E I hf st hi
    subst hP hw hK
    obtain ⟨hz, hr⟩ := R
    have hi' : i < kvs.length := hi
    have hie : i < es.size := by omega
    obtain ⟨⟨k, v⟩, hkv⟩ : ∃ p, kvs[i]? = some p := ⟨kvs[i], List.getElem?_eq_getElem hi'⟩
    obtain ⟨rk, rv⟩ := hr i hie k v hkv
    obtain ⟨ok, ov, he⟩ := st
    have hraw : s.heap.DictRaw d es ep := ⟨_, I.kIn _ _ at_, ⟨rfl, rfl, rfl⟩, rfl⟩
    have hlt : it < s.heap.objs.size := Heap.lt_size he
    refine wpAny_pyNext_items_item_raw he hraw hie fun h' ho hT hz hk => ?_
    refine ⟨_, rfl, wpAny_letOwnedTupleGo_items (s := { s with heap := h' }) ho fun h'' he' sb => ?_⟩
    have hT2 : h''.get? s.heap.objs.size = some { cls := .type "tuple", data := .seq #[es[i].key, es[i].val] } := (sb.2 _ (Nat.ne_of_gt hlt)).trans hT
    have new : ObjOk X.prog X.w (upd H s.heap.objs.size (.tup [k, v])) h'' s.heap.objs.size (.tup [k, v]) :=
      ⟨by show 2 ≤ sizeLine; decide, [es[i].key, es[i].val], .cons rk (.cons rv .nil), ⟨_, hT2, rfl, _, rfl⟩⟩
    have I1 : Inv X pins σ (upd H s.heap.objs.size (.tup [k, v])) { s with heap := h'' } :=
      I.turnedNew (t' := s.toks) (ch := [it]) (fun b ob hb e => (sb.2 b (by simpa using hb)).trans (hk b ob (by simpa using hb) e)) hf (Nat.le_refl _) new
    refine ⟨.ref s.heap.objs.size, _, I1, rfl, ⟨_, k, v, hkv, rfl, I.hok.fresh (Nat.le_refl _), rfl⟩, ⟨es[i].key, es[i].val, he'⟩, fun b hb => ?_⟩
    obtain rfl : b = it := by simpa using hb
    rw [upd_ne (Nat.ne_of_lt hlt)]
    exact (hf b (by simp)).1
  done := by
    intro X hP hw hK hc i pins s σ H E I hf st hi
    subst hP hw hK
    obtain ⟨f0, f1, f2, f3, f4, f5⟩ := hf it (by simp)
    obtain ⟨ok, ov, he⟩ := st
    have hi' : kvs.length ≤ i := hi
    have hge : es.size ≤ i := by rw [R.1]; exact hi'
    have hraw : s.heap.DictRaw d es ep := ⟨_, I.kIn _ _ at_, ⟨rfl, rfl, rfl⟩, rfl⟩
    exact wpAny_pyNext_items_end_raw (I.ok.hd hc) he hraw hge fun h' eb => ⟨rfl, I.turned (t' := s.toks) (fun b ob hb e => eb b ob hb e) f0 f1 f3 f4 f5⟩
  self := fun A i s Q E st h => let ⟨_, _, e⟩ := st; PySem.W.kcp_self e h
def iWritten (kvs : List (V × V)) (d : Addr) (td : TE) : TI := fun σ H R => td σ H fun x H1 => x = .ref d ∧ R (Itw kvs) H1
theorem pi_written {X : Cx} {e : Expr} {td : TE} {apos cpos : Pos} {d : Addr} {es : Array DictEntry} {ep : Nat} {kvs : List (V × V)} {elts : List Expr} {kk : Nat} {tpos : Pos} (at_ : X.K.lookup d = some ⟨.type "dict", none, .dict es ep, #[]⟩) (hs : (d == sysModules) = false) (R : RowsE es kvs) (he : PE X e td)
    (hbase : attributeBase e "items" X.env (eval e X.env) = eval e X.env := by rfl) (hline : (apos.endLine == cpos.line) = true := by rfl) : PI X (.Tuple elts kk tpos) (.Call (.Attribute e "items" apos) [] [] cpos) (iWritten kvs d td) := by
  refine ⟨fun pins s σ H R0 I h => ?_⟩
  refine wpAny_Call_method (T := "dict") (id := "dict.items") hbase rfl hline F.plainAttrs_dict F.slot_dict_items F.type_dict_items (thn (he.run pins s σ H _ I h) fun u s1 ⟨x, H1, I1, rx, ex, q⟩ => ?_)
  subst ex
  obtain rfl : u = Value.ref d := rx
  have hraw : s1.heap.DictRaw d es ep := ⟨_, I1.kIn _ _ at_, ⟨rfl, rfl, rfl⟩, rfl⟩
  refine ⟨hraw.typeIs, ?_, ?_⟩
  · exact fun b q => by
      cases q
      exact ⟨_, I1.kIn _ _ at_, rfl⟩
  · have I2 : Inv X pins σ H1 { s1 with heap := s1.heap.push { cls := .type "dict_items", data := .fields #[.ref d] } } := I1.kept (t' := s1.toks) fun b ob q => Heap.get?_push_of_some _ q
    have fin : wpAny (model X.prog X.w) X.A (pyIter (.ref s1.heap.objs.size)) (PIE X pins σ (.Tuple elts kk tpos) R0) X.xe { s1 with heap := s1.heap.push { cls := .type "dict_items", data := .fields #[.ref d] } } :=
      wpAny_pyIter_items_raw (d := d) (es := es) (ep := ep) ⟨_, Heap.get?_push_size _ rfl, rfl, rfl⟩ (hraw.at fun o q => Heap.get?_push_of_some _ q) (pi_one (tk := s1.toks) I2 _ (turn_written _ at_ R) ⟨.none, .none, Heap.get?_push_size _ rfl⟩ q)
    show wpAny _ _ (callWith cpos (.builtin "dict.items") [.ref d] [] []) _ X.xe s1
    exact method_meetsIn F.slot_dict_items F.entry_dict_items rfl (PySem.evalArgs_none ⟨rfl, hraw.typeIs, F.args_dict_items_1 _, _, meets_dict_items_raw d hs, ⟨es, ep, hraw⟩, fin⟩)
theorem for_written {kvs : List (V × V)} {g : TG} {tb : TS} {D : Ends} {σ : L2.St} {H : Hp} (Pv : Nat → L2.St → Hp → Prop) (h0 : Pv 0 σ H)
    (hs : ∀ i k v σ H T H', kvs[i]? = some (k, v) → Pv i σ H → H T = none → Same H H' → H' T = some (.tup [k, v]) → g (.ref T) σ H' fun σ2 H2 => tb { D with nx := Pv (i + 1), ct := Pv (i + 1), bk := D.nx } σ2 H2) (hd : ∀ σ H, Pv kvs.length σ H → D.nx σ H) :
    ∃ W : Nat → Nat → L2.St → Hp → Prop, (∃ m, W 0 m σ H) ∧ ∀ i m σ H, W i m σ H →
      ((Itw kvs).stop i H ∧ D.nx σ H) ∨ ((Itw kvs).go i H ∧ ∃ N : L2.St → Hp → Prop, (∀ σ' H', N σ' H' → ∃ m', m' < m ∧ W (i + 1) m' σ' H') ∧ ∀ x H', (Itw kvs).yld i H x H' → g x σ H' fun σ2 H2 => tb { D with nx := N, ct := N, bk := D.nx } σ2 H2) := by
  refine ⟨fun i m σ H => m + i = kvs.length ∧ Pv i σ H, ⟨kvs.length, rfl, h0⟩, ?_⟩
  rintro i m σ H ⟨e, p⟩
  by_cases hlt : i < kvs.length
  · refine .inr ⟨hlt, Pv (i + 1), fun σ' H' p' => ⟨m - 1, by omega, by omega, p'⟩, fun x H' y => ?_⟩
    obtain ⟨T, k, v, hk, rfl, hn, rfl⟩ := y
    exact hs i k v σ H T _ hk p hn (same_upd hn) upd_same
  · obtain rfl : i = kvs.length := by omega
    exact .inl ⟨Nat.le_refl _, hd σ H p⟩
/-- the rows of a written dict, read off its entries -/
def rowsOk : List DictEntry → List (V × V) → Prop
  | [], [] => True
  | e :: es, p :: r => (RelV p.1 e.key ∧ RelV p.2 e.val) ∧ rowsOk es r
  | _, _ => False
theorem rowsOk_get : ∀ {es : List DictEntry} {r : List (V × V)}, rowsOk es r → es.length = r.length ∧ ∀ i (h : i < es.length) k v, r[i]? = some (k, v) → RelV k es[i].key ∧ RelV v es[i].val
  | [], [], _ => ⟨rfl, fun i h => absurd h (Nat.not_lt_zero _)⟩
  | e :: es, p :: r, ⟨h1, h2⟩ => ⟨congrArg (· + 1) (rowsOk_get h2).1, fun i h k v q => match i, h, q with
    | 0, _, q => by
      have z : p = (k, v) := Option.some.inj q
      subst z
      exact h1
    | i + 1, h, q => (rowsOk_get h2).2 i (Nat.lt_of_succ_lt_succ h) k v q⟩
theorem rowsE_of {es : Array DictEntry} {r : List (V × V)} (h : rowsOk es.toList r) : RowsE es r := by
  obtain ⟨l⟩ := es
  exact rowsOk_get (es := l) h

/-! ### divmod, append, by what the heap keeps -/
section
variable {X : Cx}
theorem call_divmodY : CallR X (.builtin "divmod") (fun xs H Q => ∃ i j, xs = [.int i, .int j] ∧ CDiv i j ∧ ∀ p H2, H p = none → Same H H2 → H2 p = some (.tup [.int (i / j), .int (i % j)]) → Q (.ref p) H2) :=
  fun pins s σ H xs us Q I r ⟨i, j, e, c, q⟩ => call_divmod pins s σ H xs us Q I r ⟨i, j, e, c, fun p hp => q p _ hp (same_upd hp) upd_same⟩
theorem mt_appendY : MtM X "list.append" (fun x vs H Q => ∃ l xs y, x = .ref l ∧ vs = [y] ∧ H l = some (.lst xs) ∧ xs.length < sizeLine ∧ ∀ H2, But l H H2 → H2 l = some (.lst (xs ++ [y])) → Q .non H2) :=
  fun pins s σ H x vs v us Q I rx rv ⟨l, xs, y, e1, e2, e3, e4, q⟩ => mt_append pins s σ H x vs v us Q I rx rv ⟨l, xs, y, e1, e2, e3, e4, q _ but_upd upd_same⟩
end
end Yarn

set_option Elab.async false
set_option linter.all false
set_option maxRecDepth 100000
set_option maxHeartbeats 4000000
namespace Yarn
open PySem PySem.Spec PyProof.Rows L2

/-! ### every second one of a list -/
def ev {α : Type} : List α → List α
  | [] => []
  | [a] => [a]
  | a :: _ :: r => a :: ev r
def od {α : Type} : List α → List α
  | [] => []
  | [_] => []
  | _ :: b :: r => b :: od r
theorem ev_range {α : Type} : ∀ xs : List α, (List.range ((xs.length + 1) / 2)).filterMap (fun k => xs[2 * k]?) = ev xs
  | [] => by simp [ev]
  | [a] => by simp [ev]
  | a :: b :: r => by
    have e : ((a :: b :: r).length + 1) / 2 = (r.length + 1) / 2 + 1 := by simp only [List.length_cons]; omega
    rw [e, List.range_succ_eq_map, List.filterMap_cons, List.filterMap_map]
    show a :: _ = a :: ev r
    rw [← ev_range r]
    congr 1
theorem od_range {α : Type} : ∀ xs : List α, (List.range (xs.length / 2)).filterMap (fun k => xs[1 + 2 * k]?) = od xs
  | [] => by simp [od]
  | [a] => by simp [od]
  | a :: b :: r => by
    have e : (a :: b :: r).length / 2 = r.length / 2 + 1 := by simp only [List.length_cons]; omega
    rw [e, List.range_succ_eq_map, List.filterMap_cons, List.filterMap_map]
    show b :: _ = b :: od r
    rw [← od_range r]
    congr 1
theorem range_by2 (st n : Nat) (h : st ≤ n) : sliceRange (st : Int) (n : Int) 2 = (List.range ((n - st + 1) / 2)).map fun k => st + 2 * k := by
  unfold sliceRange
  have c : (if (2 : Int) > 0 then (if (st : Int) < n then ((n : Int) - st + 2 - 1) / 2 else 0) else (if (st : Int) > n then ((st : Int) - n - 2 - 1) / (-2) else 0)).toNat = (n - st + 1) / 2 := by
    rw [if_pos (by decide)]
    by_cases hlt : (st : Int) < n
    · rw [if_pos hlt]; omega
    · rw [if_neg hlt]; omega
  dsimp only
  rw [c]
  refine List.map_congr_left fun k _ => ?_
  omega
theorem pick_ev (items : Array Value) : slicePick items none none (some 2) = (ev items.toList).toArray := by
  obtain ⟨l⟩ := items
  show ((sliceRange ((0 : Nat) : Int) (l.length : Int) 2).filterMap (fun k => l.toArray[k]?)).toArray = (ev l).toArray
  rw [range_by2 0 l.length (Nat.zero_le _), List.filterMap_map, ← ev_range l]
  have ef : (fun k => l.toArray[k]?) ∘ (fun k => 0 + 2 * k) = fun k => l[2 * k]? := funext fun k => by simp
  rw [ef, Nat.sub_zero]
theorem pick_od (items : Array Value) : slicePick items (some 1) none (some 2) = (od items.toList).toArray := by
  obtain ⟨l⟩ := items
  show ((sliceRange (max 0 (min 1 (l.length : Int))) (l.length : Int) 2).filterMap (fun k => l.toArray[k]?)).toArray = (od l).toArray
  cases l with
  | nil => rfl
  | cons a r =>
    have e : max 0 (min 1 ((a :: r).length : Int)) = ((1 : Nat) : Int) := by simp only [List.length_cons]; omega
    rw [e, range_by2 1 _ (by simp), List.filterMap_map, ← od_range (a :: r)]
    have ef : (fun k => (a :: r).toArray[k]?) ∘ (fun k => 1 + 2 * k) = fun k => (a :: r)[1 + 2 * k]? := funext fun k => by simp
    have e2 : ((a :: r).length - 1 + 1) / 2 = (a :: r).length / 2 := by simp
    rw [ef, e2]
theorem ev_vals : ∀ {xs : List V} {its : List Value}, Vals xs its → Vals (ev xs) (ev its)
  | _, _, .nil => .nil
  | _, _, .cons r .nil => .cons r .nil
  | _, _, .cons r (.cons _ t) => .cons r (ev_vals t)
theorem od_vals : ∀ {xs : List V} {its : List Value}, Vals xs its → Vals (od xs) (od its)
  | _, _, .nil => .nil
  | _, _, .cons _ .nil => .nil
  | _, _, .cons _ (.cons r t) => .cons r (od_vals t)
theorem ev_len {α : Type} : ∀ xs : List α, (ev xs).length ≤ xs.length
  | [] => Nat.le_refl _
  | [_] => Nat.le_refl _
  | _ :: _ :: r => by
    have := ev_len r
    simp only [ev, List.length_cons]
    omega
theorem od_len {α : Type} : ∀ xs : List α, (od xs).length ≤ xs.length
  | [] => Nat.le_refl _
  | [_] => Nat.zero_le _
  | _ :: _ :: r => by
    have := od_len r
    simp only [od, List.length_cons]
    omega
def tBy2 (K : PySem.W.Frag) (f : List V → List V) (te : TE) : TE := fun σ H Q => te σ H fun x H1 => ∃ a xs, x = .ref a ∧ SqL K H1 a xs ∧ ∀ p H2, H1 p = none → Same H1 H2 → H2 p = some (.lst (f xs)) → Q (.ref p) H2
section
variable {X : Cx} {e : Expr} {te : TE} {k k1 : Nat} {p1 p2 p3 pos : Pos}
theorem pe_ev (he : PE X e te) : PE X (.Subscript e (.Slice none none (some (.Constant (.int 2) k p1)) p3) pos) (tBy2 X.K ev te) := by
  refine ⟨fun pins s σ H Q I h => ?_⟩
  refine Subscript_ (thn (he.run pins s σ H _ I h) fun v s1 ⟨x, H1, I1, r1, a, xs, ex, hx, q⟩ => ?_)
  subst ex
  cases r1
  have hst : PO X (some (.Constant (.int 2) k p1)) _ := po_some pe_int
  refine wpAny_Slice (thn (po_none.run pins s1 σ H1 (fun o H2 => o = none ∧ H2 = H1) I1 ⟨rfl, rfl⟩) fun vl s2 ⟨l, H2, I2, pl, el, e2⟩ => ?_)
  subst el e2
  refine thn (po_none.run pins s2 σ H2 (fun o H3 => o = none ∧ H3 = H2) I2 ⟨rfl, rfl⟩) fun vu s3 ⟨u, H3, I3, pu, eu, e3⟩ => ?_
  subst eu e3
  refine thn (hst.run pins s3 σ H3 (fun o H4 => o = some 2 ∧ H4 = H3) I3 ⟨2, rfl, rfl, rfl⟩) fun vs s4 ⟨o, H4, I4, ps, eo, e4⟩ => ?_
  subst eo e4
  have I5 : Inv X pins σ H4 { s4 with heap := s4.heap.push { cls := .type "slice", data := .fields #[vl, vu, vs] } } := I4.kept (t' := s4.toks) fun b ob q => Heap.get?_push_of_some _ q
  obtain ⟨its, r, ht, hz⟩ := I5.list hx
  have hlen := r.length
  refine tail_any (ops := [.ref a, .ref s4.heap.objs.size]) ht.isList.typeIs (PySem.slot_list_getitem.lookup) ?_ (by with_unfolding_all rfl)
  refine wpAny_getItem_list_slice ht.isList (Heap.IsSliceOf.new _ vl vu vs) pl pu ps (by decide) ?_ (by rw [List.size_toArray]; omega)
  rw [pick_ev]
  have nn := I5.hok.fresh (Nat.le_refl _)
  refine ⟨.ref _, _, I5.laid (t' := s4.toks) (o := .lst (ev xs)) (fun b ob q => Heap.get?_push_of_some _ q) (Nat.le_refl _) ?_, rfl, q _ _ nn (same_upd nn) upd_same⟩
  exact ⟨Nat.le_trans (ev_len xs) hz, _, 0, ev_vals r, Heap.get?_push_size _ rfl⟩
theorem pe_od (he : PE X e te) : PE X (.Subscript e (.Slice (some (.Constant (.int 1) k1 p2)) none (some (.Constant (.int 2) k p1)) p3) pos) (tBy2 X.K od te) := by
  refine ⟨fun pins s σ H Q I h => ?_⟩
  refine Subscript_ (thn (he.run pins s σ H _ I h) fun v s1 ⟨x, H1, I1, r1, a, xs, ex, hx, q⟩ => ?_)
  subst ex
  cases r1
  have hst : PO X (some (.Constant (.int 2) k p1)) _ := po_some pe_int
  have hlo : PO X (some (.Constant (.int 1) k1 p2)) _ := po_some pe_int
  refine wpAny_Slice (thn (hlo.run pins s1 σ H1 (fun o H2 => o = some 1 ∧ H2 = H1) I1 ⟨1, rfl, rfl, rfl⟩) fun vl s2 ⟨l, H2, I2, pl, el, e2⟩ => ?_)
  subst el e2
  refine thn (po_none.run pins s2 σ H2 (fun o H3 => o = none ∧ H3 = H2) I2 ⟨rfl, rfl⟩) fun vu s3 ⟨u, H3, I3, pu, eu, e3⟩ => ?_
  subst eu e3
  refine thn (hst.run pins s3 σ H3 (fun o H4 => o = some 2 ∧ H4 = H3) I3 ⟨2, rfl, rfl, rfl⟩) fun vs s4 ⟨o, H4, I4, ps, eo, e4⟩ => ?_
  subst eo e4
  have I5 : Inv X pins σ H4 { s4 with heap := s4.heap.push { cls := .type "slice", data := .fields #[vl, vu, vs] } } := I4.kept (t' := s4.toks) fun b ob q => Heap.get?_push_of_some _ q
  obtain ⟨its, r, ht, hz⟩ := I5.list hx
  have hlen := r.length
  refine tail_any (ops := [.ref a, .ref s4.heap.objs.size]) ht.isList.typeIs (PySem.slot_list_getitem.lookup) ?_ (by with_unfolding_all rfl)
  refine wpAny_getItem_list_slice ht.isList (Heap.IsSliceOf.new _ vl vu vs) pl pu ps (by decide) ?_ (by rw [List.size_toArray]; omega)
  rw [pick_od]
  have nn := I5.hok.fresh (Nat.le_refl _)
  refine ⟨.ref _, _, I5.laid (t' := s4.toks) (o := .lst (od xs)) (fun b ob q => Heap.get?_push_of_some _ q) (Nat.le_refl _) ?_, rfl, q _ _ nn (same_upd nn) upd_same⟩
  exact ⟨Nat.le_trans (od_len xs) hz, _, 0, od_vals r, Heap.get?_push_size _ rfl⟩
end

/-! ### a written dict asked for any text -/
theorem ns_rows {K : PySem.W.Frag} {d : Addr} {es : Array DictEntry} {n : Nat} {z : Str} {r : List (Str × V)} (at_ : K.lookup d = some ⟨.type "dict", none, .dict es n, #[]⟩) (h : rowsOk es.toList (r.map fun p => (V.str p.1, p.2))) :
    (∃ v u, (z, v) ∈ r ∧ r.lookup z = some v ∧ PySem.W.nsIn K d z = some (some u) ∧ RelV v u) ∨ (r.lookup z = none ∧ PySem.W.nsIn K d z = some none) := by
  have key : ∀ (l : List DictEntry) (r : List (Str × V)), rowsOk l (r.map fun p => (V.str p.1, p.2)) →
      (∃ v e, (z, v) ∈ r ∧ r.lookup z = some v ∧ l.find? (·.key.isStr z) = some e ∧ RelV v e.val) ∨ (r.lookup z = none ∧ l.find? (·.key.isStr z) = none ∧ l.any (·.refKey) = false) := by
    intro l
    induction l with
    | nil =>
      intro r h
      cases r with
      | nil => exact .inr ⟨rfl, rfl, rfl⟩
      | cons p r => exact h.elim
    | cons e l ih =>
      intro r h
      cases r with
      | nil => exact h.elim
      | cons p r =>
        obtain ⟨⟨hk, hv⟩, ht⟩ := h
        obtain ⟨x, v⟩ := p
        obtain ⟨t, ek⟩ := (show ∃ t, e.key = Value.str x t from hk)
        by_cases hz : z = x
        · subst hz
          refine .inl ⟨v, e, List.mem_cons_self, by simp [List.lookup], ?_, hv⟩
          rw [List.find?_cons]
          have : e.key.isStr z = true := by rw [ek]; simp [Value.isStr]
          rw [this]
        · have hb : (z == x) = false := by simpa using hz
          have e1 : e.key.isStr z = false := by
            rw [ek]
            have : ¬ x = z := fun q => hz q.symm
            simp [Value.isStr, this]
          have e2 : ((x, v) :: r).lookup z = r.lookup z := by simp [List.lookup, hb]
          have e3 : e.refKey = false := by
            unfold DictEntry.refKey
            rw [ek]
          rw [e2, List.find?_cons, e1]
          rcases ih r ht with ⟨v', e', hm, hl, hf, hr⟩ | ⟨hl, hf, ha⟩
          · exact .inl ⟨v', e', List.mem_cons_of_mem _ hm, hl, hf, hr⟩
          · exact .inr ⟨hl, hf, by rw [List.any_cons, e3, ha]; rfl⟩
  unfold PySem.W.nsIn
  rw [at_]
  rcases key es.toList r h with ⟨v, e, hm, hl, hf, hr⟩ | ⟨hl, hf, ha⟩
  · refine .inl ⟨v, e.val, hm, hl, ?_, hr⟩
    simp only [hf]
  · refine .inr ⟨hl, ?_⟩
    simp only [hf, ha]
    rfl

/-! ### zip of two lists of any length -/
theorem for_zip2 {K : PySem.W.Frag} {a b : Addr} {xs ys : List V} {g : TG} {tb : TS} {D : Ends} {σ : L2.St} {H : Hp} (Pv : Nat → L2.St → Hp → Prop) (h0 : Pv 0 σ H) (hq : ∀ i σ H, Pv i σ H → SqL K H a xs ∧ SqL K H b ys)
    (hs : ∀ (i : Nat) (x y : V) (T : Addr) (σ : L2.St) (H H' : Hp), (xs.zip ys)[i]? = some (x, y) → Pv i σ H → H T = none → Same H H' → H' T = some (.tup [x, y]) → g (.ref T) σ H' fun σ2 H2 => tb { D with nx := Pv (i + 1), ct := Pv (i + 1), bk := D.nx } σ2 H2) (hd : ∀ σ H, Pv (xs.zip ys).length σ H → D.nx σ H) :
    ∃ W : Nat → Nat → L2.St → Hp → Prop, (∃ m, W 0 m σ H) ∧ ∀ i m σ H, W i m σ H →
      ((Itz K a b).stop i H ∧ D.nx σ H) ∨ ((Itz K a b).go i H ∧ ∃ N : L2.St → Hp → Prop, (∀ σ' H', N σ' H' → ∃ m', m' < m ∧ W (i + 1) m' σ' H') ∧ ∀ v H', (Itz K a b).yld i H v H' → g v σ H' fun σ2 H2 => tb { D with nx := N, ct := N, bk := D.nx } σ2 H2) := by
  have hz : (xs.zip ys).length = min xs.length ys.length := List.length_zip
  refine ⟨fun i m σ H => m + i = (xs.zip ys).length ∧ Pv i σ H, ⟨_, Nat.add_zero _, h0⟩, ?_⟩
  rintro i m σ H ⟨e, p⟩
  obtain ⟨qx, qy⟩ := hq i σ H p
  by_cases hlt : i < (xs.zip ys).length
  · have hx : i < xs.length := by omega
    have hy : i < ys.length := by omega
    refine .inr ⟨⟨xs, ys, xs[i], ys[i], qx, qy, List.getElem?_eq_getElem hx, List.getElem?_eq_getElem hy⟩, Pv (i + 1), fun σ' H' p' => ⟨m - 1, by omega, by omega, p'⟩, fun v H' y => ?_⟩
    obtain ⟨T, x, w, rfl, hn, rfl, e1, e2⟩ := y
    refine hs i x w T σ H _ ?_ p hn (same_upd hn) upd_same
    rw [List.getElem?_zip_eq_some]
    exact ⟨e1 xs qx, e2 ys qy⟩
  · obtain rfl : i = (xs.zip ys).length := by omega
    refine .inl ⟨⟨xs, ys, qx, qy, by omega⟩, hd σ H p⟩

/-! ### a def that may raise, called where it doesn't -/
theorem passF {X : Cx} : Passes (L2.CX X.prog X.w) X (fun _ _ _ => False) := fun _ _ _ _ _ _ _ c => by
  obtain ⟨_, _, _, _, _, _, _, _, _, _, _, _, z⟩ := c
  exact z.elim
theorem passT {X : Cx} {E : XK} (tk : Takes X (fun cls d _ H => E cls d H)) : Passes (L2.CX X.prog X.w) X E := fun p σ H s e s' I c => passes_call tk (fun _ _ _ _ h => h) p σ H s e s' I c
def rSplitY : V → List V → Hp → VK → Prop := fun x xs H Q => ∃ a b, x = .str a ∧ xs = [.str b] ∧ (b.length == 0) = false ∧ a.length + 2 ≤ sizeLine ∧ ∀ p H2, H p = none → Same H H2 → H2 p = some (.lst ((Txt.split a b).map V.str)) → Q (.ref p) H2
theorem mt_splitY {X : Cx} : MtR X "str.split" rSplitY :=
  fun pins s σ H x xs v us Q I rx rs ⟨a, b, e1, e2, e3, e4, q⟩ => mt_split pins s σ H x xs v us Q I rx rs ⟨a, b, e1, e2, e3, e4, fun p hp => q p _ hp (same_upd hp) upd_same⟩
theorem pe_splitY {X : Cx} {o e : Expr} {to te : TE} {apos pos : Pos} (ho : PE X o to) (he : PE X e te) (hs : starEach [e] X.env = [(false, eval e X.env)] := by rfl) (hbase : attributeBase o "split" X.env (eval o X.env) = eval o X.env := by rfl) (hline : (apos.endLine == pos.line) = true := by rfl) :
    PE X (.Call (.Attribute o "split" apos) [e] [] pos) (tM1 rSplitY to te) :=
  pe_m1 F.slot_str_split F.type_str_split mt_splitY ho he hs hbase hline
end Yarn

set_option Elab.async false
set_option linter.all false
set_option maxRecDepth 100000
set_option maxHeartbeats 4000000
namespace Yarn
open PySem PySem.Spec PyProof.Rows L2

/-! ### a number in units, as it is written -/
def num (k : Int) : Str := Str.ofString (toString k)
def units : List (Str × Int) := [("lb", 256), ("oz", 16), ("dr", 1)]
def go : List (Str × Int) → Int → List (Int × Str × Int)
  | [], _ => []
  | (u, c) :: r, l => if l / c > 0 then (l / c, u, c) :: go r (l % c) else go r (l % c)
def lef : List (Str × Int) → Int → Int
  | [], l => l
  | (_, c) :: r, l => lef r (l % c)
theorem go_snoc {u : Str} {c : Int} : ∀ (l : List (Str × Int)) (n : Int), go (l ++ [(u, c)]) n = go l n ++ (if lef l n / c > 0 then [(lef l n / c, u, c)] else [])
  | [], n => by
    show (if n / c > 0 then _ else _) = _
    unfold lef go
    split <;> rfl
  | (v, d) :: r, n => by
    show (if n / d > 0 then (n / d, v, d) :: go (r ++ [(u, c)]) (n % d) else go (r ++ [(u, c)]) (n % d)) = (if n / d > 0 then (n / d, v, d) :: go r (n % d) else go r (n % d)) ++ (if lef r (n % d) / c > 0 then [(lef r (n % d) / c, u, c)] else [])
    rw [go_snoc r]
    split <;> rfl
theorem lef_snoc {u : Str} {c : Int} : ∀ (l : List (Str × Int)) (n : Int), lef (l ++ [(u, c)]) n = lef l n % c
  | [], n => rfl
  | (v, d) :: r, n => lef_snoc r (n % d)
theorem lef_nn : ∀ (l : List (Str × Int)) (n : Int), (∀ p ∈ l, 0 < p.2) → 0 ≤ n → 0 ≤ lef l n
  | [], _, _, h => h
  | (v, d) :: r, n, hp, h => lef_nn r (n % d) (fun p hp' => hp p (List.mem_cons_of_mem _ hp')) (Int.emod_nonneg n (by have := hp (v, d) List.mem_cons_self; omega))
theorem lef_le : ∀ (l : List (Str × Int)) (n : Int), (∀ p ∈ l, 0 < p.2) → 0 ≤ n → lef l n ≤ n
  | [], _, _, h => Int.le_refl _
  | (v, d) :: r, n, hp, h => by
    have hd : 0 < d := hp (v, d) List.mem_cons_self
    have h1 := Int.emod_nonneg n (show d ≠ 0 by omega)
    have h2 : n % d ≤ n := by
      have h3 := Int.mul_ediv_add_emod n d
      have h4 : 0 ≤ d * (n / d) := Int.mul_nonneg (by omega) (Int.ediv_nonneg h (by omega))
      omega
    exact Int.le_trans (lef_le r (n % d) (fun p hp' => hp p (List.mem_cons_of_mem _ hp')) h1) h2
def tx (p : Int × Str × Int) : Str := num p.1 ++ " " ++ p.2.1
def orD : List (Int × Str × Int) → List (Int × Str × Int)
  | [] => [(0, "dr", 1)]
  | l => l
def cs (n : Int) : List (Int × Str × Int) := orD (go units n)
def writ (n : Int) : Str := Txt.join " " ((cs n).map tx)
theorem tx_zero : tx (0, "dr", 1) = "0 dr" := by decide +kernel
def one (k : Int) (u : Str) (c : Int) : List (Int × Str × Int) := if k > 0 then [(k, u, c)] else []
theorem go_form (n : Int) : go units n = one (n / 256) "lb" 256 ++ (one (n % 256 / 16) "oz" 16 ++ one (n % 256 % 16 / 1) "dr" 1) := by
  unfold units one
  simp only [go]
  split <;> split <;> split <;> rfl
def sumC (l : List (Int × Str × Int)) : Int := (l.map fun p => p.1 * p.2.2).sum
theorem sumC_nil : sumC [] = 0 := rfl
theorem sumC_cons {p : Int × Str × Int} {l : List (Int × Str × Int)} : sumC (p :: l) = p.1 * p.2.2 + sumC l := List.sum_cons
theorem sumC_app {a b : List (Int × Str × Int)} : sumC (a ++ b) = sumC a + sumC b := by
  induction a with
  | nil => rw [List.nil_append, sumC_nil, Int.zero_add]
  | cons p a ih => rw [List.cons_append, sumC_cons, sumC_cons, ih, Int.add_assoc]
theorem one_sum {k c : Int} {u : Str} (hk : 0 ≤ k) : sumC (one k u c) = k * c := by
  unfold one
  split
  · rw [sumC_cons, sumC_nil, Int.add_zero]
  · have : k = 0 := by omega
    rw [this, Int.zero_mul]
    rfl
theorem go_sum {n : Int} (h : 0 ≤ n) : sumC (go units n) = n := by
  rw [go_form, sumC_app, sumC_app, one_sum (by omega), one_sum (by omega), one_sum (by omega)]
  omega
theorem orD_sum (l : List (Int × Str × Int)) : sumC (orD l) = sumC l := by
  cases l with
  | nil => rfl
  | cons p l => rfl
theorem cs_sum {n : Int} (h : 0 ≤ n) : sumC (cs n) = n := (orD_sum _).trans (go_sum h)
def Good (p : Int × Str × Int) : Prop := 0 ≤ p.1 ∧ (p.2.1, p.2.2) ∈ units
theorem one_mem {k c : Int} {u : Str} {p : Int × Str × Int} (h : p ∈ one k u c) : p = (k, u, c) := by
  unfold one at h
  split at h
  · exact List.mem_singleton.mp h
  · cases h
theorem go_good {n : Int} (h : 0 ≤ n) : ∀ p ∈ go units n, Good p := by
  rw [go_form]
  intro p hp
  rcases List.mem_append.mp hp with z | z
  · rw [one_mem z]; exact ⟨by show 0 ≤ n / 256; omega, by show (("lb" : Str), (256 : Int)) ∈ units; decide +kernel⟩
  · rcases List.mem_append.mp z with z | z
    · rw [one_mem z]; exact ⟨by show 0 ≤ n % 256 / 16; omega, by show (("oz" : Str), (16 : Int)) ∈ units; decide +kernel⟩
    · rw [one_mem z]; exact ⟨by show 0 ≤ n % 256 % 16 / 1; omega, by show (("dr" : Str), (1 : Int)) ∈ units; decide +kernel⟩
theorem cs_good {n : Int} (h : 0 ≤ n) : ∀ p ∈ cs n, Good p := by
  have g := go_good h
  unfold cs
  cases e : go units n with
  | nil =>
    intro p hp
    rw [List.mem_singleton.mp hp]
    exact ⟨by show (0 : Int) ≤ 0; omega, by show (("dr" : Str), (1 : Int)) ∈ units; decide +kernel⟩
  | cons q l =>
    rw [e] at g
    exact g
theorem cs_ne (n : Int) : cs n ≠ [] := by
  unfold cs
  cases go units n with
  | nil => intro z; cases z
  | cons q l => intro z; cases z
/-- all but the first are small -/
theorem cs_tail {n : Int} {p : Int × Str × Int} {l : List (Int × Str × Int)} (h : 0 ≤ n) (e : cs n = p :: l) : ∀ q ∈ l, q.1 < 16 := by
  have low : ∀ q ∈ one (n % 256 / 16) "oz" 16 ++ one (n % 256 % 16 / 1) "dr" 1, q.1 < 16 := by
    intro q hq
    rcases List.mem_append.mp hq with z | z
    · rw [one_mem z]; show n % 256 / 16 < 16; omega
    · rw [one_mem z]; show n % 256 % 16 / 1 < 16; omega
  intro q hq
  unfold cs at e
  rw [go_form] at e
  generalize one (n % 256 / 16) "oz" 16 ++ one (n % 256 % 16 / 1) "dr" 1 = r at e low
  unfold one at e
  by_cases hb : n / 256 > 0
  · rw [if_pos hb] at e
    have e' : r = l := (List.cons.inj (show _ :: r = p :: l from e)).2
    rw [← e'] at hq
    exact low q hq
  · rw [if_neg hb, List.nil_append] at e
    cases r with
    | nil =>
      have e' : [] = l := (List.cons.inj (show _ :: [] = p :: l from e)).2
      rw [← e'] at hq
      cases hq
    | cons a r =>
      have e' : r = l := (List.cons.inj (show a :: r = p :: l from e)).2
      rw [← e'] at hq
      exact low q (List.mem_cons_of_mem _ hq)

/-! ### its words -/
def wds (l : List (Int × Str × Int)) : List Str := l.flatMap fun p => [num p.1, p.2.1]
theorem jcons (y a b : Str) (r : List Str) : Str.join y (a :: b :: r) = a ++ y ++ Str.join y (b :: r) := rfl
theorem join_pairs : ∀ l : List (Int × Str × Int), Str.join " " (l.map tx) = Str.join " " (wds l)
  | [] => rfl
  | [p] => rfl
  | p :: q :: r => by
    have ih := join_pairs (q :: r)
    show Str.join " " (tx p :: tx q :: r.map tx) = Str.join " " (num p.1 :: p.2.1 :: num q.1 :: q.2.1 :: wds r)
    rw [jcons, jcons, jcons]
    have ih' : Str.join " " (tx q :: r.map tx) = Str.join " " (num q.1 :: q.2.1 :: wds r) := ih
    rw [ih']
    unfold tx
    simp only [Str.append_assoc]
theorem num_tl {k : Int} (h : 0 ≤ k) : TL.tl (num k) = TL.numL k.toNat := by
  obtain ⟨m, rfl⟩ := Int.eq_ofNat_of_zero_le h
  exact TL.tl_num m
theorem unit_free : ∀ p ∈ units, (32 : Nat) ∉ TL.tl p.1 := by decide +kernel
theorem split_writ {n : Int} (h : 0 ≤ n) : Txt.split (writ n) " " = wds (cs n) := by
  have g := cs_good h
  unfold writ
  rw [TL.join_eq, join_pairs, ← TL.join_eq]
  refine TL.split_join (s := 32) (S := []) (by decide +kernel) (by decide +kernel) (fun z => ?_) fun w hw => ?_
  · cases e : cs n with
    | nil => exact cs_ne n e
    | cons p l =>
      rw [e] at z
      cases z
  · obtain ⟨p, hp, hw⟩ := List.mem_flatMap.mp hw
    obtain ⟨g1, g2⟩ := g p hp
    rcases List.mem_cons.mp hw with z | z
    · rw [z, num_tl g1]
      exact TL.numL_free (by omega)
    · rw [List.mem_singleton.mp z]
      exact unit_free _ g2
theorem ev_wds : ∀ l : List (Int × Str × Int), ev (wds l) = l.map fun p => num p.1
  | [] => rfl
  | p :: l => congrArg (num p.1 :: ·) (ev_wds l)
theorem od_wds : ∀ l : List (Int × Str × Int), od (wds l) = l.map fun p => p.2.1
  | [] => rfl
  | p :: l => congrArg (p.2.1 :: ·) (od_wds l)
theorem map_ev {α β : Type} (f : α → β) : ∀ l : List α, ev (l.map f) = (ev l).map f
  | [] => rfl
  | [_] => rfl
  | _ :: _ :: r => congrArg (f _ :: ·) (map_ev f r)
theorem map_od {α β : Type} (f : α → β) : ∀ l : List α, od (l.map f) = (od l).map f
  | [] => rfl
  | [_] => rfl
  | _ :: _ :: r => congrArg (f _ :: ·) (map_od f r)

/-! ### what is read of words -/
def fig (m : Str) : Bool := decide (m.length ≤ 12) && (Txt.isascii m && Txt.isdigit m)
def told : Int → List (Str × Str) → Option Int
  | a, [] => some a
  | a, (m, u) :: r => match units.lookup u with
    | none => none
    | some c => if fig m = true then told (a + (intText? m).getD 0 * c) r else none
theorem dig128 : ∀ c, c < 128 → Unicode.isDigit c = (decide (48 ≤ c) && decide (c ≤ 57)) := by decide +kernel
theorem fig_int {m : Str} (h : fig m = true) : ∃ v, intText? m = some v := by
  obtain ⟨h1, h2⟩ := Bool.and_eq_true_iff.mp h
  obtain ⟨h3, h4⟩ := Bool.and_eq_true_iff.mp h2
  have h1' : m.length ≤ 12 := of_decide_eq_true h1
  unfold Txt.isascii at h3
  unfold Txt.isdigit at h4
  obtain ⟨h5, h6⟩ := Bool.and_eq_true_iff.mp h4
  rw [← Array.all_toList, List.all_eq_true] at h3 h6
  have ha : NumText.AllDigits m.cps.toList := fun c hc => by
    have z := dig128 c (of_decide_eq_true (h3 c hc))
    rw [h6 c hc] at z
    obtain ⟨z1, z2⟩ := Bool.and_eq_true_iff.mp z.symm
    exact ⟨of_decide_eq_true z1, of_decide_eq_true z2⟩
  have hn : m.cps.toList ≠ [] := fun z => by
    have hl : 0 < m.length := of_decide_eq_true h5
    have : m.length = m.cps.toList.length := TL.len_tl m
    rw [z] at this
    simp at this
    omega
  exact ⟨_, PySem.intText_digits ha hn (by omega)⟩
theorem fig_num {k : Int} (h : 0 ≤ k) (hl : (num k).length ≤ 12) : fig (num k) = true ∧ intText? (num k) = some k := by
  obtain ⟨m, rfl⟩ := Int.eq_ofNat_of_zero_le h
  have et : (num (m : Int)).cps.toList = TL.numL m := TL.tl_num m
  have hd := TL.numL_digits m
  have hn := TL.numL_ne m
  have hlen : (num (m : Int)).length = (TL.numL m).length := by rw [TL.len_tl]; exact congrArg List.length et
  refine ⟨?_, TL.int_num (by omega)⟩
  unfold fig
  have a1 : Txt.isascii (num (m : Int)) = true := by
    unfold Txt.isascii
    rw [← Array.all_toList, et, List.all_eq_true]
    intro c hc
    have := hd c hc
    exact decide_eq_true (by omega)
  have a2 : Txt.isdigit (num (m : Int)) = true := by
    unfold Txt.isdigit
    rw [← Array.all_toList, et]
    have h0 : (num (m : Int)).length > 0 := by
      rw [hlen]
      exact List.length_pos_iff.mpr hn
    rw [decide_eq_true h0, Bool.true_and, List.all_eq_true]
    intro c hc
    have := hd c hc
    rw [dig128 c (by omega), decide_eq_true this.1, decide_eq_true this.2]
    rfl
  rw [decide_eq_true hl, a1, a2]
  rfl
theorem units_look : ∀ p ∈ units, units.lookup p.1 = some p.2 := by decide +kernel
theorem told_back : ∀ (l : List (Int × Str × Int)) (a : Int), (∀ p ∈ l, Good p ∧ (num p.1).length ≤ 12) → told a (l.map fun p => (num p.1, p.2.1)) = some (a + sumC l)
  | [], a, _ => by rw [sumC_nil, Int.add_zero]; rfl
  | p :: l, a, h => by
    obtain ⟨⟨g1, g2⟩, hl⟩ := h p List.mem_cons_self
    obtain ⟨f1, f2⟩ := fig_num g1 hl
    have lk : units.lookup p.2.1 = some p.2.2 := units_look _ g2
    show (match units.lookup p.2.1 with | none => none | some c => if fig (num p.1) = true then told (a + (intText? (num p.1)).getD 0 * c) (l.map fun (p : Int × Str × Int) => (num p.1, p.2.1)) else none) = _
    rw [lk]
    show (if fig (num p.1) = true then told (a + (intText? (num p.1)).getD 0 * p.2.2) (l.map fun (p : Int × Str × Int) => (num p.1, p.2.1)) else none) = _
    rw [f1, if_pos rfl, f2, told_back l _ fun q hq => h q (List.mem_cons_of_mem _ hq), sumC_cons]
    show some (a + p.1 * p.2.2 + sumC l) = some (a + (p.1 * p.2.2 + sumC l))
    rw [Int.add_assoc]
/-- what was written is read back, where the first number has no more than twelve figures -/
theorem told_writ {n : Int} {p : Int × Str × Int} {l : List (Int × Str × Int)} (h : 0 ≤ n) (e : cs n = p :: l) (hp : (num p.1).length ≤ 12) :
    told 0 ((ev (Txt.split (writ n) " ")).zip (od (Txt.split (writ n) " "))) = some n := by
  have g := cs_good h
  have t := cs_tail h e
  have z0 : ((cs n).map fun (p : Int × Str × Int) => num p.1).zip ((cs n).map fun (p : Int × Str × Int) => p.2.1) = ((cs n).map fun (p : Int × Str × Int) => (num p.1, p.2.1) : List (Str × Str)) := List.zip_map' ..
  rw [split_writ h, ev_wds, od_wds, z0]
  rw [told_back (cs n) 0 fun q hq => ⟨g q hq, ?_⟩, cs_sum h, Int.zero_add]
  rw [e] at hq
  rcases List.mem_cons.mp hq with z | z
  · rw [z]; exact hp
  · have h1 := t q z
    have h2 := (g q (by rw [e]; exact List.mem_cons_of_mem _ z)).1
    rw [TL.len_tl, num_tl h2]
    exact Nat.le_trans (TL.numL_len (k := 2) (by decide) (by show _ < 100; omega)) (by decide)
end Yarn
namespace Yarn
open PySem PySem.Spec PyProof.Rows L2
theorem go_len : ∀ (l : List (Str × Int)) (n : Int) {k : Nat}, l.length ≤ k → (go l n).length ≤ k
  | [], _, _, _ => Nat.zero_le _
  | (u, c) :: r, n, k, h => by
    show (if n / c > 0 then (n / c, u, c) :: go r (n % c) else go r (n % c)).length ≤ k
    have h' : r.length + 1 ≤ k := h
    have ih := go_len r (n % c) (k := k - 1) (by omega)
    split
    · rw [List.length_cons]; omega
    · omega
theorem cs_len (n : Int) : (cs n).length ≤ 3 := by
  have h := go_len units n (k := 3) (by decide)
  unfold cs
  cases e : go units n with
  | nil => decide
  | cons p l => rw [e] at h; exact h
theorem go_le {n : Int} (h : 0 ≤ n) : ∀ p ∈ cs n, p.1 ≤ n := by
  have hg : ∀ p ∈ go units n, p.1 ≤ n := by
    rw [go_form]
    intro p hp
    rcases List.mem_append.mp hp with z | z
    · rw [one_mem z]; show n / 256 ≤ n; omega
    · rcases List.mem_append.mp z with z | z
      · rw [one_mem z]; show n % 256 / 16 ≤ n; omega
      · rw [one_mem z]; show n % 256 % 16 / 1 ≤ n; omega
  unfold cs
  cases e : go units n with
  | nil =>
    intro p hp
    rw [List.mem_singleton.mp hp]
    exact h
  | cons q l =>
    rw [e] at hg
    exact hg
end Yarn
namespace Yarn
open PySem PySem.Spec PyProof.Rows L2
def prs (z : Str) : List (Str × Str) := (ev (Txt.split z " ")).zip (od (Txt.split z " "))
theorem mem_sum {l : List Str} {y : Str} (h : y ∈ l) : y.length ≤ (l.map (·.length)).sum := by
  induction l with
  | nil => cases h
  | cons a r ih =>
    rw [List.map_cons, List.sum_cons]
    rcases List.mem_cons.mp h with z | z
    · rw [z]; omega
    · have := ih z; omega
theorem ev_mem {α : Type} : ∀ {l : List α} {y : α}, y ∈ ev l → y ∈ l
  | [_], _, h => h
  | a :: b :: r, y, h => by
    rcases List.mem_cons.mp (show y ∈ a :: ev r from h) with z | z
    · rw [z]; exact List.mem_cons_self
    · exact List.mem_cons_of_mem _ (List.mem_cons_of_mem _ (ev_mem z))
theorem prs_len {z : Str} {i : Nat} {m u : Str} (h : (prs z)[i]? = some (m, u)) : m.length ≤ z.length + 1 := by
  have h1 := List.mem_of_getElem? h
  have h2 : m ∈ ev (Txt.split z " ") := (List.of_mem_zip h1).1
  have h3 := mem_sum (ev_mem h2)
  have h4 := PyProof.Rows.split_weight z " " (by decide +kernel)
  omega
theorem zip_prs (z : Str) : (ev ((Txt.split z " ").map V.str)).zip (od ((Txt.split z " ").map V.str)) = (prs z).map fun p => (V.str p.1, V.str p.2) := by
  rw [map_ev, map_od, List.zip_map]
  rfl
theorem told_drop {a : Int} {ps : List (Str × Str)} {i : Nat} {m u : Str} (h : ps[i]? = some (m, u)) : ps.drop i = (m, u) :: ps.drop (i + 1) := by
  obtain ⟨hi, e⟩ := List.getElem?_eq_some_iff.mp h
  rw [List.drop_eq_getElem_cons hi, e]
theorem told_no {a : Int} {m u : Str} {r : List (Str × Str)} (h : units.lookup u = none) : told a ((m, u) :: r) = none := by
  show (match units.lookup u with | none => none | some c => _) = _
  rw [h]
theorem told_bad {a c : Int} {m u : Str} {r : List (Str × Str)} (h : units.lookup u = some c) (hf : fig m = false) : told a ((m, u) :: r) = none := by
  show (match units.lookup u with | none => none | some c => if fig m = true then told (a + (intText? m).getD 0 * c) r else none) = _
  rw [h]
  show (if fig m = true then _ else none) = _
  rw [hf, if_neg Bool.false_ne_true]
theorem told_on {a c v : Int} {m u : Str} {r : List (Str × Str)} (h : units.lookup u = some c) (hf : fig m = true) (hv : intText? m = some v) : told a ((m, u) :: r) = told (a + v * c) r := by
  show (match units.lookup u with | none => none | some c => if fig m = true then told (a + (intText? m).getD 0 * c) r else none) = _
  rw [h]
  show (if fig m = true then told (a + (intText? m).getD 0 * c) r else none) = _
  rw [hf, if_pos rfl, hv]
  rfl
def unitV : List (Str × V) := [("lb", .int 256), ("oz", .int 16), ("dr", .int 1)]
theorem look_map {u : Str} : ∀ l : List (Str × Int), (l.map fun p => (p.1, V.int p.2)).lookup u = (l.lookup u).map V.int
  | [] => rfl
  | (x, c) :: r => by
    rw [List.map_cons]
    show (match u == x with | true => some (V.int c) | false => (r.map fun p => (p.1, V.int p.2)).lookup u) = (match u == x with | true => some c | false => r.lookup u).map V.int
    cases u == x with
    | true => rfl
    | false => exact look_map r
theorem unitV_look {u : Str} : unitV.lookup u = (units.lookup u).map V.int := look_map units
theorem units_small {u : Str} {c : Int} (h : units.lookup u = some c) : 0 < c ∧ c < 1000 := by
  have key : ∀ l : List (Str × Int), (∀ p ∈ l, 0 < p.2 ∧ p.2 < 1000) → l.lookup u = some c → 0 < c ∧ c < 1000 := by
    intro l
    induction l with
    | nil => intro _ z; cases z
    | cons p r ih =>
      intro hp z
      obtain ⟨x, d⟩ := p
      have z' : (match u == x with | true => some d | false => r.lookup u) = some c := z
      cases hx : u == x with
      | true =>
        rw [hx] at z'
        cases z'
        exact hp (x, c) List.mem_cons_self
      | false =>
        rw [hx] at z'
        exact ih (fun q hq => hp q (List.mem_cons_of_mem _ hq)) z'
  exact key units (by decide +kernel) h
end Yarn
namespace Yarn
open PySem PySem.Spec PyProof.Rows L2
theorem iteNS {a b : Str} {A B : Prop} (h1 : ¬ a = b → A) (h2 : a = b → B) : if (!decide (V.str a = V.str b)) = true then A else B :=
  iteND (fun h => h1 fun e => h (congrArg V.str e)) fun h => h2 (V.str.inj h)
theorem fig_len {m : Str} (h : fig m = true) : m.length ≤ 12 := of_decide_eq_true (Bool.and_eq_true_iff.mp h).1
end Yarn
namespace Yarn
open PySem PySem.Spec PyProof.Rows L2
theorem strs_can : ∀ ns : List Str, (∀ x ∈ ns, PyData.strOk x = true) → PyData.canLayAll0 (ns.map PyData.str) = true
  | [], _ => by simp [PyData.canLayAll0]
  | n :: ns, h => by simp [PyData.canLayAll0, PyData.canLay0, strs_can ns fun x hx => h x (List.mem_cons_of_mem _ hx), h n List.mem_cons_self]
theorem strs_depth : ∀ ns : List Str, PyData.depthAll (ns.map PyData.str) = 0
  | [] => by simp [PyData.depthAll]
  | n :: ns => by simp [PyData.depthAll, PyData.depth, strs_depth ns]
theorem shaped_strs {ns : List Str} (h : ∀ x ∈ ns, PyData.strOk x = true) : SeqAt.shaped (.list (ns.map PyData.str)) = true := by
  simp [SeqAt.shaped, PyData.canLay0, strs_can ns h, PyData.depth, strs_depth]
theorem dp_strs {K : PySem.W.Frag} {H : Hp} : ∀ ns : List Str, DpAll K H (ns.map V.str) (ns.map PyData.str)
  | [] => .nil
  | n :: ns => .cons (.str n) (dp_strs ns)
theorem iteNeS {ns : List Str} {A B : Prop} (h1 : ns ≠ [] → A) (h2 : ns = [] → B) : if (!PyData.eqv (.list (ns.map PyData.str)) (.list [])) = true then A else B := by
  cases ns with
  | nil => exact iteF (h2 rfl)
  | cons a r => exact iteT (h1 (by simp))
theorem emod_sub (l c : Int) : l - l / c * c = l % c := by rw [Int.emod_def, Int.mul_comm]
theorem strOk_of {x : Str} (h : ∀ c ∈ TL.tl x, c < 0x110000) : PyData.strOk x = true := by
  unfold PyData.strOk
  rw [← Array.all_toList, List.all_eq_true]
  intro c hc
  exact decide_eq_true (h c hc)
theorem units_low : ∀ p ∈ units, ∀ c ∈ TL.tl p.1, c < 0x110000 := by decide +kernel
theorem tx_ok {p : Int × Str × Int} (h : Good p) : PyData.strOk (tx p) = true := by
  refine strOk_of fun c hc => ?_
  unfold tx at hc
  rw [TL.tl_append, TL.tl_append, num_tl h.1] at hc
  rcases List.mem_append.mp hc with z | z
  · rcases List.mem_append.mp z with z | z
    · have := TL.numL_digits _ c z
      omega
    · have : c ∈ [32] := z
      rw [List.mem_singleton.mp this]
      decide
  · exact units_low _ h.2 c z
end Yarn
namespace Yarn
open PySem PySem.Spec PyProof.Rows L2
/-! ### which list the pen reads -/
def cellO : Option HO → Option V
  | some (.dK ((_, v) :: _)) => some v
  | _ => none
def penCell (H : Hp) (p : Addr) : Option V := cellO (H p)
theorem cell_same {H H' : Hp} {p : Addr} {n : Int} (s : Same H H') (P : Pen H p n) : penCell H' p = penCell H p := by
  obtain ⟨c, ns, a, l, h1, r⟩ := P.ex
  unfold penCell
  rw [s _ _ h1, h1]
theorem cell_upd {H : Hp} {p D : Addr} {o : HO} {xs : List V} {n : Int} (P : Pen H p n) (hD : H D = some (.lst xs)) : penCell (upd H D o) p = penCell H p := by
  obtain ⟨c, ns, a, l, h1, r⟩ := P.ex
  unfold penCell
  rw [upd_ne fun e => by rw [e, hD] at h1; cases h1]
theorem cell_old {H H' : Hp} {p mm : Addr} {n : Int} (P : Pen H p n) (nm : H mm = none) (e : penCell H' p = penCell H p) : penCell H' p ≠ some (.ref mm) := by
  obtain ⟨c, ns, a, l, h1, h2, r⟩ := P.ex
  rw [e]
  unfold penCell
  rw [h1]
  intro z
  have z' : some (V.ref c) = some (V.ref mm) := z
  cases z'
  rw [nm] at h2
  cases h2
theorem Pen.app {H H' : Hp} {p mm : Addr} {n : Int} {xs : List V} (P : Pen H p n) (hc : penCell H p ≠ some (.ref mm)) (hm : H mm = some (.lst xs)) (b : But mm H H') : Pen H' p n ∧ penCell H' p = penCell H p := by
  obtain ⟨c, ns, a, l, h1, h2, h3, h4, h5, h6⟩ := P.ex
  have hp : p ≠ mm := fun e => by rw [e, hm] at h1; cases h1
  have hcm : c ≠ mm := fun e => by
    apply hc
    unfold penCell
    rw [h1, e]
    rfl
  refine ⟨⟨c, ns, a, l, b _ _ hp h1, b _ _ hcm h2, h3, h4, h5, h6⟩, ?_⟩
  unfold penCell
  rw [b _ _ hp h1, h1]
def spDrawC : Sp := fun vs H Q _ => ∃ (p : Addr) (m n : Int), vs = [.ref p, .int m] ∧ Pen H p n ∧ n ≤ 2 ^ 60 ∧ 0 < m ∧ m ≤ 2 ^ 60 ∧
  ∀ (d : Int) (H' : Hp), 0 ≤ d → d < m → Pen H' p (n + 1) → But p H H' → Kp H H' → penCell H' p = penCell H p → Q (.int d) H'
def spNumberC : Sp := fun vs H Q _ => ∃ (p : Addr) (n : Int), vs = [.ref p] ∧ Pen H p n ∧ n ≤ 2 ^ 59 ∧
  ∀ (d : Int) (H' : Hp), 0 ≤ d → d < 10 ^ 15 → Pen H' p (n + 4) → But p H H' → Kp H H' → penCell H' p = penCell H p → Q (.int d) H'
end Yarn
namespace Yarn
open PySem PySem.Spec PyProof.Rows L2
def hits (l : List Int) (n : Int) (m : Nat) : Bool := decide (l[m]? = some n)
theorem cnt_shift {e : Nat → Bool} : ∀ (k i : Nat), cnt e (i + 1) k = cnt (fun m => e (m + 1)) i k
  | 0, _ => rfl
  | k + 1, i => by
    show (if e (i + 1) then 1 else 0) + cnt e (i + 1 + 1) k = (if e (i + 1) then 1 else 0) + cnt (fun m => e (m + 1)) (i + 1) k
    rw [cnt_shift k (i + 1)]
theorem cnt_hits (n : Int) : ∀ l : List Int, cnt (hits l n) 0 l.length = l.count n
  | [] => rfl
  | x :: l => by
    show (if hits (x :: l) n 0 then 1 else 0) + cnt (hits (x :: l) n) (0 + 1) l.length = _
    rw [cnt_shift]
    have e1 : (fun m => hits (x :: l) n (m + 1)) = hits l n := funext fun m => rfl
    rw [e1, cnt_hits n l, List.count_cons]
    unfold hits
    by_cases h : x = n
    · subst h; simp [Nat.add_comm]
    · simp [h]
theorem any_shift {e : Nat → Bool} : ∀ (k i : Nat), anyB e (i + 1) k = anyB (fun m => e (m + 1)) i k
  | 0, _ => rfl
  | k + 1, i => by
    show (e (i + 1) || anyB e (i + 1 + 1) k) = (e (i + 1) || anyB (fun m => e (m + 1)) (i + 1) k)
    rw [any_shift k (i + 1)]
theorem any_hits (n : Int) : ∀ l : List Int, anyB (hits l n) 0 l.length = decide (n ∈ l)
  | [] => by simp [anyB]
  | x :: l => by
    show (hits (x :: l) n 0 || anyB (hits (x :: l) n) (0 + 1) l.length) = _
    rw [any_shift]
    have e1 : (fun m => hits (x :: l) n (m + 1)) = hits l n := funext fun m => rfl
    rw [e1, any_hits n l]
    unfold hits
    by_cases h : x = n
    · subst h; simp
    · have h' : ¬ n = x := fun z => h z.symm
      simp [h, h']
theorem writ_zero : writ 0 = "0 dr" := by decide +kernel
end Yarn
namespace Yarn
open PySem PySem.Spec PyProof.Rows L2
theorem in_ints (n : Int) : ∀ l : List Int, inV (.int n) (l.map V.int) = decide (n ∈ l)
  | [] => by simp [inV]
  | x :: l => by
    have ih := in_ints n l
    unfold inV at ih ⊢
    rw [List.map_cons, List.any_cons, ih]
    by_cases h : n = x
    · subst h; simp [eqV]
    · have h' : ¬ x = n := fun z => h z.symm
      simp [eqV, h, h']
theorem flat_ints (l : List Int) : (l.map V.int).all flatV = true := by simp [flatV]
end Yarn

set_option Elab.async false
set_option linter.all false
set_option maxRecDepth 100000
set_option maxHeartbeats 4000000
namespace Yarn
open PySem PySem.Spec PyProof.Rows L2

/-! ### bounds of what is read -/
theorem digits_lt : ∀ (l : List Nat) (a : Nat), NumText.AllDigits l → l.foldl (fun acc c => acc * 10 + (c - 48)) a < (a + 1) * 10 ^ l.length
  | [], a, _ => by
    show a < (a + 1) * 10 ^ 0
    omega
  | c :: r, a, h => by
    have hc := h.head
    have ih := digits_lt r (a * 10 + (c - 48)) h.tail
    rw [List.foldl_cons]
    refine Nat.lt_of_lt_of_le ih ?_
    rw [List.length_cons, Nat.pow_succ, Nat.mul_comm (10 ^ r.length) 10, ← Nat.mul_assoc]
    exact Nat.mul_le_mul_right _ (by omega)
theorem fig_val {m : Str} (h : fig m = true) : ∃ v : Int, intText? m = some v ∧ 0 ≤ v ∧ v < 10 ^ 12 := by
  obtain ⟨h1, h2⟩ := Bool.and_eq_true_iff.mp h
  obtain ⟨h3, h4⟩ := Bool.and_eq_true_iff.mp h2
  have h1' : m.length ≤ 12 := of_decide_eq_true h1
  unfold Txt.isascii at h3
  unfold Txt.isdigit at h4
  obtain ⟨h5, h6⟩ := Bool.and_eq_true_iff.mp h4
  rw [← Array.all_toList, List.all_eq_true] at h3 h6
  have ha : NumText.AllDigits m.cps.toList := fun c hc => by
    have z := dig128 c (of_decide_eq_true (h3 c hc))
    rw [h6 c hc] at z
    obtain ⟨z1, z2⟩ := Bool.and_eq_true_iff.mp z.symm
    exact ⟨of_decide_eq_true z1, of_decide_eq_true z2⟩
  have el : m.length = m.cps.toList.length := TL.len_tl m
  have hn : m.cps.toList ≠ [] := fun z => by
    have hl : 0 < m.length := of_decide_eq_true h5
    rw [z] at el
    simp at el
    omega
  refine ⟨_, PySem.intText_digits ha hn (by omega), by omega, ?_⟩
  have hb := digits_lt m.cps.toList 0 ha
  have hp : (10 : Nat) ^ m.cps.toList.length ≤ 10 ^ 12 := Nat.pow_le_pow_right (by decide) (by omega)
  have hv : NumText.digitsVal m.cps.toList < 10 ^ 12 := by
    unfold NumText.digitsVal
    omega
  have e12 : ((10 ^ 12 : Nat) : Int) = (10 : Int) ^ 12 := by decide
  omega
theorem told_lt : ∀ (ps : List (Str × Str)) (a v : Int), told a ps = some v → 0 ≤ a → 0 ≤ v ∧ v ≤ a + ps.length * 10 ^ 15
  | [], a, v, h, h0 => by
    have e : a = v := Option.some.inj h
    subst e
    simp
    exact h0
  | (m, u) :: r, a, v, h, h0 => by
    cases hc : units.lookup u with
    | none =>
      rw [told_no hc] at h
      cases h
    | some c =>
      cases hf : fig m with
      | false =>
        rw [told_bad hc hf] at h
        cases h
      | true =>
        obtain ⟨w, hw, w0, w1⟩ := fig_val hf
        rw [told_on hc hf hw] at h
        obtain ⟨c0, c1⟩ := units_small hc
        have m0 : 0 ≤ w * c := Int.mul_nonneg w0 (by omega)
        have m1 : w * c ≤ 10 ^ 12 * c := Int.mul_le_mul_of_nonneg_right (by omega) (by omega)
        obtain ⟨v0, v1⟩ := told_lt r (a + w * c) v h (by omega)
        refine ⟨v0, ?_⟩
        rw [List.length_cons]
        have e : (((r.length + 1 : Nat) : Int)) * 10 ^ 15 = (r.length : Int) * 10 ^ 15 + 10 ^ 15 := by omega
        rw [e]
        omega
theorem prs_count (z : Str) : (prs z).length ≤ z.length + 1 := by
  unfold prs
  rw [List.length_zip]
  have h1 := ev_len (Txt.split z " ")
  have h2 := PyProof.Rows.split_weight z " " (by decide +kernel)
  omega
theorem told_big {z : Str} {v : Int} (h : told 0 (prs z) = some v) (hz : z.length ≤ 100000) : 0 ≤ v ∧ v < 10 ^ 30 := by
  obtain ⟨v0, v1⟩ := told_lt _ 0 v h (Int.le_refl _)
  have := prs_count z
  refine ⟨v0, ?_⟩
  have : ((prs z).length : Int) ≤ 100001 := by omega
  omega
end Yarn
namespace Yarn
open PySem PySem.Spec PyProof.Rows L2
section
variable {X : Cx}
theorem sl_listY : SlR X (rSlLY X.K) := fun pins s σ H x v vl vu lo hi sl Q I rx hs pl pu ⟨a, xs, e, h, q⟩ => sl_list pins s σ H x v vl vu lo hi sl Q I rx hs pl pu ⟨a, xs, e, h, fun p hp => q p _ hp (same_upd hp) upd_same⟩
theorem op_catY : OpR X (binaryOp .Add) (fun x y H Q => ∃ l b xs zs, x = .ref l ∧ y = .ref b ∧ H l = some (.lst xs) ∧ H b = some (.lst zs) ∧ xs.length + zs.length ≤ sizeLine ∧ ∀ p H2, H p = none → Same H H2 → H2 p = some (.lst (xs ++ zs)) → Q (.ref p) H2) :=
  fun pins s σ H x y v u Q I rx ry ⟨l, b, xs, zs, e1, e2, h1, h2, h3, q⟩ => op_cat pins s σ H x y v u Q I rx ry ⟨l, b, xs, zs, e1, e2, h1, h2, h3, fun p hp => q p _ hp (same_upd hp) upd_same⟩
theorem pe_revLY {e : Expr} {te : TE} {k : Nat} {p1 p2 p3 pos : Pos} (he : PE X e te) : PE X (.Subscript e (.Slice none none (some (.UnaryOp .USub (.Constant (.int 1) k p1) p2)) p3) pos) (tBy2 X.K List.reverse te) :=
  PE.weak (pe_revL (PE.cl he)) fun σ H Q q => ⟨_, q, fun x H1 ⟨a, xs, e, h, w⟩ => ⟨a, xs, e, h, fun p hp => w p _ hp (same_upd hp) upd_same⟩⟩
end
end Yarn
namespace Yarn
open PySem PySem.Spec PyProof.Rows L2
/-! ### signs -/
def Low (z : Str) : Prop := ∀ c ∈ TL.tl z, c < 128
theorem mem_join {y : Str} : ∀ {l : List Str} {x : Str} {c : Nat}, x ∈ l → c ∈ TL.tl x → c ∈ TL.tl (Str.join y l)
  | [a], x, c, hx, hc => by
    rw [List.mem_singleton.mp hx] at hc
    exact hc
  | a :: b :: r, x, c, hx, hc => by
    rw [jcons, TL.tl_append, TL.tl_append]
    rcases List.mem_cons.mp hx with z | z
    · rw [z] at hc
      exact List.mem_append_left _ (List.mem_append_left _ hc)
    · exact List.mem_append_right _ (mem_join z hc)
theorem low_split {z x : Str} (h : Low z) (hx : x ∈ Txt.split z " ") : Low x := fun c hc => h c (by
  have e := PySem.StrLaws.join_split z " "
  rw [← e]
  exact mem_join hx hc)
theorem prs_low {z : Str} {i : Nat} {m u : Str} (h : (prs z)[i]? = some (m, u)) (hl : Low z) : Low m :=
  low_split hl (ev_mem (List.of_mem_zip (List.mem_of_getElem? h)).1)
def isDig (c : Nat) : Bool := decide (48 ≤ c) && decide (c ≤ 57)
theorem occ_dig : ∀ c, c < 128 → (!(!(Builtin.Str.occurrences ("0123456789" : Str) ⟨#[c]⟩ 0 ("0123456789" : Str).length 1).isEmpty)) = !isDig c := by decide +kernel
theorem fig_low {m : Str} (hl : Low m) : fig m = (decide (m.length ≤ 12) && (decide (1 ≤ m.length) && (TL.tl m).all isDig)) := by
  have a1 : Txt.isascii m = true := by
    unfold Txt.isascii
    rw [← Array.all_toList, List.all_eq_true]
    exact fun c hc => decide_eq_true (hl c hc)
  have a2 : Txt.isdigit m = (decide (1 ≤ m.length) && (TL.tl m).all isDig) := by
    unfold Txt.isdigit
    rw [← Array.all_toList]
    congr 1
    have hc : ∀ c ∈ TL.tl m, Unicode.isDigit c = isDig c := fun c hc => dig128 c (hl c hc)
    refine Bool.eq_iff_iff.mpr ⟨fun h => List.all_eq_true.mpr fun c hm => ?_, fun h => List.all_eq_true.mpr fun c hm => ?_⟩
    · rw [← hc c hm]
      exact List.all_eq_true.mp h c hm
    · rw [hc c hm]
      exact List.all_eq_true.mp h c hm
  unfold fig
  rw [a1, a2, Bool.true_and]
def szD : List (Key × V) := [(Sum.inr "lb", .int 256), (Sum.inr "oz", .int 16), (Sum.inr "dr", .int 1)]
theorem sz_merge : mergeK [] szD = szD := by decide +kernel
theorem lc_strY {m : Str} {g : TG} {tt : TT} {te : TE} {vs : List Nat} {σ : L2.St} {H1 : Hp} {D : Addr} {Qd : Hp → Prop} (Pv : Nat → Hp → Prop) (h0 : Pv 0 (upd H1 D (.lst [])))
    (hs : ∀ i c H, m.cps[i]? = some c → Pv i H → g (.str ⟨#[c]⟩) (wipe σ vs) H fun σ2 H2 => wipe σ2 vs = wipe σ vs ∧ tt σ2 H2 fun b H3 =>
      if b = true then te σ2 H3 fun y H4 => ∃ acc, H4 D = some (.lst acc) ∧ acc.length < sizeLine ∧ Pv (i + 1) (upd H4 D (.lst (acc ++ [y]))) else Pv (i + 1) H3) (hd : ∀ H, Pv m.cps.size H → Qd H) :
    ∃ W : Nat → Nat → Hp → Prop, (∃ n, W 0 n (upd H1 D (.lst []))) ∧ ∀ i n H, W i n H →
      ((Its m).stop i H ∧ Qd H) ∨ ((Its m).go i H ∧ ∃ Nx : Hp → Prop, (∀ H', Nx H' → ∃ n', n' < n ∧ W (i + 1) n' H') ∧ ∀ x H', (Its m).yld i H x H' → g x (wipe σ vs) H' fun σ2 H2 => wipe σ2 vs = wipe σ vs ∧ tt σ2 H2 fun b H3 =>
        if b = true then te σ2 H3 fun y H4 => ∃ acc, H4 D = some (.lst acc) ∧ acc.length < sizeLine ∧ Nx (upd H4 D (.lst (acc ++ [y]))) else Nx H3) := by
  refine ⟨fun i n H => n + i = m.cps.size ∧ Pv i H, ⟨m.cps.size, rfl, h0⟩, ?_⟩
  rintro i n H ⟨e, p⟩
  by_cases hlt : i < m.cps.size
  · refine .inr ⟨hlt, Pv (i + 1), fun H' p' => ⟨n - 1, by omega, by omega, p'⟩, fun x H' y => ?_⟩
    obtain ⟨rfl, c, hc, rfl⟩ := y
    exact hs i c _ hc p
  · obtain rfl : i = m.cps.size := by omega
    exact .inl ⟨Nat.le_refl _, hd H p⟩
theorem sz_val {u : Str} : valV szD (Sum.inr u) = (units.lookup u).map V.int := by
  have key : ∀ l : List (Str × Int), valV (l.map fun p => ((Sum.inr p.1 : Key), V.int p.2)) (Sum.inr u) = (l.lookup u).map V.int := by
    intro l
    induction l with
    | nil => rfl
    | cons p r ih =>
      obtain ⟨x, c⟩ := p
      rw [List.map_cons]
      by_cases h : x = u
      · subst h
        rw [show valV (((Sum.inr x : Key), V.int c) :: r.map fun p => ((Sum.inr p.1 : Key), V.int p.2)) (Sum.inr x) = some (V.int c) from valV_pos rfl]
        simp [List.lookup]
      · have hb : (u == x) = false := by
          have : ¬ u = x := fun z => h z.symm
          simpa using this
        have e2 : ((x, c) :: r).lookup u = r.lookup u := by simp [List.lookup, hb]
        rw [e2, ← ih]
        exact valV_neg (fun z => h (Sum.inr.inj z))
  exact key units
theorem all_dig {l : List Nat} (h : (l.filter fun c => !isDig c) = []) : l.all isDig = true := by
  rw [List.all_eq_true]
  intro c hc
  cases hd : isDig c with
  | true => rfl
  | false =>
    have : c ∈ l.filter fun c => !isDig c := List.mem_filter.mpr ⟨hc, by rw [hd]; rfl⟩
    rw [h] at this
    cases this
theorem not_dig {l : List Nat} (h : (l.filter fun c => !isDig c) ≠ []) : l.all isDig = false := by
  cases e : l.all isDig with
  | false => rfl
  | true =>
    refine absurd ?_ h
    rw [List.filter_eq_nil_iff]
    intro c hc
    rw [List.all_eq_true.mp e c hc]
    simp
def ch (c : Nat) : Str := ⟨#[c]⟩
theorem take_cps {m : Str} {i c : Nat} (h : m.cps[i]? = some c) : (TL.tl m).take (i + 1) = (TL.tl m).take i ++ [c] := take_more (by
  show m.cps.toList[i]? = some c
  rw [Array.getElem?_toList]
  exact h)
end Yarn
namespace Yarn
open PySem PySem.Spec PyProof.Rows L2
theorem low_app {x y : Str} (hx : Low x) (hy : Low y) : Low (x ++ y) := fun c hc => by
  rw [TL.tl_append] at hc
  rcases List.mem_append.mp hc with z | z
  · exact hx c z
  · exact hy c z
theorem low_join {y : Str} (hy : Low y) : ∀ {l : List Str}, (∀ x ∈ l, Low x) → Low (Txt.join y l) := by
  intro l h
  rw [TL.join_eq]
  induction l with
  | nil => intro c hc; cases hc
  | cons a r ih =>
    cases r with
    | nil => exact h a List.mem_cons_self
    | cons b r =>
      rw [jcons]
      exact low_app (low_app (h a List.mem_cons_self) hy) (ih fun x hx => h x (List.mem_cons_of_mem _ hx))
theorem low_sp : Low " " := by unfold Low; decide +kernel
theorem units_low128 : ∀ p ∈ units, Low p.1 := by unfold Low; decide +kernel
theorem low_writ {n : Int} (h : 0 ≤ n) : Low (writ n) := by
  refine low_join low_sp fun x hx => ?_
  obtain ⟨q, hq, rfl⟩ := List.mem_map.mp hx
  obtain ⟨g1, g2⟩ := cs_good h q hq
  refine low_app (low_app (fun c hc => ?_) low_sp) (units_low128 _ g2)
  rw [num_tl g1] at hc
  have := TL.numL_digits _ c hc
  omega
theorem low_repr {z : Str} (h : Low z) (hl : z.length ≤ 80000) : (reprText z).length ≤ 900000 := by
  have := PySem.StrLaws.reprText_len z fun c hc => Nat.lt_of_lt_of_le (h c hc) (by decide)
  omega
def bnd : Nat → Nat
  | 0 => 2000
  | 1 => 11000
  | _ => 38000
theorem bnd_le (j : Nat) : bnd j ≤ 38000 := by
  match j with
  | 0 => decide
  | 1 => decide
  | j + 2 => exact Nat.le_refl _
theorem bnd_low {j : Nat} (h : j < 2) : bnd j ≤ 11000 ∧ 3 * bnd j + 5000 ≤ bnd (j + 1) := by
  match j, h with
  | 0, _ => decide
  | 1, _ => decide
theorem text_field (v : V) : List.lookup ("text" : Str) [(("text" : Str), v)] = some v := by simp [List.lookup]
end Yarn
namespace Yarn
open PySem PySem.Spec PyProof.Rows L2
/-! ### pieces -/
theorem low_cut {z : Str} (h : Low z) (lo hi : Option Int) : Low (cutS z lo hi) := fun c hc => h c (by
  have hc' : c ∈ (z.cps.toList.drop (HT.sIx z.length 0 lo)).take (HT.sIx z.length z.length hi - HT.sIx z.length 0 lo) := hc
  exact List.mem_of_mem_drop (List.mem_of_mem_take hc'))
/-- the weight of words: their signs and one each -/
def wt (l : List Str) : Nat := (l.map (·.length)).sum + l.length
theorem wt_app (a b : List Str) : wt (a ++ b) = wt a + wt b := by
  unfold wt
  rw [List.map_append, List.sum_append, List.length_append]
  omega
theorem wt_rev (a : List Str) : wt a.reverse = wt a := by
  unfold wt
  rw [List.map_reverse, List.sum_reverse, List.length_reverse]
theorem cut_words (ws : List Str) (lo hi : Option Int) : ∃ us : List Str, cutV (ws.map V.str) lo hi = us.map V.str ∧ (∀ x ∈ us, x ∈ ws) ∧ wt us ≤ wt ws := by
  refine ⟨(ws.drop (HT.sIx (ws.map V.str).length 0 lo)).take (HT.sIx (ws.map V.str).length (ws.map V.str).length hi - HT.sIx (ws.map V.str).length 0 lo), ?_, ?_, ?_⟩
  · unfold cutV
    rw [List.map_take, List.map_drop]
  · exact fun x hx => List.mem_of_mem_drop (List.mem_of_mem_take hx)
  · generalize HT.sIx (ws.map V.str).length 0 lo = i
    generalize HT.sIx (ws.map V.str).length (ws.map V.str).length hi - i = j
    have h1 : wt ws = wt (ws.take i) + wt (ws.drop i) := by rw [← wt_app, List.take_append_drop]
    have h2 : wt (ws.drop i) = wt ((ws.drop i).take j) + wt ((ws.drop i).drop j) := by rw [← wt_app, List.take_append_drop]
    omega
theorem join_wt (l : List Str) : (Txt.join " " l).length ≤ wt l := by
  rw [TL.join_eq]
  cases l with
  | nil => exact Nat.zero_le _
  | cons a r =>
    rw [PyProof.Rows.len_join_cons]
    have e1 : (" " : Str).length = 1 := by decide +kernel
    unfold wt
    rw [e1, List.length_cons]
    omega
theorem split_wt (z : Str) : wt (Txt.split z " ") ≤ z.length + 1 := PyProof.Rows.split_weight z " " (by decide +kernel)
def Gd (B : Nat) (v : V) : Prop := ∃ y : Str, v = .str y ∧ y.length ≤ B ∧ Low y
theorem lit_low (x : Str) (h : (TL.tl x).all (fun c => decide (c < 128)) = true) : Low x := fun c hc => of_decide_eq_true (List.all_eq_true.mp h c hc)
theorem split_ne (z : Str) : Txt.split z " " ≠ [] ∨ z = Str.empty := by
  by_cases h : Txt.split z " " = []
  · refine .inr ?_
    have e := PySem.StrLaws.join_split z " "
    rw [h] at e
    exact e.symm
  · exact .inl h
end Yarn
namespace Yarn
open PySem PySem.Spec PyProof.Rows L2
theorem op_mulS {X : Cx} : OpR X (binaryOp .Mult) (fun x y H Q => ∃ z n, x = .str z ∧ y = .int n ∧ MulOk z n ∧ Q (.str (Txt.mul z n)) H) := by
  intro pins s σ H x y v u Q I rx ry h
  obtain ⟨z, n, rfl, rfl, hc, q⟩ := h
  obtain ⟨t, rfl⟩ := rx
  obtain ⟨t', rfl⟩ := ry
  exact PySem.SB.mul hc fun t2 k => ⟨.str _, H, I.tok k, ⟨t2, rfl⟩, q⟩
theorem fold_rep (a : Array Nat) : ∀ (k : Nat) (acc : Array Nat), ((List.replicate k a).foldl (· ++ ·) acc).size = acc.size + k * a.size ∧ ∀ c ∈ ((List.replicate k a).foldl (· ++ ·) acc).toList, c ∈ acc.toList ∨ c ∈ a.toList
  | 0, acc => ⟨by simp, fun c h => .inl h⟩
  | k + 1, acc => by
    obtain ⟨h1, h2⟩ := fold_rep a k (acc ++ a)
    rw [List.replicate_succ, List.foldl_cons]
    refine ⟨by rw [h1, Array.size_append, Nat.add_mul]; omega, fun c hc => ?_⟩
    rcases h2 c hc with z | z
    · rw [Array.toList_append] at z
      exact List.mem_append.mp z
    · exact .inr z
def LL (b : Nat) (x : Str) : Prop := x.length ≤ b ∧ Low x
theorem LL.app {a b : Nat} {x y : Str} (hx : LL a x) (hy : LL b y) : LL (a + b) (x ++ y) := ⟨by rw [str_len]; exact Nat.add_le_add hx.1 hy.1, low_app hx.2 hy.2⟩
theorem nines : LL 4400 (Txt.mul "9" 4400) := by
  have e : Txt.mul "9" 4400 = ⟨(List.replicate 4400 ("9" : Str).cps).foldl (· ++ ·) #[]⟩ := rfl
  obtain ⟨h1, h2⟩ := fold_rep ("9" : Str).cps 4400 #[]
  rw [e]
  refine ⟨?_, fun c hc => ?_⟩
  · show ((List.replicate 4400 ("9" : Str).cps).foldl (· ++ ·) #[]).size ≤ 4400
    rw [h1]
    have : ("9" : Str).cps.size = 1 := by decide +kernel
    rw [this]
    decide
  · rcases h2 c hc with z | z
    · cases z
    · exact lit_low "9" (by decide +kernel) c z
theorem nines_ok : MulOk "9" 4400 := ⟨by decide, fun _ _ => by decide +kernel, fun _ _ => by decide +kernel⟩
theorem cat_ok {x y : Str} {a b : Nat} (hx : LL a x) (hy : LL b y) (h : a + b ≤ 1000000) : x.length + y.length ≤ sizeLine := line_big (Nat.le_trans (Nat.add_le_add hx.1 hy.1) h)
theorem rIxS_low {S : Str} {i : Int} {H : Hp} {Q : VK} (hS : Low S) (h0 : 0 ≤ i) (h1 : i < (S.length : Int)) (hz : S.length ≤ sizeLine) (h : ∀ c, c < 128 → Q (.str ⟨#[c]⟩) H) : rIxS (.str S) (.int i) H Q := by
  obtain ⟨j, rfl⟩ := Int.eq_ofNat_of_zero_le h0
  have hj : j < S.cps.toList.length := by
    have : S.length = S.cps.toList.length := TL.len_tl S
    omega
  exact ⟨S, j, S.cps.toList[j], rfl, rfl, hz, atI_nat (List.getElem?_eq_getElem hj), h _ (hS _ (List.getElem_mem hj))⟩
theorem ll_ch {c : Nat} (h : c < 128) : LL 1 ⟨#[c]⟩ := ⟨Nat.le_refl _, fun d hd => by
  have : d ∈ [c] := hd
  rw [List.mem_singleton.mp this]
  exact h⟩
theorem words_pos (z : Str) : 0 < (Txt.split z " ").length := by
  rcases split_ne z with h | h
  · exact List.length_pos_iff.mpr h
  · subst h
    decide +kernel
theorem Gd.of {b B : Nat} {x : Str} (h : LL b x) (hb : b ≤ B) : Gd B (.str x) := ⟨x, rfl, Nat.le_trans h.1 hb, h.2⟩
theorem Gd.lit {B : Nat} {x : Str} (h : (decide (x.length ≤ 1000) && (TL.tl x).all (fun c => decide (c < 128))) = true) (hB : 1000 ≤ B) : Gd B (.str x) := by
  obtain ⟨h1, h2⟩ := Bool.and_eq_true_iff.mp h
  exact ⟨x, rfl, Nat.le_trans (of_decide_eq_true h1) hB, lit_low x h2⟩
theorem gd_join {B : Nat} {l ws : List Str} (hl : ∀ x ∈ l, x ∈ ws) (hw : ∀ x ∈ ws, Low x) (h : wt l ≤ B) : Gd B (.str (Txt.join " " l)) := ⟨_, rfl, Nat.le_trans (join_wt l) h, low_join low_sp fun x hx => hw x (hl x hx)⟩
theorem wt_fits {l : List Str} {n : Nat} (h : wt l ≤ n) (hn : n ≤ 1000000) : (l.map (·.length)).sum + l.length * (" " : Str).length ≤ 16777216 := by
  have e1 : (" " : Str).length = 1 := by decide +kernel
  rw [e1, Nat.mul_one]
  have : wt l = (l.map (·.length)).sum + l.length := rfl
  omega
end Yarn
namespace Yarn
open PySem PySem.Spec PyProof.Rows L2
/-- a growing list of texts at D, made behind the heap H0 -/
structure Acc (H0 H : Hp) (p D : Addr) (n : Int) (B m : Nat) : Prop where
  nD : H0 D = none
  s : Same H0 H
  P : Pen H p n
  c : penCell H p ≠ some (.ref D)
  x : ∃ xs, H D = some (.lst xs) ∧ (∀ v ∈ xs, Gd B v) ∧ xs.length = m
theorem Acc.same {H0 H H' : Hp} {p D : Addr} {n : Int} {B m : Nat} (A : Acc H0 H p D n B m) (s : Same H H') : Acc H0 H' p D n B m :=
  ⟨A.nD, A.s.trans s, A.P.same s, by rw [cell_same s A.P]; exact A.c, let ⟨xs, h, r⟩ := A.x; ⟨xs, s _ _ h, r⟩⟩
theorem Acc.new {H0 H : Hp} {p D : Addr} {n : Int} {B : Nat} {xs : List V} (P : Pen H0 p n) (nD : H0 D = none) (s : Same H0 H) (e : H D = some (.lst xs)) (g : ∀ v ∈ xs, Gd B v) : Acc H0 H p D n B xs.length :=
  ⟨nD, s, P.same s, cell_old P nD (cell_same s P), xs, e, g, rfl⟩
theorem Acc.put {H0 H H' : Hp} {p D : Addr} {n : Int} {B m : Nat} {xs : List V} {v : V} (A : Acc H0 H p D n B m) (hx : H D = some (.lst xs)) (hv : Gd B v) (b : But D H H') (e : H' D = some (.lst (xs ++ [v]))) : Acc H0 H' p D n B (m + 1) := by
  obtain ⟨ys, h1, h2, h3⟩ := A.x
  rw [hx] at h1
  cases h1
  obtain ⟨P', g'⟩ := A.P.app A.c hx b
  refine ⟨A.nD, same_new A.nD A.s b, P', by rw [g']; exact A.c, _, e, fun w hw => ?_, by rw [List.length_append, h3]; rfl⟩
  rcases List.mem_append.mp hw with z | z
  · exact h2 w z
  · rw [List.mem_singleton.mp z]; exact hv
theorem Acc.cat {H0 H H' : Hp} {p D D' : Addr} {n : Int} {B m : Nat} {xs zs : List V} (A : Acc H0 H p D n B m) (hx : H D = some (.lst xs)) (hz : ∀ v ∈ zs, Gd B v) (n' : H D' = none) (s : Same H H') (e : H' D' = some (.lst (xs ++ zs))) : Acc H0 H' p D' n B (m + zs.length) := by
  obtain ⟨ys, h1, h2, h3⟩ := A.x
  rw [hx] at h1
  cases h1
  refine ⟨?_, A.s.trans s, A.P.same s, cell_old A.P n' (cell_same s A.P), _, e, fun w hw => ?_, by rw [List.length_append, h3]⟩
  · cases h : H0 D' with
    | none => rfl
    | some o =>
      rw [A.s _ _ h] at n'
      cases n'
  · rcases List.mem_append.mp hw with z | z
    · exact h2 w z
    · exact hz w z
end Yarn

set_option Elab.async false
set_option linter.all false
set_option maxRecDepth 100000
set_option maxHeartbeats 4000000
namespace Law
open PySem PySem.Spec PyProof.Rows L2 Yarn
def top (i : Nat) : Stmt := PySem.Challenge.pw_yarnback_k03_what_writes_no_weight.main.body.getD i (.Pass ⟨0, 0, 0, 0⟩)
abbrev s__law_pen : Stmt := top 13
abbrev s__law_draw : Stmt := top 14
abbrev s__law_number : Stmt := top 15
abbrev s_Weight_init : Stmt := inClass (top 8) 0
abbrev s_Weight_eq : Stmt := inClass (top 8) 1
abbrev s_written_parts : Stmt := top 9
abbrev s_Weight_str : Stmt := inClass (top 8) 2
abbrev s_are_figures : Stmt := top 4
abbrev s_Unread_init : Stmt := inClass (top 2) 0
abbrev s_drams_told : Stmt := top 11
abbrev s_read_weight : Stmt := top 10
abbrev s__law_written : Stmt := top 16
abbrev s__law_spoilt : Stmt := top 17
abbrev s__law_amount : Stmt := top 18
abbrev s_law : Stmt := top 19
theorem sc__law_pen : FnScope ["script", "cell"] ["script"] (defScope s__law_pen) := ⟨rfl, rfl, rfl, by decide +kernel, rfl, by decide +kernel, by decide +kernel⟩
theorem sc__law_draw : FnScope ["pen", "many", "digit", "at", "cell", "number", "again"] ["pen", "many"] (defScope s__law_draw) := ⟨rfl, rfl, rfl, by decide +kernel, rfl, by decide +kernel, by decide +kernel⟩
theorem sc__law_number : FnScope ["pen"] ["pen"] (defScope s__law_number) := ⟨rfl, rfl, rfl, by decide +kernel, rfl, by decide +kernel, by decide +kernel⟩
theorem sc_Weight_init : FnScope ["self", "pounds", "ounces", "drams"] ["self", "pounds", "ounces", "drams"] (defScope s_Weight_init) := ⟨rfl, rfl, rfl, by decide +kernel, rfl, by decide +kernel, by decide +kernel⟩
theorem sc_Weight_eq : FnScope ["self", "other"] ["self", "other"] (defScope s_Weight_eq) := ⟨rfl, rfl, rfl, by decide +kernel, rfl, by decide +kernel, by decide +kernel⟩
theorem sc_written_parts : FnScope ["drams", "parts", "left", "unit", "worth", "many"] ["drams"] (defScope s_written_parts) := ⟨rfl, rfl, rfl, by decide +kernel, rfl, by decide +kernel, by decide +kernel⟩
theorem sc_Weight_str : FnScope ["self"] ["self"] (defScope s_Weight_str) := ⟨rfl, rfl, rfl, by decide +kernel, rfl, by decide +kernel, by decide +kernel⟩
theorem sc_are_figures : FnScope ["word", "most"] ["word", "most"] (defScope s_are_figures) := ⟨rfl, rfl, rfl, by decide +kernel, rfl, by decide +kernel, by decide +kernel⟩
theorem sc_Unread_init : FnScope ["self", "text"] ["self", "text"] (defScope s_Unread_init) := ⟨rfl, rfl, rfl, by decide +kernel, rfl, by decide +kernel, by decide +kernel⟩
theorem sc_drams_told : FnScope ["text", "words", "drams", "many", "unit"] ["text"] (defScope s_drams_told) := ⟨rfl, rfl, rfl, by decide +kernel, rfl, by decide +kernel, by decide +kernel⟩
theorem sc_read_weight : FnScope ["text", "weight"] ["text"] (defScope s_read_weight) := ⟨rfl, rfl, rfl, by decide +kernel, rfl, by decide +kernel, by decide +kernel⟩
theorem sc__law_written : FnScope ["amount", "sizes", "words", "gap", "found", "size", "word"] ["amount", "sizes", "words", "gap"] (defScope s__law_written) := ⟨rfl, rfl, rfl, by decide +kernel, rfl, by decide +kernel, by decide +kernel⟩
theorem sc__law_spoilt : FnScope ["pen", "text", "signs", "at", "sign", "words", "spot", "some", "both"] ["pen", "text"] (defScope s__law_spoilt) := ⟨rfl, rfl, rfl, by decide +kernel, rfl, by decide +kernel, by decide +kernel⟩
theorem sc__law_amount : FnScope ["text", "words", "sizes", "a_drams", "number", "word", "one"] ["text"] (defScope s__law_amount) := ⟨rfl, rfl, rfl, by decide +kernel, rfl, by decide +kernel, by decide +kernel⟩
theorem sc_law : FnScope ["script", "pen", "turn", "a_drams", "text", "again", "due", "wrong", "found", "e"] ["script"] (defScope s_law) := ⟨rfl, rfl, rfl, by decide +kernel, rfl, by decide +kernel, by decide +kernel⟩
def fs_Unread (v_text : V) : List (Str × V) := putF "text" v_text ([])
theorem fs_Unread_text (v_text : V) : (fs_Unread v_text).lookup ("text" : Str) = some v_text := by
  unfold fs_Unread
  rw [lookup_putF, if_pos rfl]
theorem fs_Unread_no (v_text : V) {m : Str} (h_text : ¬ m = "text") : (fs_Unread v_text).lookup m = none := by
  unfold fs_Unread
  rw [lookup_putF, if_neg h_text]
  all_goals rfl
def fs_Weight (v_drams : V) : List (Str × V) := putF "drams" v_drams ([])
theorem fs_Weight_drams (v_drams : V) : (fs_Weight v_drams).lookup ("drams" : Str) = some v_drams := by
  unfold fs_Weight
  rw [lookup_putF, if_pos rfl]
theorem fs_Weight_no (v_drams : V) {m : Str} (h_drams : ¬ m = "drams") : (fs_Weight v_drams).lookup m = none := by
  unfold fs_Weight
  rw [lookup_putF, if_neg h_drams]
  all_goals rfl
structure Txt (K : PySem.W.Frag) (mg : Str → Option Value) where
  C_Unread : Addr
  C_Weight : Addr
  f__law_pen : Addr
  fd__law_pen : FuncData
  f__law_draw : Addr
  fd__law_draw : FuncData
  f__law_number : Addr
  fd__law_number : FuncData
  f_Weight_init : Addr
  fd_Weight_init : FuncData
  f_Weight_eq : Addr
  fd_Weight_eq : FuncData
  f_written_parts : Addr
  fd_written_parts : FuncData
  f_Weight_str : Addr
  fd_Weight_str : FuncData
  f_are_figures : Addr
  fd_are_figures : FuncData
  f_Unread_init : Addr
  fd_Unread_init : FuncData
  f_drams_told : Addr
  fd_drams_told : FuncData
  f_read_weight : Addr
  fd_read_weight : FuncData
  f__law_written : Addr
  fd__law_written : FuncData
  f__law_spoilt : Addr
  fd__law_spoilt : FuncData
  f__law_amount : Addr
  fd__law_amount : FuncData
  f_law : Addr
  fd_law : FuncData
  mgc_Unread : mg "Unread" = some (.ref C_Unread)
  er_Unread : ErrC K C_Unread "ValueError" "ValueError.__new__" "ValueError.__init__" [.type "ValueError", .type "Exception", .type "BaseException", .type "object"]
  ea_Unread : ErrA K C_Unread
  te_Unread : PySem.W.exmOne K (.ref C_Unread) (.ref C_Unread) = some true
  na_Unread_text : PySem.W.findIn K (.ref C_Unread) "text" = some none
  ti_Unread_init : PySem.W.typeIn K (.ref f_Unread_init) = some (.type "function")
  ke_Unread_ValueError : PySem.W.kitOne K (.ref C_Unread) (.type "ValueError") = some true
  vi_ValueError : PySem.W.findCls K (.type "ValueError") (.type "type") "__init__" = some (.val (.builtin "ValueError.__init__"))
  mgc_Weight : mg "Weight" = some (.ref C_Weight)
  cl_Weight : Cls K C_Weight
  na_Weight_drams : NoAttr K C_Weight "drams"
  mk_Weight : Mk K C_Weight f_Weight_init
  ne_Weight : PySem.W.findIn K (.ref C_Weight) "__ne__" = some (some (.builtin "object.__ne__"))
  fo_Weight : PySem.W.findIn K (.ref C_Weight) "__format__" = some (some (.builtin "object.__format__"))
  ha_Weight : PySem.W.findIn K (.ref C_Weight) "__class__" = some (some (.builtin "object.__class__"))
  mo_Weight : PySem.W.mroIn K C_Weight (.type "object") = some true
  nF_Weight_own : PySem.W.notFirst K C_Weight (.ref C_Weight) = true
  nF_Weight_NoneType : PySem.W.notFirst K C_Weight (.type "NoneType") = true
  ki_Weight_own : PySem.W.kitOne K (.ref C_Weight) (.ref C_Weight) = some true
  ki_Weight_NoneType : PySem.W.kitOne K (.type "NoneType") (.ref C_Weight) = some false
  hn : PySem.W.specialIn K (.builtin "object.__class__") "__get__" = some (some (.builtin "getset_descriptor.__get__"))
  ht : PySem.W.takesIn K (.builtin "object.__class__") = some true
  mg__law_pen : mg "_law_pen" = some (.ref f__law_pen)
  F__law_pen : FunD K "_law_pen" "_law_pen" (defArgs s__law_pen) (defBody s__law_pen) (defScope s__law_pen) [] [] f__law_pen fd__law_pen
  mg__law_draw : mg "_law_draw" = some (.ref f__law_draw)
  F__law_draw : FunD K "_law_draw" "_law_draw" (defArgs s__law_draw) (defBody s__law_draw) (defScope s__law_draw) [] [] f__law_draw fd__law_draw
  mg__law_number : mg "_law_number" = some (.ref f__law_number)
  F__law_number : FunD K "_law_number" "_law_number" (defArgs s__law_number) (defBody s__law_number) (defScope s__law_number) [] [] f__law_number fd__law_number
  m_Weight_init : Meth K C_Weight "__init__" f_Weight_init
  F_Weight_init : FunD K "__init__" "Weight.__init__" (defArgs s_Weight_init) (defBody s_Weight_init) (defScope s_Weight_init) [.int 0, .int 0, .int 0] [] f_Weight_init fd_Weight_init
  m_Weight_eq : Meth K C_Weight "__eq__" f_Weight_eq
  F_Weight_eq : FunD K "__eq__" "Weight.__eq__" (defArgs s_Weight_eq) (defBody s_Weight_eq) (defScope s_Weight_eq) [] [] f_Weight_eq fd_Weight_eq
  mg_written_parts : mg "written_parts" = some (.ref f_written_parts)
  F_written_parts : FunD K "written_parts" "written_parts" (defArgs s_written_parts) (defBody s_written_parts) (defScope s_written_parts) [] [] f_written_parts fd_written_parts
  m_Weight_str : Meth K C_Weight "__str__" f_Weight_str
  F_Weight_str : FunD K "__str__" "Weight.__str__" (defArgs s_Weight_str) (defBody s_Weight_str) (defScope s_Weight_str) [] [] f_Weight_str fd_Weight_str
  mg_are_figures : mg "are_figures" = some (.ref f_are_figures)
  F_are_figures : FunD K "are_figures" "are_figures" (defArgs s_are_figures) (defBody s_are_figures) (defScope s_are_figures) [] [] f_are_figures fd_are_figures
  m_Unread_init : Meth K C_Unread "__init__" f_Unread_init
  F_Unread_init : FunD K "__init__" "Unread.__init__" (defArgs s_Unread_init) (defBody s_Unread_init) (defScope s_Unread_init) [] [] f_Unread_init fd_Unread_init
  mg_drams_told : mg "drams_told" = some (.ref f_drams_told)
  F_drams_told : FunD K "drams_told" "drams_told" (defArgs s_drams_told) (defBody s_drams_told) (defScope s_drams_told) [] [] f_drams_told fd_drams_told
  mg_read_weight : mg "read_weight" = some (.ref f_read_weight)
  F_read_weight : FunD K "read_weight" "read_weight" (defArgs s_read_weight) (defBody s_read_weight) (defScope s_read_weight) [] [] f_read_weight fd_read_weight
  mg__law_written : mg "_law_written" = some (.ref f__law_written)
  F__law_written : FunD K "_law_written" "_law_written" (defArgs s__law_written) (defBody s__law_written) (defScope s__law_written) [] [] f__law_written fd__law_written
  mg__law_spoilt : mg "_law_spoilt" = some (.ref f__law_spoilt)
  F__law_spoilt : FunD K "_law_spoilt" "_law_spoilt" (defArgs s__law_spoilt) (defBody s__law_spoilt) (defScope s__law_spoilt) [] [] f__law_spoilt fd__law_spoilt
  mg__law_amount : mg "_law_amount" = some (.ref f__law_amount)
  F__law_amount : FunD K "_law_amount" "_law_amount" (defArgs s__law_amount) (defBody s__law_amount) (defScope s__law_amount) [] [] f__law_amount fd__law_amount
  mg_law : mg "law" = some (.ref f_law)
  F_law : FunD K "law" "law" (defArgs s_law) (defBody s_law) (defScope s_law) [] [] f_law fd_law
  b_ValueError : mg "ValueError" = none
  b_abs : mg "abs" = none
  b_divmod : mg "divmod" = none
  b_int : mg "int" = none
  b_isinstance : mg "isinstance" = none
  b_len : mg "len" = none
  b_min : mg "min" = none
  b_range : mg "range" = none
  b_str : mg "str" = none
  b_zip : mg "zip" = none
  g_MOST_FIGURES : ∃ u, mg "MOST_FIGURES" = some u ∧ RelV (.int 12) u
  PP : Params
  D_DRAMS_IN : Addr
  es_DRAMS_IN : Array DictEntry
  n_DRAMS_IN : Nat
  gd_DRAMS_IN : mg "DRAMS_IN" = some (.ref D_DRAMS_IN)
  lD_DRAMS_IN : K.lookup D_DRAMS_IN = some ⟨.type "dict", none, .dict es_DRAMS_IN n_DRAMS_IN, #[]⟩
  lo_DRAMS_IN : (D_DRAMS_IN == sysModules) = false
  kl_DRAMS_IN : PySem.W.KeysLit PP es_DRAMS_IN.toList
  nD_DRAMS_IN_lb : ∃ u, PySem.W.nsIn K D_DRAMS_IN "lb" = some (some u) ∧ RelV (.int 256) u
  nD_DRAMS_IN_oz : ∃ u, PySem.W.nsIn K D_DRAMS_IN "oz" = some (some u) ∧ RelV (.int 16) u
  nD_DRAMS_IN_dr : ∃ u, PySem.W.nsIn K D_DRAMS_IN "dr" = some (some u) ∧ RelV (.int 1) u
  rk_DRAMS_IN : rowsOk es_DRAMS_IN.toList [(.str "lb", .int 256), (.str "oz", .int 16), (.str "dr", .int 1)]
  ro_DRAMS_IN : RowsE es_DRAMS_IN [(.str "lb", .int 256), (.str "oz", .int 16), (.str "dr", .int 1)]
section
variable {P : Program} {w : World} {K : PySem.W.Frag} {mg : Str → Option Value} {base : Heap}
theorem Txt.kd_DRAMS_IN_lb (T : Txt K mg) (hw : T.PP = w.params) : KDct K w T.D_DRAMS_IN "lb" (.int 256) := by
  obtain ⟨u, e, r⟩ := T.nD_DRAMS_IN_lb
  exact ⟨T.es_DRAMS_IN, T.n_DRAMS_IN, u, T.lD_DRAMS_IN, hw ▸ T.kl_DRAMS_IN, e, r⟩
theorem Txt.kd_DRAMS_IN_oz (T : Txt K mg) (hw : T.PP = w.params) : KDct K w T.D_DRAMS_IN "oz" (.int 16) := by
  obtain ⟨u, e, r⟩ := T.nD_DRAMS_IN_oz
  exact ⟨T.es_DRAMS_IN, T.n_DRAMS_IN, u, T.lD_DRAMS_IN, hw ▸ T.kl_DRAMS_IN, e, r⟩
theorem Txt.kd_DRAMS_IN_dr (T : Txt K mg) (hw : T.PP = w.params) : KDct K w T.D_DRAMS_IN "dr" (.int 1) := by
  obtain ⟨u, e, r⟩ := T.nD_DRAMS_IN_dr
  exact ⟨T.es_DRAMS_IN, T.n_DRAMS_IN, u, T.lD_DRAMS_IN, hw ▸ T.kl_DRAMS_IN, e, r⟩
theorem Txt.b__law_pen (T : Txt K mg) : Binds K T.fd__law_pen ["script"] [] := T.F__law_pen.bindsN (ps := ["script"]) fun _ _ _ _ _ _ us hl => match us, hl with | [_], _ => rfl
theorem Txt.b__law_draw (T : Txt K mg) : Binds K T.fd__law_draw ["pen", "many"] [] := T.F__law_draw.bindsN (ps := ["pen", "many"]) fun _ _ _ _ _ _ us hl => match us, hl with | [_, _], _ => rfl
theorem Txt.b__law_number (T : Txt K mg) : Binds K T.fd__law_number ["pen"] [] := T.F__law_number.bindsN (ps := ["pen"]) fun _ _ _ _ _ _ us hl => match us, hl with | [_], _ => rfl
theorem Txt.b_Weight_eq (T : Txt K mg) : Binds K T.fd_Weight_eq ["self", "other"] [] := T.F_Weight_eq.bindsN (ps := ["self", "other"]) fun _ _ _ _ _ _ us hl => match us, hl with | [_, _], _ => rfl
theorem Txt.b_written_parts (T : Txt K mg) : Binds K T.fd_written_parts ["drams"] [] := T.F_written_parts.bindsN (ps := ["drams"]) fun _ _ _ _ _ _ us hl => match us, hl with | [_], _ => rfl
theorem Txt.b_Weight_str (T : Txt K mg) : Binds K T.fd_Weight_str ["self"] [] := T.F_Weight_str.bindsN (ps := ["self"]) fun _ _ _ _ _ _ us hl => match us, hl with | [_], _ => rfl
theorem Txt.b_are_figures (T : Txt K mg) : Binds K T.fd_are_figures ["word", "most"] [] := T.F_are_figures.bindsN (ps := ["word", "most"]) fun _ _ _ _ _ _ us hl => match us, hl with | [_, _], _ => rfl
theorem Txt.b_Unread_init (T : Txt K mg) : Binds K T.fd_Unread_init ["self", "text"] [] := T.F_Unread_init.bindsN (ps := ["self", "text"]) fun _ _ _ _ _ _ us hl => match us, hl with | [_, _], _ => rfl
theorem Txt.b_drams_told (T : Txt K mg) : Binds K T.fd_drams_told ["text"] [] := T.F_drams_told.bindsN (ps := ["text"]) fun _ _ _ _ _ _ us hl => match us, hl with | [_], _ => rfl
theorem Txt.b_read_weight (T : Txt K mg) : Binds K T.fd_read_weight ["text"] [] := T.F_read_weight.bindsN (ps := ["text"]) fun _ _ _ _ _ _ us hl => match us, hl with | [_], _ => rfl
theorem Txt.b__law_written (T : Txt K mg) : Binds K T.fd__law_written ["amount", "sizes", "words", "gap"] [] := T.F__law_written.bindsN (ps := ["amount", "sizes", "words", "gap"]) fun _ _ _ _ _ _ us hl => match us, hl with | [_, _, _, _], _ => rfl
theorem Txt.b__law_spoilt (T : Txt K mg) : Binds K T.fd__law_spoilt ["pen", "text"] [] := T.F__law_spoilt.bindsN (ps := ["pen", "text"]) fun _ _ _ _ _ _ us hl => match us, hl with | [_, _], _ => rfl
theorem Txt.b__law_amount (T : Txt K mg) : Binds K T.fd__law_amount ["text"] [] := T.F__law_amount.bindsN (ps := ["text"]) fun _ _ _ _ _ _ us hl => match us, hl with | [_], _ => rfl
theorem Txt.b_law (T : Txt K mg) : Binds K T.fd_law ["script"] [] := T.F_law.bindsN (ps := ["script"]) fun _ _ _ _ _ _ us hl => match us, hl with | [_], _ => rfl
def g_bd_Weight_init_0_drams {α : Type} (us its ws : List α) : List α := (us.drop 0).take 1 ++ ((its.drop 0).take 1 ++ ((its.drop 1).take 1 ++ ((ws.drop 0).take 1)))
theorem bd_Weight_init_0_drams (T : Txt K mg) : ∃ its : List Value, KBn K T.fd_Weight_init ["self", "pounds", "ounces", "drams"] 1 ["drams"] (fun us ws => g_bd_Weight_init_0_drams us its ws) (fun vs zs => g_bd_Weight_init_0_drams vs [.int 0, .int 0, .int 0] zs) :=
  T.F_Weight_init.kbindsD (ps := ["self", "pounds", "ounces", "drams"]) 1 ["drams"] (fun us its ws => g_bd_Weight_init_0_drams us its ws) (by simp) (fun r1 r2 r3 => ((r1.drop 0).take 1).append (((r2.drop 0).take 1).append (((r2.drop 1).take 1).append ((r3.drop 0).take 1))))
    fun _ _ _ _ _ _ _ us its ws h1 h2 h3 => match us, h1, its, h2, ws, h3 with | [_], _, [_, _, _], _, [_], _ => ⟨_, rfl, rfl⟩
def sp__law_pen (T : Txt K mg) : Sp := fun vs H Q _ => spPen K vs H Q (fun _ _ _ => False)
theorem ok__law_pen (T : Txt K mg) (hw : T.PP = w.params) : FnOk P w K mg base CX0 2 T.f__law_pen T.fd__law_pen ["script"] (sp__law_pen T) := by
  refine okD T.F__law_pen sc__law_pen (fun vs H Q E h => ?_) (fun cdv A outer s H vs Q E hr h => ?_)
  · obtain ⟨_, _, rfl, _⟩ := h; rfl
  · have hu := hu_of hr
    have hu64 := hr.units
    refine ⟨_, pss_one (ps_ret (pe_disp (pps_cons pe_str (pe_lc (own := [("cell", 1)]) (by rfl) sc__law_pen.nd (pi_list (pe_slice sl_list (pv 0) po_none (po_some pe_int))) (blkOk_by (own := [("cell", 1)]) (N := ["script", "cell"]) (sc := defScope s__law_pen) (by decide +kernel)) (fun _ _ _ _ _ => pg_name (i := 1) sc__law_pen.nd rfl (Or.inl rfl)) (fun _ _ _ _ _ => pts_nil) (fun _ _ _ _ _ => pv 1)) (pps_cons pe_str pe_int (pps_cons pe_str pe_int pps_nil))) (by rfl) (by rfl) (fun z => by cases z) (by decide))), ?_⟩
    obtain ⟨a, ns, rfl, hS, hlen, k⟩ := h
    intro p np
    have s0 : Same H (upd H p (.dK [])) := same_upd np
    refine ⟨_, rfl, _, rfl, a, _, rfl, s0.seq hS, ?_⟩
    intro q0 nq0
    obtain ⟨ms, ems, hms⟩ := cut_ints ns none (some 63)
    generalize hH1 : upd (upd H p (.dK [])) q0 (.lst (cutV (ns.map V.int) none (some 63))) = H1
    have s1 : Same (upd H p (.dK [])) H1 := by rw [← hH1]; exact same_upd nq0
    have e1 : H1 q0 = some (.lst (ms.map V.int)) := by rw [← hH1, ← ems]; exact upd_same
    have p1 : H1 p = some (.dK []) := s1 _ _ upd_same
    clear hH1
    refine ⟨q0, rfl, ⟨_, SqL.of e1⟩, fun D nD => ?_⟩
    refine lc_list (K := K) (a := q0) (xs := ms.map V.int) (fun i H' => ∃ acc : List Int, H' D = some (.lst (acc.map V.int)) ∧ acc.length ≤ i ∧ But D H1 H') ⟨[], upd_same, Nat.le_refl _, but_upd⟩
      (fun i H' hi ⟨acc, h1, h2, h3⟩ => SqL.of (h3 _ _ (ne_of_none e1 nD) e1)) ?_ ?_
    · rintro i x H' hi ⟨acc, h1, h2, h3⟩
      obtain ⟨n, hn, rfl⟩ := get_int hi
      refine ⟨rfl, ?_⟩
      have hil := (List.getElem?_eq_some_iff.mp hn).1
      refine ⟨_, rfl, _, h1, by rw [List.length_map]; exact small1000 (by omega), acc ++ [n], ?_, by rw [List.length_append]; exact Nat.add_le_add_right h2 1, h3.trans but_upd⟩
      rw [List.map_append]
      exact upd_same
    · rintro H' ⟨acc, h1, h2, h3⟩
      have p2 : H' p = some (.dK []) := h3 _ _ (ne_of_none p1 nD) p1
      rw [List.length_map] at h2
      refine ⟨p2, penD D 0 0, rfl, by show 3 ≤ 15; decide, ?_⟩
      have nDp : D ≠ p := fun e => by rw [e, p1] at nD; cases nD
      have sH : Same H (upd H' p (.dK (mergeK [] (penD D 0 0)))) := fun b o e => by
        rw [upd_ne (ne_of_none e np)]
        exact h3 _ _ (ne_of_none (s1 _ _ (s0 _ _ e)) nD) (s1 _ _ (s0 _ _ e))
      have mg3 : mergeK [] (penD D 0 0) = penD D 0 0 := pen_merge D
      rw [mg3] at sH ⊢
      exact k p _ np sH ⟨D, acc, 0, 0, upd_same, by rw [upd_ne nDp]; exact h1, by omega, Int.le_refl _, Int.le_refl _, Int.le_refl _⟩
def sp__law_draw (T : Txt K mg) : Sp := fun vs H Q _ => spDraw vs H Q (fun _ _ _ => False)
theorem ok__law_draw (T : Txt K mg) (hw : T.PP = w.params) : FnOk P w K mg base CX0 2 T.f__law_draw T.fd__law_draw ["pen", "many"] (sp__law_draw T) := by
  refine okD T.F__law_draw sc__law_draw (fun vs H Q E h => ?_) (fun cdv A outer s H vs Q E hr h => ?_)
  · obtain ⟨_, _, _, rfl, _⟩ := h; rfl
  · have hu := hu_of hr
    have hu64 := hr.units
    refine ⟨_, pss_cons (ps_if (pt_cmpR op_gt (pe_dget hu (pv 0) pe_str (fun _ _ => rfl)) pe_int (nomark _)) (pss_cons (ps_set (i := 2) sc__law_draw.nd rfl (Or.inl rfl) (pe_op op_mod (pe_dget hu (pv 0) pe_str (fun _ _ => rfl)) (pv 1)))
      (pss_cons (ps_dput hu (pv 0) pe_str (pe_op op_fdivY (pe_dget hu (pv 0) pe_str (fun _ _ => rfl)) (pv 1)) rfl)
      (pss_one (ps_ret (pv 2))))) pss_nil)
      (pss_cons (ps_set (i := 3) sc__law_draw.nd rfl (Or.inl rfl) (pe_dget hu (pv 0) pe_str (fun _ _ => rfl)))
      (pss_cons (ps_dput hu (pv 0) pe_str (pe_op op_add (pv 3) pe_int) rfl)
      (pss_cons (ps_set (i := 4) sc__law_draw.nd rfl (Or.inl rfl) (pe_op op_add (pe_op op_mul (pv 3) (pv 3)) pe_int))
      (pss_cons (ps_if (pt_cmpR (op_neD hu64) (pe_dget hu (pv 0) pe_str (fun _ _ => rfl)) (pe_lstY pa_nil) (nomark _)) (pss_one (ps_set (i := 4) sc__law_draw.nd rfl (Or.inl rfl) (pe_ix ix_list (pe_dget hu (pv 0) pe_str (fun _ _ => rfl)) (pe_op op_mod (pv 3) (pe_callB call_len_seq (by rfl) T.b_len PySem.boot_len (pa_cons (pe_dget hu (pv 0) pe_str (fun _ _ => rfl)) pa_nil))) (fun _ _ => rfl)))) pss_nil)
      (pss_cons (ps_if (PW.pt (pw_and (pt_cmpR op_lt (pv 3) (pe_callB call_len_seq (by rfl) T.b_len PySem.boot_len (pa_cons (pe_dget hu (pv 0) pe_str (fun _ _ => rfl)) pa_nil)) (nomark _)) (pw_and1 (pt_cmpR op_ge (pe_callB call_abs (by rfl) T.b_abs (by decide +kernel) (pa_cons (pv 4) pa_nil)) (pe_op op_pow pe_int pe_int) (nomark _))))) (pss_cons (ps_dput hu (pv 0) pe_str (pe_op op_fdivY (pe_callB call_abs (by rfl) T.b_abs (by decide +kernel) (pa_cons (pv 4) pa_nil)) (pv 1)) rfl)
      (pss_one (ps_ret (pe_op op_mod (pe_callB call_abs (by rfl) T.b_abs (by decide +kernel) (pa_cons (pv 4) pa_nil)) (pv 1))))) pss_nil)
      (pss_cons (ps_set (i := 5) sc__law_draw.nd rfl (Or.inl rfl) (pe_op op_mod (pe_op op_mul (pe_op op_add (pe_op op_add (pe_op op_mod (pv 4) pe_int) (pe_op op_mul pe_int (pv 3))) pe_int) pe_int) pe_int))
      (pss_cons (ps_for PassesOwn.never rfl (pi_range1 (by rfl) T.b_range (pa_cons pe_int pa_nil)) (pg_name (i := 6) sc__law_draw.nd rfl (Or.inl rfl)) (pss_cons (ps_set (i := 5) sc__law_draw.nd rfl (Or.inl rfl) (pe_op op_add (pe_op op_add (pe_op op_add (pe_op op_mul (pv 5) (pv 5)) (pe_op op_mul pe_int (pv 5))) (pv 3)) (pv 6)))
      (pss_one (ps_set (i := 5) sc__law_draw.nd rfl (Or.inl rfl) (pe_op op_mod (pv 5) pe_int)))))
      (pss_one (ps_ret (pe_op op_mod (pe_op op_fdivY (pv 5) pe_int) (pv 1))))))))))), ?_⟩
    obtain ⟨p, m, n, rfl, hP, hn, hm, hm2, k⟩ := h
    obtain ⟨c, ns, a, l, hd, hc, hlen, ha, han, hl⟩ := hP.ex
    have gl : ∀ H' : Hp, H' p = some (.dK (penD c a l)) → DGet H' p (.str "left") (some (.int l)) := fun H' e => by have z := DGet.k (k := Sum.inr "left") e; rw [pen_left] at z; exact z
    have ga : ∀ H' : Hp, H' p = some (.dK (penD c a l)) → DGet H' p (.str "at") (some (.int a)) := fun H' e => by have z := DGet.k (k := Sum.inr "at") e; rw [pen_at] at z; exact z
    have gc : ∀ (H' : Hp) x y, H' p = some (.dK (penD c x y)) → DGet H' p (.str "cells") (some (.ref c)) := fun H' x y e => by have z := DGet.k (k := Sum.inr "cells") e; rw [pen_cells] at z; exact z
    have ncp : c ≠ p := fun e => by rw [e, hd] at hc; cases hc
    have dl : ∀ (H' : Hp) x y z, H' p = some (.dK (penD c x y)) → DPut H' p (.str "left") (.int z) (upd H' p (.dK (penD c x z))) := fun H' x y z e => by
      have w := DPut.k (k := Sum.inr "left") (v := .int z) e (by show 3 < sizeLine; decide)
      rw [put_left] at w; exact w
    have da : ∀ (H' : Hp) x y z, H' p = some (.dK (penD c x y)) → DPut H' p (.str "at") (.int z) (upd H' p (.dK (penD c z y))) := fun H' x y z e => by
      have w := DPut.k (k := Sum.inr "at") (v := .int z) e (by show 3 < sizeLine; decide)
      rw [put_at] at w; exact w
    have fin : ∀ (d x y : Int) (H' : Hp), But p H H' → H' p = some (.dK (penD c x y)) → 0 ≤ x → x ≤ n + 1 → 0 ≤ y → 0 ≤ d → d < m → Q (.int d) H' := fun d x y H' b e h1 h2 h3 h4 h5 =>
      k d H' h4 h5 ⟨c, ns, x, y, e, b _ _ ncp hc, hlen, h1, h2, h3⟩ b (hP.kp b)
    refine ⟨_, rfl, p, _, rfl, gl _ hd, _, _, rfl, rfl, _, rfl, ?_⟩
    refine iteD (fun hl0 => ?_) (fun hl0 => ?_)
    · refine ⟨_, rfl, p, _, rfl, gl _ hd, _, rfl, _, _, rfl, rfl, hm, ?_⟩
      refine ⟨_, rfl, p, _, rfl, gl _ hd, _, rfl, _, _, rfl, rfl, ⟨hm, by omega⟩, ?_⟩
      refine ⟨_, rfl, p, _, rfl, dl _ _ _ _ hd, _, rfl, ?_⟩
      exact fin _ _ _ _ but_upd upd_same ha (by omega) (Int.ediv_nonneg hl (by omega)) (Int.emod_nonneg _ (by omega)) (Int.emod_lt_of_pos _ hm)
    · refine ⟨_, rfl, p, _, rfl, ga _ hd, ?_⟩
      refine ⟨_, rfl, _, _, rfl, rfl, _, rfl, p, _, rfl, da _ _ _ _ hd, ?_⟩
      generalize hH1 : upd H p (.dK (penD c (a + 1) l)) = H1
      have b1 : But p H H1 := by rw [← hH1]; exact but_upd
      have e1 : H1 p = some (.dK (penD c (a + 1) l)) := by rw [← hH1]; exact upd_same
      clear hH1
      have hc1 := b1 _ _ ncp hc
      have hsz : ns.length < sizeLine := Nat.lt_of_le_of_lt hlen (by decide)
      refine ⟨_, rfl, _, rfl, _, _, rfl, rfl, .inl ⟨by omega, by omega⟩, _, _, rfl, rfl, ?_⟩
      refine ⟨_, rfl, p, _, rfl, gc _ _ _ e1, Nat.zero_le _, fun q H2 nq s2 e2 => ?_⟩
      have e1' := s2 _ _ e1
      have hc2 := s2 _ _ hc1
      have b2 : But p H H2 := b1.trans (same_but s2)
      refine ⟨_, _, .lst (SqL.of hc2) (dp_ints ns), .lst (SqL.of e2) .nil, shaped_ints ns, shaped_nil, _, rfl, ?_⟩
      refine iteNe (fun hne => ?g1) (fun hne => ?g2)
      case' g1 =>
        have hpos : 0 < ns.length := by cases ns with | nil => exact absurd rfl hne | cons x r => simp
        have h0 : (0 : Int) ≤ a % (ns.length : Int) := Int.emod_nonneg _ (by omega)
        have h1 : a % (ns.length : Int) < (ns.length : Int) := Int.emod_lt_of_pos _ (by omega)
        obtain ⟨z, hz⟩ := atI_int (xs := ns.map V.int) rfl h0 h1
        refine ⟨_, rfl, p, _, rfl, gc _ _ _ e1', _, rfl, _, rfl, p, _, rfl, gc _ _ _ e1', c, _, rfl, .inl (SqL.of hc2), _, _, rfl, rfl, (by rw [List.length_map]; show (0 : Int) < (ns.length : Int); omega), c, _, _, _, rfl, rfl, SqL.of hc2, (by rw [List.length_map]; exact hz), ?_⟩
      all_goals
        -- the place is within the list, and the number great: its digits
        refine ⟨_, rfl, _, rfl, p, _, rfl, gc _ _ _ e1', c, _, rfl, .inl (SqL.of hc2), _, _, rfl, rfl, _, rfl, ?_⟩
        refine iteD (fun h1 => ?_) (fun h1 => ?_)
        · refine ⟨_, rfl, _, rfl, _, _, rfl, rfl, ⟨by decide, by decide, by decide⟩, _, _, rfl, rfl, _, rfl, ?_⟩
          refine iteD (fun h2 => ?_) (fun h2 => ?_)
          · refine ⟨_, rfl, _, rfl, _, rfl, _, _, rfl, rfl, ⟨hm, by omega⟩, _, rfl, p, _, rfl, dl _ _ _ _ e1', ?_⟩
            refine ⟨_, rfl, _, rfl, _, rfl, _, _, rfl, rfl, hm, ?_⟩
            exact fin _ _ _ _ (b2.trans but_upd) upd_same (by omega) (by omega) (Int.ediv_nonneg (absI _) (by omega)) (Int.emod_nonneg _ (by omega)) (Int.emod_lt_of_pos _ hm)
          · skip
            refine ⟨_, rfl, _, _, rfl, rfl, by show (0 : Int) < 4294967311; decide, _, rfl, _, _, rfl, rfl, .inl ⟨by decide, by decide⟩, _, _, rfl, rfl, _, _, rfl, rfl, _, _, rfl, rfl, .inr ⟨by decide, by decide⟩, _, _, rfl, rfl, by show (0 : Int) < 4294967311; decide, ?_⟩
            refine ⟨3, rfl, by decide, by decide, for_range (n := 3) (fun i σ H' => ∃ (v : Option V) (x : Int) (y z : Option V), σ = [some (.ref p), some (.int m), v, some (.int a), z, some (.int x), y] ∧ H' = H2 ∧ 0 ≤ x ∧ x < 4294967311)
              ⟨_, _, _, _, rfl, rfl, Int.emod_nonneg _ (by decide), Int.emod_lt_of_pos _ (by decide)⟩ ?_ ?_⟩
            · rintro i σ H' hi ⟨v, x, y, z, rfl, rfl, hx0, hx1⟩
              refine ⟨_, rfl, _, rfl, _, _, rfl, rfl, .inl ⟨by omega, by omega⟩, _, rfl, _, _, rfl, rfl, .inl ⟨by decide, by decide⟩, _, _, rfl, rfl, _, rfl, _, _, rfl, rfl, _, rfl, _, _, rfl, rfl, ?_⟩
              refine ⟨_, rfl, _, _, rfl, rfl, by show (0 : Int) < 4294967311; decide, ?_⟩
              exact ⟨_, _, _, _, rfl, rfl, Int.emod_nonneg _ (by decide), Int.emod_lt_of_pos _ (by decide)⟩
            · rintro σ H' ⟨v, x, y, z, rfl, rfl, hx0, hx1⟩
              refine ⟨_, rfl, _, _, rfl, rfl, ⟨by decide, by decide⟩, _, rfl, _, _, rfl, rfl, hm, ?_⟩
              exact fin _ _ _ _ b2 e1' (by omega) (by omega) hl (Int.emod_nonneg _ (by omega)) (Int.emod_lt_of_pos _ hm)
        · skip
          refine ⟨_, rfl, _, _, rfl, rfl, by show (0 : Int) < 4294967311; decide, _, rfl, _, _, rfl, rfl, .inl ⟨by decide, by decide⟩, _, _, rfl, rfl, _, _, rfl, rfl, _, _, rfl, rfl, .inr ⟨by decide, by decide⟩, _, _, rfl, rfl, by show (0 : Int) < 4294967311; decide, ?_⟩
          refine ⟨3, rfl, by decide, by decide, for_range (n := 3) (fun i σ H' => ∃ (v : Option V) (x : Int) (y z : Option V), σ = [some (.ref p), some (.int m), v, some (.int a), z, some (.int x), y] ∧ H' = H2 ∧ 0 ≤ x ∧ x < 4294967311)
            ⟨_, _, _, _, rfl, rfl, Int.emod_nonneg _ (by decide), Int.emod_lt_of_pos _ (by decide)⟩ ?_ ?_⟩
          · rintro i σ H' hi ⟨v, x, y, z, rfl, rfl, hx0, hx1⟩
            refine ⟨_, rfl, _, rfl, _, _, rfl, rfl, .inl ⟨by omega, by omega⟩, _, rfl, _, _, rfl, rfl, .inl ⟨by decide, by decide⟩, _, _, rfl, rfl, _, rfl, _, _, rfl, rfl, _, rfl, _, _, rfl, rfl, ?_⟩
            refine ⟨_, rfl, _, _, rfl, rfl, by show (0 : Int) < 4294967311; decide, ?_⟩
            exact ⟨_, _, _, _, rfl, rfl, Int.emod_nonneg _ (by decide), Int.emod_lt_of_pos _ (by decide)⟩
          · rintro σ H' ⟨v, x, y, z, rfl, rfl, hx0, hx1⟩
            refine ⟨_, rfl, _, _, rfl, rfl, ⟨by decide, by decide⟩, _, rfl, _, _, rfl, rfl, hm, ?_⟩
            exact fin _ _ _ _ b2 e1' (by omega) (by omega) hl (Int.emod_nonneg _ (by omega)) (Int.emod_lt_of_pos _ hm)
def sp__law_number (T : Txt K mg) : Sp := fun vs H Q _ => spNumber vs H Q (fun _ _ _ => False)
theorem ok__law_number (T : Txt K mg) (hw : T.PP = w.params) : FnOk P w K mg base CX0 3 T.f__law_number T.fd__law_number ["pen"] (sp__law_number T) := by
  refine okD T.F__law_number sc__law_number (fun vs H Q E h => ?_) (fun cdv A outer s H vs Q E hr h => ?_)
  · obtain ⟨_, _, rfl, _⟩ := h; rfl
  · have hu := hu_of hr
    have hu64 := hr.units
    refine ⟨_, pss_one (ps_ret (pe_ix ix_list (pe_lstY (pa_cons (pe_call (ok__law_draw (P := P) (w := w) (base := base) T hw) (hr.mono (by decide)) rfl T.mg__law_draw T.F__law_draw.kp (T.b__law_draw) .nil pass0 (pa_cons (pv 0) (pa_cons pe_int pa_nil))) (pa_cons (pe_call (ok__law_draw (P := P) (w := w) (base := base) T hw) (hr.mono (by decide)) rfl T.mg__law_draw T.F__law_draw.kp (T.b__law_draw) .nil pass0 (pa_cons (pv 0) (pa_cons pe_int pa_nil))) (pa_cons (pe_call (ok__law_draw (P := P) (w := w) (base := base) T hw) (hr.mono (by decide)) rfl T.mg__law_draw T.F__law_draw.kp (T.b__law_draw) .nil pass0 (pa_cons (pv 0) (pa_cons (pe_op op_pow pe_int pe_int) pa_nil))) pa_nil)))) (pe_call (ok__law_draw (P := P) (w := w) (base := base) T hw) (hr.mono (by decide)) rfl T.mg__law_draw T.F__law_draw.kp (T.b__law_draw) .nil pass0 (pa_cons (pv 0) (pa_cons pe_int pa_nil))) (fun _ _ => rfl))), ?_⟩
    obtain ⟨p, n, rfl, hP, hn, k⟩ := h
    refine ⟨_, rfl, p, 4, n, rfl, hP, by omega, by decide, by decide, fun d1 H1 a1 c1 P1 b1 k1 => ?_⟩
    refine ⟨_, rfl, p, 300, _, rfl, P1, by omega, by decide, by decide, fun d2 H2 a2 c2 P2 b2 k2 => ?_⟩
    refine ⟨_, rfl, _, _, rfl, rfl, ⟨by decide, by decide, by decide⟩, p, _, _, rfl, P2, by omega, by decide, by decide, fun d3 H3 a3 c3 P3 b3 k3 => ?_⟩
    refine ⟨by show 3 ≤ sizeLine; decide, fun q H4 nq s4 e4 => ?_⟩
    refine ⟨_, rfl, p, 3, _, rfl, P3.same s4, by omega, by decide, by decide, fun d5 H5 a5 c5 P5 b5 k5 => ?_⟩
    have c3' : d3 < 10 ^ 15 := c3
    obtain ⟨v, hv, z, rfl, z0, z1⟩ := atI_all (P := fun v => ∃ z : Int, v = .int z ∧ 0 ≤ z ∧ z < 10 ^ 15) (xs := [.int d1, .int d2, .int d3]) (i := d5)
      (by intro x hx; simp at hx; rcases hx with rfl | rfl | rfl
          · exact ⟨_, rfl, by omega, by omega⟩
          · exact ⟨_, rfl, by omega, by omega⟩
          · exact ⟨_, rfl, by omega, by omega⟩) a5 c5
    refine ⟨q, _, _, _, rfl, rfl, SqL.of (k5.lst e4), hv, ?_⟩
    have b4 : But p H3 H4 := same_but s4
    exact k z H5 z0 z1 (P5.mono (by omega)) ((((b1.trans b2).trans b3).trans b4).trans b5) (((((k1.trans k2).trans k3).trans (same_kp s4))).trans k5)
/-- a weight at a value -/
def WV (T : Txt K mg) (H : Hp) (v : V) (n : Int) : Prop := ∃ a dx, v = .ref a ∧ H a = some (.ins T.C_Weight dx (fs_Weight (.int n)))
theorem WV.kp {T : Txt K mg} {H H' : Hp} {v : V} {n : Int} (k : Kp H H') (h : WV T H v n) : WV T H' v n := let ⟨a, dx, e, z⟩ := h; ⟨a, dx, e, k.ins z⟩
theorem WV.same {T : Txt K mg} {H H' : Hp} {v : V} {n : Int} (k : Same H H') (h : WV T H v n) : WV T H' v n := h.kp (same_kp k)
def MkW (T : Txt K mg) (H : Hp) (Q : VK) (n : Int) : Prop := ∀ (v : V) (H' : Hp), Same H H' → WV T H' v n → Q v H'
theorem TyX.weight {T : Txt K mg} {H : Hp} {a dx : Addr} {fs : List (Str × V)} (h : H a = some (.ins T.C_Weight dx fs)) : TyX K H (.ref a) (.ref T.C_Weight) := .base (.ins h T.cl_Weight T.ha_Weight T.hn T.ht T.mo_Weight)
theorem lit_sp1 : (" " : Str).length = 1 := by decide +kernel
theorem big30 {n : Int} (h0 : 0 ≤ n) (h : n < 10 ^ 30) : n.natAbs.log2 < 1920 := log_small (by omega) (by omega)
theorem sum_le {ys : List Str} {n : Nat} (h : ∀ y ∈ ys, y.length ≤ n) : (ys.map (·.length)).sum ≤ ys.length * n := by
  induction ys with
  | nil => exact Nat.zero_le _
  | cons y r ih =>
    have h1 := h y List.mem_cons_self
    have h2 := ih fun z hz => h z (List.mem_cons_of_mem _ hz)
    rw [List.map_cons, List.sum_cons, List.length_cons, Nat.add_mul]
    omega
theorem units_take {i : Nat} {u : Str} {c : Int} (h : units[i]? = some (u, c)) : units.take (i + 1) = units.take i ++ [(u, c)] := take_more h
theorem units_pos : ∀ p ∈ units, 0 < p.2 := by decide +kernel
theorem units_short : ∀ p ∈ units, p.1.length ≤ 4 ∧ 0 < p.2 ∧ p.2 < 1000 := by decide +kernel
theorem writ_parts {n : Int} (h0 : 0 ≤ n) (h1 : n < 10 ^ 30) : (((cs n).map tx).map (·.length)).sum ≤ ((cs n).map tx).length * 100 ∧ ((cs n).map tx).length ≤ 3 := by
  refine ⟨sum_le fun y hy => ?_, by rw [List.length_map]; exact cs_len n⟩
  obtain ⟨p, hp, rfl⟩ := List.mem_map.mp hy
  obtain ⟨g1, g2⟩ := cs_good h0 p hp
  have hle : p.1 ≤ n := go_le h0 p hp
  have := num_len (i := p.1) g1 (by omega)
  have h4 : p.2.1.length ≤ 4 := (units_short _ g2).1
  unfold tx num
  rw [str_len, str_len, lit_sp1]
  omega
theorem writ_len {n : Int} (h0 : 0 ≤ n) (h1 : n < 10 ^ 30) : (writ n).length ≤ 2000 := by
  obtain ⟨h2, h3⟩ := writ_parts h0 h1
  exact Nat.le_trans (PyProof.Rows.len_join_le (n := ((cs n).map tx).length * 100 + ((cs n).map tx).length) (show (((cs n).map tx).map (·.length)).sum + ((cs n).map tx).length ≤ _ from by omega) (by decide +kernel)) (by omega)
def sp_Weight_init (T : Txt K mg) : Sp := fun vs H Q _ => ∃ (x dx : Addr) (p o d : Int), vs = [.ref x, .int p, .int o, .int d] ∧ H x = some (.ins T.C_Weight dx []) ∧ ∀ H', But x H H' → H' x = some (.ins T.C_Weight dx (fs_Weight (.int (p * 256 + o * 16 + d)))) → Q .non H'
theorem ok_Weight_init (T : Txt K mg) (hw : T.PP = w.params) : FnOk P w K mg base CX0 2 T.f_Weight_init T.fd_Weight_init ["self", "pounds", "ounces", "drams"] (sp_Weight_init T) := by
  refine okD T.F_Weight_init sc_Weight_init (fun vs H Q E h => ?_) (fun cdv A outer s H vs Q E hr h => ?_)
  · obtain ⟨_, _, _, _, _, rfl, _⟩ := h; rfl
  · have hu := hu_of hr
    have hu64 := hr.units
    refine ⟨_, pss_one (ps_fldY (pv 0) (pe_op op_add (pe_op op_add (pe_op op_mul (pv 1) (pe_ix ix_kdict (pe_glob (v := .ref T.D_DRAMS_IN) rfl T.gd_DRAMS_IN rfl) pe_str (fun _ _ => rfl))) (pe_op op_mul (pv 2) (pe_ix ix_kdict (pe_glob (v := .ref T.D_DRAMS_IN) rfl T.gd_DRAMS_IN rfl) pe_str (fun _ _ => rfl)))) (pv 3)) rfl), ?_⟩
    obtain ⟨x, dx, p, o, d, rfl, hx, k⟩ := h
    refine ⟨_, rfl, T.D_DRAMS_IN, _, _, rfl, rfl, T.kd_DRAMS_IN_lb hw, _, _, rfl, rfl, .inr ⟨by decide, by decide⟩, ?_⟩
    refine ⟨_, rfl, T.D_DRAMS_IN, _, _, rfl, rfl, T.kd_DRAMS_IN_oz hw, _, _, rfl, rfl, .inr ⟨by decide, by decide⟩, _, _, rfl, rfl, ?_⟩
    refine ⟨_, rfl, _, _, rfl, rfl, _, rfl, x, _, dx, _, rfl, hx, T.cl_Weight, T.na_Weight_drams, by show 0 < 1000; decide, fun H1 b1 e1 => ?_⟩
    exact k H1 b1 e1
def sp_Weight_eq (T : Txt K mg) : Sp := fun vs H Q _ => ∃ (x y : V) (n : Int), vs = [x, y] ∧ WV T H x n ∧ ((∃ m, WV T H y m ∧ Q (.bl (decide (n = m))) H) ∨ (∃ t, TyX K H y t ∧ PySem.W.kitOne K t (.ref T.C_Weight) = some false ∧ Q (.bl false) H))
theorem ok_Weight_eq (T : Txt K mg) (hw : T.PP = w.params) : FnOk P w K mg base CX0 2 T.f_Weight_eq T.fd_Weight_eq ["self", "other"] (sp_Weight_eq T) := by
  refine okD T.F_Weight_eq sc_Weight_eq (fun vs H Q E h => ?_) (fun cdv A outer s H vs Q E hr h => ?_)
  · obtain ⟨_, _, _, rfl, _⟩ := h; rfl
  · have hu := hu_of hr
    have hu64 := hr.units
    refine ⟨_, pss_one (ps_ret (pe_and (pe_callB call_isi (by rfl) T.b_isinstance (by decide +kernel) (pa_cons (pv 1) (pa_cons (pe_glob (v := .ref T.C_Weight) rfl T.mgc_Weight rfl) pa_nil))) (pe_one (pe_cmpR op_eq (pe_fld (pv 0) (by rfl)) (pe_fld (pv 1) (by rfl)) (nomark _))))), ?_⟩
    obtain ⟨x, y, n, rfl, ⟨a, dx, rfl, hx⟩, h⟩ := h
    rcases h with ⟨m, ⟨b, dy, rfl, hy⟩, k⟩ | ⟨t, ht, hk, k⟩
    · refine ⟨_, rfl, _, _, _, _, true, rfl, .own _, TyX.weight hy, T.ki_Weight_own, _, rfl, ?_⟩
      refine iteT ?_
      refine ⟨_, rfl, a, _, dx, _, _, rfl, hx, T.cl_Weight, T.na_Weight_drams, fs_Weight_drams _, _, rfl, b, _, dy, _, _, rfl, hy, T.cl_Weight, T.na_Weight_drams, fs_Weight_drams _, rfl, ?_⟩
      rw [dec_int]
      exact k
    · refine ⟨_, rfl, _, _, _, _, false, rfl, .own _, ht, hk, _, rfl, ?_⟩
      exact iteF k
def sp_written_parts (T : Txt K mg) : Sp := fun vs H Q _ => ∃ (n : Int), vs = [.int n] ∧ 0 ≤ n ∧ n < 10 ^ 30 ∧ ∀ (p : Addr) (H' : Hp), Same H H' → H' p = some (.lst (((cs n).map tx).map V.str)) → Q (.ref p) H'
theorem ok_written_parts (T : Txt K mg) (hw : T.PP = w.params) : FnOk P w K mg base CX0 2 T.f_written_parts T.fd_written_parts ["drams"] (sp_written_parts T) := by
  refine okD T.F_written_parts sc_written_parts (fun vs H Q E h => ?_) (fun cdv A outer s H vs Q E hr h => ?_)
  · obtain ⟨_, rfl, _⟩ := h; rfl
  · have hu := hu_of hr
    have hu64 := hr.units
    refine ⟨_, pss_cons (ps_set (i := 1) sc_written_parts.nd rfl (Or.inl rfl) (pe_lstY pa_nil))
      (pss_cons (ps_set (i := 2) sc_written_parts.nd rfl (Or.inl rfl) (pv 0))
      (pss_cons (ps_for PassesOwn.never rfl (pi_written T.lD_DRAMS_IN T.lo_DRAMS_IN T.ro_DRAMS_IN (pe_glob (v := .ref T.D_DRAMS_IN) rfl T.gd_DRAMS_IN rfl)) (pg_tup (by rfl) (pgs_cons (pg_name (i := 3) sc_written_parts.nd rfl (Or.inl rfl)) (pgs_cons (pg_name (i := 4) sc_written_parts.nd rfl (Or.inl rfl)) pgs_nil))) (pss_cons (ps_asg (pe_callB call_divmodY (by rfl) T.b_divmod (by decide +kernel) (pa_cons (pv 2) (pa_cons (pv 4) pa_nil))) (pg_tup (by rfl) (pgs_cons (pg_name (i := 5) sc_written_parts.nd rfl (Or.inl rfl)) (pgs_cons (pg_name (i := 2) sc_written_parts.nd rfl (Or.inl rfl)) pgs_nil))))
      (pss_one (ps_if (pt_cmpR op_gt (pv 5) pe_int (nomark _)) (pss_one (ps_expr (pe_bm PySem.F.plainAttrs_list PySem.F.slot_list_append PySem.F.type_list_append mt_appendY (pv 1) (pa_cons (pe_joined (.cons (pe_fmt (pv 5)) (.cons pe_str (.cons (pe_fmt (pv 3)) .nil)))) pa_nil)))) pss_nil))))
      (pss_one (ps_ret (pe_orT (pv 1) (pe_one (pe_lstY (pa_cons pe_str pa_nil)))))))), ?_⟩
    obtain ⟨n, rfl, n0, n1, k⟩ := h
    refine ⟨by show 0 ≤ sizeLine; exact Nat.zero_le _, fun p H1 np s1 e1 => ?_⟩
    refine ⟨_, rfl, rfl, ?_⟩
    refine for_written (fun i σ H' => ∃ (v3 v4 v5 : Option V), σ = [some (.int n), some (.ref p), some (.int (lef (units.take i) n)), v3, v4, v5] ∧ Same H H' ∧ H' p = some (.lst (((go (units.take i) n).map tx).map V.str))) ⟨_, _, _, rfl, s1, e1⟩ ?_ ?_
    · rintro i u wv σ H2 Tp H3 hi ⟨v3, v4, v5, rfl, s2, e2⟩ nT s3 eT
      obtain ⟨us, c, rfl, rfl, hu⟩ : ∃ (us : Str) (c : Int), u = .str us ∧ wv = .int c ∧ units[i]? = some (us, c) := by
        have hi3 : i < 3 := (List.getElem?_eq_some_iff.mp hi).1
        match i, hi3 with
        | 0, _ => cases hi; exact ⟨_, _, rfl, rfl, rfl⟩
        | 1, _ => cases hi; exact ⟨_, _, rfl, rfl, rfl⟩
        | 2, _ => cases hi; exact ⟨_, _, rfl, rfl, rfl⟩
      have hi3 : i < 3 := (List.getElem?_eq_some_iff.mp hi).1
      obtain ⟨hu4, c0, c1⟩ := units_short _ (List.mem_of_getElem? hu)
      have l0 := lef_nn (units.take i) n (fun q hq => units_pos q (List.mem_of_mem_take hq)) n0
      have l1 := lef_le (units.take i) n (fun q hq => units_pos q (List.mem_of_mem_take hq)) n0
      have gl : (go (units.take i) n).length ≤ i := go_len _ _ (by rw [List.length_take]; exact Nat.min_le_left _ _)
      have eg := go_snoc (u := us) (c := c) (units.take i) n
      have el := lef_snoc (u := us) (c := c) (units.take i) n
      rw [← units_take hu] at eg el
      have c0' : 0 < c := c0
      have c1' : c < 1000 := c1
      refine ⟨Tp, _, rfl, SqT.of eT, rfl, _, _, rfl, _, _, rfl, rfl, ?_⟩
      refine ⟨_, rfl, _, rfl, _, _, rfl, ⟨c0', by omega⟩, fun q H4 nq s4 e4 => ⟨q, _, rfl, SqT.of e4, rfl, _, _, rfl, _, _, rfl, rfl, ?_⟩⟩
      have d0 : 0 ≤ lef (units.take i) n / c := Int.ediv_nonneg l0 (by omega)
      have d1 : lef (units.take i) n / c ≤ lef (units.take i) n := Int.ediv_le_self c l0
      refine ⟨_, rfl, _, _, rfl, rfl, _, rfl, ?_⟩
      have e4' := s4 _ _ (s3 _ _ e2)
      have sH := (s2.trans s3).trans s4
      refine iteD (fun hm => ?_) (fun hm => ?_)
      · have nl := num_len (i := lef (units.take i) n / c) d0 (by omega)
        have hu4' : us.length ≤ 4 := hu4
        refine ⟨_, rfl, (.inl ⟨rfl, _, SqL.of e4'⟩), _, rfl, .inr ⟨_, rfl, big30 d0 (by omega), _, rfl, line_big ?_, _, rfl, line_big ?_, _, rfl, .inl ⟨_, rfl, line_big (by omega), _, rfl, line_big ?_, ?_⟩⟩⟩
        · rw [Str.empty_append]; omega
        · rw [Str.empty_append, str_len, lit_sp1]; omega
        · rw [Str.empty_append, str_len, str_len, lit_sp1]; omega
        refine ⟨p, _, _, rfl, rfl, e4', by rw [List.length_map, List.length_map]; exact small1000 (by omega), fun H5 b5 e5 => ?_⟩
        rw [if_pos hm] at eg
        refine ⟨some (.str us), some (.int c), some (.int (lef (units.take i) n / c)), by rw [el]; rfl, fun b o z => b5 b o (ne_of_none z np) (sH b o z), ?_⟩
        rw [eg, List.map_append, List.map_append]
        rw [Str.empty_append] at e5
        exact e5
      · rw [if_neg hm, List.append_nil] at eg
        refine ⟨some (.str us), some (.int c), some (.int (lef (units.take i) n / c)), by rw [el]; rfl, sH, ?_⟩
        rw [eg]
        exact e4'
    · rintro σ H2 ⟨v3, v4, v5, rfl, s2, e2⟩
      have e2' : H2 p = some (.lst (((go units n).map tx).map V.str)) := e2
      refine ⟨_, rfl, _, .inl ⟨_, SqL.of e2', rfl⟩, ?_⟩
      cases hg : go units n with
      | nil =>
        refine iteF ⟨by show 1 ≤ sizeLine; decide, fun q H3 nq s3 e3 => ?_⟩
        refine k q H3 (s2.trans s3) ?_
        unfold cs
        rw [hg]
        show H3 q = some (.lst [V.str (tx (0, "dr", 1))])
        rw [tx_zero]
        exact e3
      | cons a r =>
        refine iteT (k p H2 s2 ?_)
        unfold cs
        rw [hg] at e2' ⊢
        exact e2'
def sp_Weight_str (T : Txt K mg) : Sp := fun vs H Q _ => ∃ (x : V) (n : Int), vs = [x] ∧ WV T H x n ∧ 0 ≤ n ∧ n < 10 ^ 30 ∧ ∀ (H' : Hp), Same H H' → Q (.str (writ n)) H'
theorem ok_Weight_str (T : Txt K mg) (hw : T.PP = w.params) : FnOk P w K mg base CX0 3 T.f_Weight_str T.fd_Weight_str ["self"] (sp_Weight_str T) := by
  refine okD T.F_Weight_str sc_Weight_str (fun vs H Q E h => ?_) (fun cdv A outer s H vs Q E hr h => ?_)
  · obtain ⟨_, _, rfl, _⟩ := h; rfl
  · have hu := hu_of hr
    have hu64 := hr.units
    refine ⟨_, pss_one (ps_ret (pe_join pe_str (pe_call (ok_written_parts (P := P) (w := w) (base := base) T hw) (hr.mono (by decide)) rfl T.mg_written_parts T.F_written_parts.kp (T.b_written_parts) .nil pass0 (pa_cons (pe_fld (pv 0) (by rfl)) pa_nil)))), ?_⟩
    obtain ⟨x, n, rfl, ⟨a, dx, rfl, hx⟩, n0, n1, k⟩ := h
    refine ⟨⟨_, rfl⟩, _, rfl, a, _, dx, _, _, rfl, hx, T.cl_Weight, T.na_Weight_drams, fs_Weight_drams _, n, rfl, n0, n1, fun p H' s' e' => ?_⟩
    refine ⟨_, p, _, rfl, rfl, .inl (SqL.of e'), ?_, ?_⟩
    · obtain ⟨h2, h3⟩ := writ_parts n0 n1
      have e1 : (" " : Str).length = 1 := by decide +kernel
      rw [e1]
      omega
    · exact k H' s'
def sp_are_figures (T : Txt K mg) : Sp := fun vs H Q _ => ∃ (m : Str), vs = [.str m, .int 12] ∧ m.length ≤ sizeLine ∧ Q (.bl (fig m)) H
theorem ok_are_figures (T : Txt K mg) (hw : T.PP = w.params) : FnOk P w K mg base CX0 1 T.f_are_figures T.fd_are_figures ["word", "most"] (sp_are_figures T) := by
  refine okD T.F_are_figures sc_are_figures (fun vs H Q E h => ?_) (fun cdv A outer s H vs Q E hr h => ?_)
  · obtain ⟨_, rfl, _⟩ := h; rfl
  · have hu := hu_of hr
    have hu64 := hr.units
    refine ⟨_, pss_one (ps_ret (pe_and (pe_cmpR op_le (pe_callB call_len_str (by rfl) T.b_len PySem.boot_len (pa_cons (pv 0) pa_nil)) (pv 1) (nomark _)) (pe_and (pe_m0 PySem.F.slot_str_isascii PySem.F.type_str_isascii mt_isascii (pv 0)) (pe_one (pe_m0 PySem.F.slot_str_isdigit PySem.F.type_str_isdigit mt_isdigit (pv 0)))))), ?_⟩
    obtain ⟨m, rfl, hm, k⟩ := h
    refine ⟨_, rfl, _, rfl, hm, _, rfl, _, _, rfl, rfl, _, rfl, ?_⟩
    unfold fig at k
    refine iteD (fun h1 => ?_) (fun h1 => ?_)
    · rw [decide_eq_true (show m.length ≤ 12 by omega), Bool.true_and] at k
      refine ⟨_, rfl, ⟨_, rfl⟩, _, rfl, rfl, trivial, _, rfl, ?_⟩
      refine iteB (fun h2 => ?_) (fun h2 => ?_)
      · rw [h2, Bool.true_and] at k
        exact ⟨_, rfl, ⟨_, rfl⟩, _, rfl, rfl, trivial, k⟩
      · rw [h2, Bool.false_and] at k
        exact k
    · rw [decide_eq_false (show ¬ m.length ≤ 12 by omega), Bool.false_and] at k
      exact k
def sp_Unread_init (T : Txt K mg) : Sp := fun vs H Q _ => ∃ (a : Addr) (z : Str), vs = [.ref a, .str z] ∧ H a = some (exo a T.C_Unread none) ∧ (reprText z).length ≤ 900000 ∧
  ∀ d H', But a H H' → H d = none → H' a = some (exo a T.C_Unread (some d)) → H' d = some (exd d [("text", .str z)]) → Q .non H'
theorem ok_Unread_init (T : Txt K mg) (hw : T.PP = w.params) : FnOk P w K mg base CX0 2 T.f_Unread_init T.fd_Unread_init ["self", "text"] (sp_Unread_init T) := by
  refine okD T.F_Unread_init sc_Unread_init (fun vs H Q E h => ?_) (fun cdv A outer s H vs Q E hr h => ?_)
  · obtain ⟨_, _, rfl, _⟩ := h; rfl
  · have hu := hu_of hr
    have hu64 := hr.units
    refine ⟨_, pss_cons (ps_expr (pe_erI (B := "ValueError") (nI := "ValueError.__new__") (iI := "ValueError.__init__") (bmB := [.type "ValueError", .type "Exception", .type "BaseException", .type "object"]) (by rfl) T.b_ValueError (by decide +kernel) (PySem.W.kitMeta_of (by decide +kernel)) T.vi_ValueError (pa_cons (pv 0) (pa_cons (pe_joined (.cons pe_str (.cons (pe_fmtR (pv 1)) .nil))) pa_nil))))
      (pss_one (ps_erP (B := "ValueError") (nI := "ValueError.__new__") (iI := "ValueError.__init__") (bmB := [.type "ValueError", .type "Exception", .type "BaseException", .type "object"]) (pv 0) (pv 1))), ?_⟩
    obtain ⟨a, z, rfl, ha, hz, k⟩ := h
    refine ⟨_, rfl, _, rfl, line_big (by decide +kernel), _, rfl, .inl ⟨z, rfl, line_big (by omega), _, rfl, line_big ?_, ?_⟩⟩
    · rw [Str.empty_append, str_len]
      have : ("can't be read: " : Str).length = 15 := by decide +kernel
      omega
    refine ⟨a, T.C_Unread, _, rfl, by simp, T.er_Unread, ha, ?_⟩
    refine ⟨_, rfl, _, rfl, a, T.C_Unread, rfl, T.er_Unread, T.na_Unread_text, .inl ⟨ha, fun d H2 nd b2 e2 ed => ?_⟩⟩
    exact k d H2 b2 nd e2 ed
/-- the error that tells the text z -/
def Refuses (T : Txt K mg) (H : Hp) (E : XK) (z : Str) : Prop := (reprText z).length ≤ 900000 ∧ ∀ (d : Addr) (H' : Hp), Same H H' → H' d = some (.xd [("text", .str z)]) → E (.ref T.C_Unread) (some d) H'
theorem Refuses.same {T : Txt K mg} {H H1 : Hp} {E : XK} {z : Str} (s : Same H H1) (h : Refuses T H E z) : Refuses T H1 E z := ⟨h.1, fun d H' s' e => h.2 d H' (s.trans s') e⟩
theorem Refuses.go {T : Txt K mg} {H : Hp} {E : XK} {z : Str} (h : Refuses T H E z) {σ : L2.St} {i : Nat} (hi : σ[i]? = some (some (.str z))) : tErM T.C_Unread (sp_Unread_init T) [] (tCons (tVar i) tNil) σ H (fun cls d H' => E cls d H') :=
  ⟨_, hi, by simp, fun e4 H4 n4 s4 h4 => ⟨e4, z, rfl, h4, h.1, fun d H5 b5 nd e5 ed => ⟨rfl, d, _, b5, e5, ed, nd, fun H6 s6 k6 e6 => h.2 d _ s6 e6⟩⟩⟩
def sp_drams_told (T : Txt K mg) : Sp := fun vs H Q E => ∃ (z : Str), vs = [.str z] ∧ z.length ≤ 100000 ∧ (∀ v, told 0 (prs z) = some v → ∀ H', Same H H' → Q (.int v) H') ∧ (told 0 (prs z) = none → Refuses T H E z)
theorem ok_drams_told (T : Txt K mg) (hw : T.PP = w.params) : FnOk P w K mg base (L2.CX P w) 4 T.f_drams_told T.fd_drams_told ["text"] (sp_drams_told T) := by
  refine T.F_drams_told.ok sc_drams_told (fun vs H Q E h => ?_) (fun cdv A outer s H vs Q E hr h => ?_)
  · obtain ⟨_, rfl, _⟩ := h; rfl
  · have hu := hu_of hr
    have hu64 := hr.units
    obtain ⟨u_MOST_FIGURES, gu_MOST_FIGURES, gr_MOST_FIGURES⟩ := T.g_MOST_FIGURES
    refine ⟨_, pss_cons (ps_set (i := 1) sc_drams_told.nd rfl (Or.inl rfl) (pe_splitY (pv 0) pe_str))
      (pss_cons (ps_set (i := 2) sc_drams_told.nd rfl (Or.inl rfl) pe_int)
      (pss_cons (ps_for (passes_of rfl) rfl (pi_zip (by rfl) T.b_zip (pa_cons (pe_ev (pv 1)) (pa_cons (pe_od (pv 1)) pa_nil))) (pg_tup (by rfl) (pgs_cons (pg_name (i := 3) sc_drams_told.nd rfl (Or.inl rfl)) (pgs_cons (pg_name (i := 4) sc_drams_told.nd rfl (Or.inl rfl)) pgs_nil))) (pss_cons (ps_if (PW.pt (pw_or (pt_cmpR (op_notIn_kd ⟨T.lD_DRAMS_IN, hw ▸ T.kl_DRAMS_IN, T.lo_DRAMS_IN⟩) (pv 4) (pe_glob (v := .ref T.D_DRAMS_IN) rfl T.gd_DRAMS_IN rfl) (by rfl)) (pw_or1 (pt_not (pt_val (pe_call (ok_are_figures (P := P) (w := w) (base := base) T hw) (hr.mono (by decide)) rfl T.mg_are_figures T.F_are_figures.kp (T.b_are_figures) .nil pass0 (pa_cons (pv 3) (pa_cons (pe_glob rfl gu_MOST_FIGURES gr_MOST_FIGURES) pa_nil)))))))) (pss_one (ps_raise rfl (takes_of rfl rfl rfl rfl) (pmk_er T.er_Unread T.m_Unread_init.at_ T.ti_Unread_init (ok_Unread_init (P := P) (w := w) (base := base) T hw) (hr.mono (by decide)) (T.b_Unread_init) .nil pass0 rfl T.mgc_Unread (pa_cons (pv 0) pa_nil)))) pss_nil)
      (pss_one (ps_aug (i := 2) sc_drams_told.nd rfl (Or.inl rfl) (pe_op op_mul (pe_callTy call_int_str (by rfl) T.b_int (by decide +kernel) (pa_cons (pv 3) pa_nil)) (pe_ix ix_kdict (pe_glob (v := .ref T.D_DRAMS_IN) rfl T.gd_DRAMS_IN rfl) (pv 4) (fun _ _ => rfl))) ip_add))))
      (pss_one (ps_ret (pv 2))))), ?_⟩
    obtain ⟨z, rfl, hz, kQ, kE⟩ := h
    refine ⟨_, rfl, ⟨_, rfl⟩, _, _, rfl, rfl, by decide +kernel, line_big (by omega), fun p H1 np s1 e1 => ?_⟩
    refine ⟨_, rfl, p, _, rfl, SqL.of e1, fun p2 H2 n2 s2 e2 => ⟨_, rfl, p, _, rfl, SqL.of (s2 _ _ e1), fun p3 H3 n3 s3 e3 => ⟨p2, p3, _, _, rfl, SqL.of (s3 _ _ e2), SqL.of e3, ?_⟩⟩⟩
    have sH := (s1.trans s2).trans s3
    refine for_zip2 (fun i σ H' => ∃ (a : Int) (v3 v4 : Option V), σ = [some (.str z), some (.ref p), some (.int a), v3, v4] ∧ Same H3 H' ∧ told 0 (prs z) = told a ((prs z).drop i)) ⟨0, _, _, rfl, Same.refl _, rfl⟩
      (fun i σ H' ⟨_, _, _, _, s, _⟩ => ⟨SqL.of (s _ _ (s3 _ _ e2)), SqL.of (s _ _ e3)⟩) ?_ ?_
    · rintro i x y Tp σ H4 H5 hi ⟨a, v3, v4, rfl, s4, et⟩ nT s5 eT
      rw [zip_prs, List.getElem?_map] at hi
      obtain ⟨⟨m, u⟩, hmu, hxy⟩ := Option.map_eq_some_iff.mp hi
      cases hxy
      have hml := prs_len hmu
      rw [told_drop (a := a) hmu] at et
      refine ⟨Tp, _, rfl, SqT.of eT, rfl, _, _, rfl, _, _, rfl, rfl, ?_⟩
      have s05 := (sH.trans s4).trans s5
      rcases ns_rows (z := u) (r := unitV) T.lD_DRAMS_IN T.rk_DRAMS_IN with ⟨v, uu, hm, hl, hn, hr⟩ | ⟨hl, hn⟩
      · rw [unitV_look] at hl
        obtain ⟨c, hc, rfl⟩ := Option.map_eq_some_iff.mp hl
        obtain ⟨c0, c1⟩ := units_small hc
        refine ⟨_, rfl, u, _, rfl, rfl, hn, _, rfl, ?_⟩
        refine iteF ?_
        refine ⟨_, rfl, m, rfl, line_big (by omega), _, rfl, ?_⟩
        refine iteNB (fun hf => ?_) (fun hf => ?_)
        · exact ((kE (et.trans (told_bad hc hf))).same s05).go rfl
        · obtain ⟨v, hv⟩ := fig_int hf
          have h12 := fig_len hf
          refine ⟨_, rfl, _, rfl, m, v, rfl, hv, by omega, _, rfl, T.D_DRAMS_IN, u, _, rfl, rfl, ⟨T.es_DRAMS_IN, T.n_DRAMS_IN, uu, T.lD_DRAMS_IN, hw ▸ T.kl_DRAMS_IN, hn, hr⟩, _, _, rfl, rfl, .inr ⟨by omega, by omega⟩, _, _, rfl, rfl, ?_⟩
          exact ⟨a + v * c, _, _, rfl, s4.trans s5, et.trans (told_on hc hf hv)⟩
      · rw [unitV_look] at hl
        have hl' : units.lookup u = none := Option.map_eq_none_iff.mp hl
        refine ⟨_, rfl, u, _, rfl, rfl, hn, _, rfl, ?_⟩
        refine iteT ?_
        exact ((kE (et.trans (told_no hl'))).same s05).go rfl
    · rintro σ H' ⟨a, v3, v4, rfl, s4, et⟩
      have ed : (prs z).drop ((ev ((Txt.split z " ").map V.str)).zip (od ((Txt.split z " ").map V.str))).length = [] := by
        rw [zip_prs, List.length_map, List.drop_length]
      rw [ed] at et
      exact ⟨_, rfl, kQ a et H' (sH.trans s4)⟩
def sp_read_weight (T : Txt K mg) : Sp := fun vs H Q E => ∃ (z : Str), vs = [.str z] ∧ z.length ≤ 100000 ∧ (∀ v, told 0 (prs z) = some v → 0 ≤ v ∧ v < 10 ^ 30 ∧ (writ v = z → MkW T H Q v) ∧ (¬ writ v = z → Refuses T H E z)) ∧ (told 0 (prs z) = none → Refuses T H E z)
theorem ok_read_weight (T : Txt K mg) (hw : T.PP = w.params) : FnOk P w K mg base (L2.CX P w) 6 T.f_read_weight T.fd_read_weight ["text"] (sp_read_weight T) := by
  refine T.F_read_weight.ok sc_read_weight (fun vs H Q E h => ?_) (fun cdv A outer s H vs Q E hr h => ?_)
  · obtain ⟨_, rfl, _⟩ := h; rfl
  · have hu := hu_of hr
    have hu64 := hr.units
    obtain ⟨its_bd_Weight_init_0_drams, bd_Weight_init_0_drams⟩ := bd_Weight_init_0_drams T
    refine ⟨_, pss_cons (ps_set (i := 1) sc_read_weight.nd rfl (Or.inl rfl) (pe_makeKY T.mk_Weight (ok_Weight_init (P := P) (w := w) (base := base) T hw) (hr.mono (by decide)) rfl T.mgc_Weight bd_Weight_init_0_drams pass0 (pk_cons (pe_call (ok_drams_told (P := P) (w := w) (base := base) T hw) (hr.mono (by decide)) rfl T.mg_drams_told T.F_drams_told.kp (T.b_drams_told) .nil (passT (takes_of rfl rfl rfl rfl)) (pa_cons (pv 0) pa_nil)) pk_nil)))
      (pss_cons (ps_if (pt_cmpR op_ne (pe_callTy (call_strO (ok_Weight_str (P := P) (w := w) (base := base) T hw) (hr.mono (by decide)) T.m_Weight_str.at_ T.m_Weight_str.fn T.b_Weight_str pass0) (by rfl) T.b_str (by decide +kernel) (pa_cons (pv 1) pa_nil)) (pv 0) (nomark _)) (pss_one (ps_raise rfl (takes_of rfl rfl rfl rfl) (pmk_er T.er_Unread T.m_Unread_init.at_ T.ti_Unread_init (ok_Unread_init (P := P) (w := w) (base := base) T hw) (hr.mono (by decide)) (T.b_Unread_init) .nil pass0 rfl T.mgc_Unread (pa_cons (pv 0) pa_nil)))) pss_nil)
      (pss_one (ps_ret (pv 1)))), ?_⟩
    obtain ⟨z, rfl, hz, kQ, kE⟩ := h
    refine ⟨_, rfl, z, rfl, hz, fun v hv H1 s1 => ?_, kE⟩
    obtain ⟨v0, v1, kw, kn⟩ := kQ v hv
    refine ⟨rfl, rfl, fun x2 dx2 Ha2 n2 g2 sa2 ea2 => ⟨x2, dx2, 0, 0, v, rfl, ea2, fun H2 b2 e2 => ⟨rfl, ?_⟩⟩⟩
    have ez2 : (0 : Int) * 256 + 0 * 16 + (v) = v := by omega
    rw [ez2] at e2
    have s2 := same_new n2 sa2 b2
    have w2 : WV T H2 (.ref x2) (v) := ⟨x2, dx2, rfl, e2⟩
    have s12 := s1.trans s2
    refine ⟨_, rfl, x2, dx2, _, rfl, e2, _, v, rfl, w2, v0, v1, fun H4 s4 => ⟨_, rfl, _, rfl, rfl, _, rfl, ?_⟩⟩
    refine iteNS (fun hne => ?_) (fun heq => ?_)
    · exact ((kn hne).same (s12.trans s4)).go rfl
    · exact ⟨_, rfl, kw heq _ H4 (s12.trans s4) (w2.same s4)⟩
def sp__law_written (T : Txt K mg) : Sp := fun vs H Q _ => ∃ (n : Int) (a b : Addr), vs = [.int n, .ref a, .ref b, .str " "] ∧ H a = some (.tup [.int 256, .int 16, .int 1]) ∧ H b = some (.tup [.str "lb", .str "oz", .str "dr"]) ∧ 0 ≤ n ∧ n < 10 ^ 30 ∧ ∀ H', Same H H' → Q (.str (writ n)) H'
theorem ok__law_written (T : Txt K mg) (hw : T.PP = w.params) : FnOk P w K mg base CX0 2 T.f__law_written T.fd__law_written ["amount", "sizes", "words", "gap"] (sp__law_written T) := by
  refine okD T.F__law_written sc__law_written (fun vs H Q E h => ?_) (fun cdv A outer s H vs Q E hr h => ?_)
  · obtain ⟨_, _, _, rfl, _⟩ := h; rfl
  · have hu := hu_of hr
    have hu64 := hr.units
    refine ⟨_, pss_cons (ps_set (i := 4) sc__law_written.nd rfl (Or.inl rfl) (pe_lstY pa_nil))
      (pss_cons (ps_for PassesOwn.never rfl (RZ.pi_zipA (by rfl) T.b_zip (pa_cons (pv 1) (pa_cons (pv 2) pa_nil))) (pg_tup (by rfl) (pgs_cons (pg_name (i := 5) sc__law_written.nd rfl (Or.inl rfl)) (pgs_cons (pg_name (i := 6) sc__law_written.nd rfl (Or.inl rfl)) pgs_nil))) (pss_cons (ps_if (pt_cmpR op_gt (pe_op op_fdivY (pv 0) (pv 5)) pe_int (nomark _)) (pss_one (ps_expr (pe_bm PySem.F.plainAttrs_list PySem.F.slot_list_append PySem.F.type_list_append mt_appendY (pv 4) (pa_cons (pe_op op_add_str (pe_op op_add_str (pe_callTy call_str_int (by rfl) T.b_str (by decide +kernel) (pa_cons (pe_op op_fdivY (pv 0) (pv 5)) pa_nil)) (pv 3)) (pv 6)) pa_nil)))) pss_nil)
      (pss_one (ps_set (i := 0) sc__law_written.nd rfl (Or.inl rfl) (pe_op op_sub (pv 0) (pe_op op_mul (pe_op op_fdivY (pv 0) (pv 5)) (pv 5)))))))
      (pss_one (ps_ret (pe_ifExp (pt_cmpR (op_neD hu64) (pv 4) (pe_lstY pa_nil) (nomark _)) (pe_join pe_str (pv 4)) (pe_op op_add_str (pe_op op_add_str pe_str (pv 3)) (pe_ix ix_tup (pv 2) (pe_un un_neg pe_int) (fun _ _ => rfl))))))), ?_⟩
    obtain ⟨n, a, b, rfl, ha, hb, n0, n1, k⟩ := h
    refine ⟨by show 0 ≤ sizeLine; exact Nat.zero_le _, fun p H1 np s1 e1 => ?_⟩
    refine ⟨_, rfl, _, rfl, a, b, _, _, rfl, .inr ⟨SqT.of (s1 _ _ ha), SqT.of (s1 _ _ hb), ?_⟩⟩
    refine RZ.for_zipT (xs := [.int 256, .int 16, .int 1]) (ys := [.str "lb", .str "oz", .str "dr"]) rfl (fun i σ H' => ∃ (v5 v6 : Option V), σ = [some (.int (lef (units.take i) n)), some (.ref a), some (.ref b), some (.str " "), some (.ref p), v5, v6] ∧ Same H H' ∧ H' p = some (.lst (((go (units.take i) n).map tx).map V.str))) ⟨_, _, rfl, s1, e1⟩
      (fun i σ H' ⟨_, _, _, s, _⟩ => ⟨SqT.of (s _ _ ha), SqT.of (s _ _ hb)⟩) ?_ ?_
    · rintro i x y Tp σ H2 hx hy ⟨v5, v6, rfl, s2, e2⟩ nT
      have hi3 : i < 3 := (List.getElem?_eq_some_iff.mp hx).1
      obtain ⟨us, c, rfl, rfl, hu⟩ : ∃ (us : Str) (c : Int), x = .int c ∧ y = .str us ∧ units[i]? = some (us, c) := by
        match i, hi3 with
        | 0, _ => cases hx; cases hy; exact ⟨_, _, rfl, rfl, rfl⟩
        | 1, _ => cases hx; cases hy; exact ⟨_, _, rfl, rfl, rfl⟩
        | 2, _ => cases hx; cases hy; exact ⟨_, _, rfl, rfl, rfl⟩
      obtain ⟨hu4, c0, c1⟩ := units_short _ (List.mem_of_getElem? hu)
      have hu4' : us.length ≤ 4 := hu4
      have c0' : 0 < c := c0
      have c1' : c < 1000 := c1
      have l0 := lef_nn (units.take i) n (fun q hq => units_pos q (List.mem_of_mem_take hq)) n0
      have l1 := lef_le (units.take i) n (fun q hq => units_pos q (List.mem_of_mem_take hq)) n0
      have gl : (go (units.take i) n).length ≤ i := go_len _ _ (by rw [List.length_take]; exact Nat.min_le_left _ _)
      have eg := go_snoc (u := us) (c := c) (units.take i) n
      have el := lef_snoc (u := us) (c := c) (units.take i) n
      rw [← units_take hu] at eg el
      have s3 : Same H2 (upd H2 Tp (.tup [.int c, .str us])) := same_upd nT
      have eT : upd H2 Tp (.tup [.int c, .str us]) Tp = some (.tup [.int c, .str us]) := upd_same
      generalize upd H2 Tp (.tup [.int c, .str us]) = H3 at s3 eT
      have e3 := s3 _ _ e2
      have sH := s2.trans s3
      have d0 : 0 ≤ lef (units.take i) n / c := Int.ediv_nonneg l0 (by omega)
      have d1 : lef (units.take i) n / c ≤ lef (units.take i) n := Int.ediv_le_self c l0
      refine ⟨Tp, _, rfl, SqT.of eT, rfl, _, _, rfl, _, _, rfl, rfl, ?_⟩
      refine ⟨_, rfl, _, rfl, _, _, rfl, rfl, ⟨c0', by omega⟩, _, _, rfl, rfl, _, rfl, ?_⟩
      refine iteD (fun hm => ?_) (fun hm => ?_)
      · have nl := num_len (i := lef (units.take i) n / c) d0 (by omega)
        refine ⟨_, rfl, (.inl ⟨rfl, _, SqL.of e3⟩), _, rfl, _, rfl, _, _, rfl, rfl, ⟨c0', by omega⟩, _, rfl, big30 d0 (by omega), _, rfl, _, _, rfl, rfl, line_big ?_, _, rfl, _, _, rfl, rfl, line_big ?_, p, _, _, rfl, rfl, e3, by rw [List.length_map, List.length_map]; exact small1000 (by omega), fun H5 b5 e5 => ?_⟩
        · rw [lit_sp1]; omega
        · rw [str_len, lit_sp1]; omega
        refine ⟨_, rfl, _, rfl, _, rfl, _, _, rfl, rfl, ⟨c0', by omega⟩, _, rfl, _, _, rfl, rfl, .inr ⟨by omega, by omega⟩, _, _, rfl, rfl, ?_⟩
        rw [if_pos hm] at eg
        refine ⟨some (.int c), some (.str us), by rw [el, ← emod_sub]; rfl, fun b' o z => b5 b' o (ne_of_none z np) (sH b' o z), ?_⟩
        rw [eg, List.map_append, List.map_append]
        exact e5
      · refine ⟨_, rfl, _, rfl, _, rfl, _, _, rfl, rfl, ⟨c0', by omega⟩, _, rfl, _, _, rfl, rfl, .inr ⟨by omega, by omega⟩, _, _, rfl, rfl, ?_⟩
        rw [if_neg hm, List.append_nil] at eg
        refine ⟨some (.int c), some (.str us), by rw [el, ← emod_sub]; rfl, sH, ?_⟩
        rw [eg]
        exact e3
    · rintro σ H2 ⟨v5, v6, rfl, s2, e2⟩
      have e2' : H2 p = some (.lst (((go units n).map tx).map V.str)) := e2
      have gg := go_good n0
      have hok : ∀ x ∈ (go units n).map tx, PyData.strOk x = true := fun x hx => by
        obtain ⟨q, hq, rfl⟩ := List.mem_map.mp hx
        exact tx_ok (gg q hq)
      refine ⟨_, rfl, by show 0 ≤ sizeLine; exact Nat.zero_le _, fun q H3 nq s3 e3 => ⟨_, _, .lst (SqL.of (s3 _ _ e2')) (dp_strs _), .lst (SqL.of e3) .nil, shaped_strs hok, shaped_nil, _, rfl, ?_⟩⟩
      have s23 := s2.trans s3
      have hw2 := writ_parts n0 n1
      refine iteNeS (fun hne => ?_) (fun he => ?_)
      · have ec : cs n = go units n := by
          unfold cs
          cases hg : go units n with
          | nil => rw [hg] at hne; exact absurd rfl hne
          | cons a r => rfl
        refine ⟨⟨_, rfl⟩, _, rfl, _, p, _, rfl, rfl, .inl (SqL.of (s3 _ _ e2')), ?_, ?_⟩
        · rw [ec] at hw2
          have e1 : (" " : Str).length = 1 := by decide +kernel
          rw [e1]
          omega
        · have kk := k H3 s23
          unfold writ at kk
          rw [ec] at kk
          exact kk
      · have ec : cs n = ([(0, "dr", 1)] : List (Int × Str × Int)) := by
          unfold cs
          cases hg : go units n with
          | nil => rfl
          | cons a r => rw [hg] at he; cases he
        have ew : writ n = "0" ++ " " ++ "dr" := by
          unfold writ
          rw [ec]
          decide +kernel
        have kk := k H3 s23
        rw [ew] at kk
        refine ⟨_, rfl, _, _, rfl, rfl, line_big (by decide +kernel), _, rfl, _, rfl, b, _, _, _, rfl, rfl, SqT.of (s23 _ _ hb), rfl, _, _, rfl, rfl, line_big (by decide +kernel), kk⟩
def sp__law_spoilt (T : Txt K mg) : Sp := fun vs H Q _ => ∃ (p : Addr) (z : Str) (n : Int), vs = [.ref p, .str z] ∧ Pen H p n ∧ n ≤ 2 ^ 58 ∧ z.length ≤ 20000 ∧ Low z ∧
  ∀ (z' : Str) (H' : Hp), z'.length ≤ 3 * z.length + 5000 → Low z' → Pen H' p (n + 4) → But p H H' → Kp H H' → Q (.str z') H'
theorem ok__law_spoilt (T : Txt K mg) (hw : T.PP = w.params) : FnOk P w K mg base CX0 5 T.f__law_spoilt T.fd__law_spoilt ["pen", "text"] (sp__law_spoilt T) := by
  refine okD T.F__law_spoilt sc__law_spoilt (fun vs H Q E h => ?_) (fun cdv A outer s H vs Q E hr h => ?_)
  · obtain ⟨_, _, _, rfl, _⟩ := h; rfl
  · have hu := hu_of hr
    have hu64 := hr.units
    refine ⟨_, pss_cons (ps_set (i := 2) sc__law_spoilt.nd rfl (Or.inl rfl) pe_str)
      (pss_cons (ps_set (i := 2) sc__law_spoilt.nd rfl (Or.inl rfl) (pe_op op_add_str (pv 2) pe_str))
      (pss_cons (ps_set (i := 3) sc__law_spoilt.nd rfl (Or.inl rfl) (pe_call (ok__law_draw (P := P) (w := w) (base := base) T hw) (hr.mono (by decide)) rfl T.mg__law_draw T.F__law_draw.kp (T.b__law_draw) .nil pass0 (pa_cons (pv 0) (pa_cons (pe_op op_add (pe_callB call_len_str (by rfl) T.b_len PySem.boot_len (pa_cons (pv 1) pa_nil)) pe_int) pa_nil))))
      (pss_cons (ps_set (i := 4) sc__law_spoilt.nd rfl (Or.inl rfl) (pe_ix ix_str (pv 2) (pe_call (ok__law_draw (P := P) (w := w) (base := base) T hw) (hr.mono (by decide)) rfl T.mg__law_draw T.F__law_draw.kp (T.b__law_draw) .nil pass0 (pa_cons (pv 0) (pa_cons (pe_callB call_len_str (by rfl) T.b_len PySem.boot_len (pa_cons (pv 2) pa_nil)) pa_nil))) (fun _ _ => rfl)))
      (pss_cons (ps_set (i := 5) sc__law_spoilt.nd rfl (Or.inl rfl) (pe_splitY (pv 1) pe_str))
      (pss_cons (ps_set (i := 6) sc__law_spoilt.nd rfl (Or.inl rfl) (pe_call (ok__law_draw (P := P) (w := w) (base := base) T hw) (hr.mono (by decide)) rfl T.mg__law_draw T.F__law_draw.kp (T.b__law_draw) .nil pass0 (pa_cons (pv 0) (pa_cons (pe_callB call_len_seq (by rfl) T.b_len PySem.boot_len (pa_cons (pv 5) pa_nil)) pa_nil))))
      (pss_cons (ps_set (i := 7) sc__law_spoilt.nd rfl (Or.inl rfl) (pe_lstY (pa_cons (pe_op op_add_str (pe_op op_add_str (pe_slice sl_str (pv 1) po_none (po_some (pv 3))) (pv 4)) (pe_slice sl_str (pv 1) (po_some (pv 3)) po_none)) (pa_cons (pe_op op_add_str (pe_slice sl_str (pv 1) po_none (po_some (pv 3))) (pe_slice sl_str (pv 1) (po_some (pe_op op_add (pv 3) pe_int)) po_none)) (pa_cons (pe_op op_add_str (pe_op op_add_str (pe_slice sl_str (pv 1) po_none (po_some (pv 3))) (pv 4)) (pe_slice sl_str (pv 1) (po_some (pe_op op_add (pv 3) pe_int)) po_none)) (pa_cons (pe_op op_add_str pe_str (pv 1)) pa_nil))))))
      (pss_cons (ps_expr (pe_bm PySem.F.plainAttrs_list PySem.F.slot_list_append PySem.F.type_list_append mt_appendY (pv 7) (pa_cons (pe_join pe_str (pe_op op_catY (pe_slice sl_listY (pv 5) po_none (po_some (pv 6))) (pe_slice sl_listY (pv 5) (po_some (pe_op op_add (pv 6) pe_int)) po_none))) pa_nil)))
      (pss_cons (ps_expr (pe_bm PySem.F.plainAttrs_list PySem.F.slot_list_append PySem.F.type_list_append mt_appendY (pv 7) (pa_cons (pe_join pe_str (pe_op op_catY (pe_slice sl_listY (pv 5) po_none (po_some (pe_op op_add (pv 6) pe_int))) (pe_slice sl_listY (pv 5) (po_some (pv 6)) po_none))) pa_nil)))
      (pss_cons (ps_set (i := 8) sc__law_spoilt.nd rfl (Or.inl rfl) (pe_revLY (pe_slice sl_listY (pv 5) (po_some (pv 6)) (po_some (pe_op op_add (pv 6) pe_int)))))
      (pss_cons (ps_expr (pe_bm PySem.F.plainAttrs_list PySem.F.slot_list_append PySem.F.type_list_append mt_appendY (pv 7) (pa_cons (pe_join pe_str (pe_op op_catY (pe_op op_catY (pe_slice sl_listY (pv 5) po_none (po_some (pv 6))) (pv 8)) (pe_slice sl_listY (pv 5) (po_some (pe_op op_add (pv 6) pe_int)) po_none))) pa_nil)))
      (pss_cons (ps_set (i := 7) sc__law_spoilt.nd rfl (Or.inl rfl) (pe_op op_catY (pv 7) (pe_lstY (pa_cons pe_str (pa_cons pe_str (pa_cons pe_str (pa_cons pe_str (pa_cons pe_str (pa_cons pe_str pa_nil)))))))))
      (pss_cons (ps_expr (pe_bm PySem.F.plainAttrs_list PySem.F.slot_list_append PySem.F.type_list_append mt_appendY (pv 7) (pa_cons (pe_op op_add_str (pe_op op_mulS pe_str pe_int) pe_str) pa_nil)))
      (pss_cons (ps_set (i := 7) sc__law_spoilt.nd rfl (Or.inl rfl) (pe_op op_catY (pv 7) (pe_lstY (pa_cons pe_str (pa_cons pe_str (pa_cons pe_str (pa_cons pe_str (pa_cons pe_str (pa_cons pe_str pa_nil)))))))))
      (pss_cons (ps_set (i := 7) sc__law_spoilt.nd rfl (Or.inl rfl) (pe_op op_catY (pv 7) (pe_lstY (pa_cons pe_str (pa_cons pe_str (pa_cons pe_str (pa_cons pe_str pa_nil)))))))
      (pss_one (ps_ret (pe_ix ix_list (pv 7) (pe_call (ok__law_draw (P := P) (w := w) (base := base) T hw) (hr.mono (by decide)) rfl T.mg__law_draw T.F__law_draw.kp (T.b__law_draw) .nil pass0 (pa_cons (pv 0) (pa_cons (pe_callB call_len_seq (by rfl) T.b_len PySem.boot_len (pa_cons (pv 7) pa_nil)) pa_nil))) (fun _ _ => rfl)))))))))))))))))), ?_⟩
    obtain ⟨p, z, n, rfl, P0, hn, hz, hlow, k⟩ := h
    have hc : ∀ lo hi, LL z.length (cutS z lo hi) := fun lo hi => ⟨cutS_length z lo hi, low_cut hlow lo hi⟩
    have zl : LL z.length z := ⟨Nat.le_refl _, hlow⟩
    have l0 : LL 1 "0" := ⟨by decide +kernel, lit_low "0" (by decide +kernel)⟩
    refine ⟨_, rfl, _, _, rfl, rfl, line_big (by decide +kernel), ?_⟩
    refine ⟨_, rfl, _, rfl, z, rfl, line_big (by omega), _, _, rfl, rfl, p, _, _, rfl, P0, by omega, by omega, by omega, fun d1 H1 l1 u1 P1 b1 k1 => ?_⟩
    refine ⟨_, rfl, _, rfl, _, rfl, _, rfl, line_big (by decide +kernel), p, _, _, rfl, P1, by omega, by decide +kernel, by decide +kernel, fun d2 H2 l2 u2 P2 b2 k2 => ?_⟩
    refine rIxS_low (by unfold Low; decide +kernel) l2 u2 (line_big (by decide +kernel)) fun c hcc => ?_
    refine ⟨_, rfl, ⟨_, rfl⟩, _, _, rfl, rfl, by decide +kernel, line_big (by omega), fun w3 H3 n3 s3 e3 => ?_⟩
    have hpos := words_pos z
    have hwt := split_wt z
    have hwl : (Txt.split z " ").length ≤ z.length + 1 := Nat.le_trans (Nat.le_add_left _ _) hwt
    refine ⟨_, rfl, _, rfl, w3, _, rfl, .inl (SqL.of e3), p, _, _, rfl, P2.same s3, by omega, by rw [List.length_map]; omega, by rw [List.length_map]; omega, fun d4 H4 l4 u4 P4 b4 k4 => ?_⟩
    have e4 := k4.lst e3
    refine ⟨_, rfl, _, rfl, _, rfl, z, rfl, line_big (by omega), _, rfl, _, _, rfl, rfl, cat_ok (hc _ _) (ll_ch hcc) (by omega), _, rfl, _, rfl, _, rfl, z, rfl, line_big (by omega), _, _, rfl, rfl, cat_ok ((hc _ _).app (ll_ch hcc)) (hc _ _) (by omega), ?_⟩
    refine ⟨_, rfl, _, rfl, _, rfl, z, rfl, line_big (by omega), _, rfl, _, rfl, _, _, rfl, rfl, _, rfl, z, rfl, line_big (by omega), _, _, rfl, rfl, cat_ok (hc _ _) (hc _ _) (by omega), ?_⟩
    refine ⟨_, rfl, _, rfl, _, rfl, z, rfl, line_big (by omega), _, rfl, _, _, rfl, rfl, cat_ok (hc _ _) (ll_ch hcc) (by omega), _, rfl, _, rfl, _, _, rfl, rfl, _, rfl, z, rfl, line_big (by omega), _, _, rfl, rfl, cat_ok ((hc _ _).app (ll_ch hcc)) (hc _ _) (by omega), ?_⟩
    refine ⟨_, rfl, _, _, rfl, rfl, cat_ok l0 zl (by omega), by show 4 ≤ sizeLine; decide, fun D H5 nD s5 e5 => ?_⟩
    have A5 : Acc H4 H5 p D (n + 1 + 1 + 1) (3 * z.length + 5000) 4 := Acc.new P4 nD s5 e5 (by
      intro v hv
      simp only [List.mem_cons, List.not_mem_nil, or_false] at hv
      rcases hv with rfl | rfl | rfl | rfl
      · exact Gd.of (((hc _ _).app (ll_ch hcc)).app (hc _ _)) (by omega)
      · exact Gd.of ((hc _ _).app (hc _ _)) (by omega)
      · exact Gd.of (((hc _ _).app (ll_ch hcc)).app (hc _ _)) (by omega)
      · exact Gd.of (l0.app zl) (by omega))
    have hlw : ∀ x ∈ Txt.split z " ", Low x := fun x hx => low_split hlow hx
    -- the words with one left out
    obtain ⟨ua, ea, ma, ta⟩ := cut_words (Txt.split z " ") none (some d4)
    obtain ⟨ub, eb, mb, tb⟩ := cut_words (Txt.split z " ") (some (d4 + 1)) none
    have e5w := A5.s _ _ e4
    obtain ⟨xs5, fx5, gx5, mx5⟩ := A5.x
    refine ⟨_, rfl, .inl ⟨rfl, _, SqL.of fx5⟩, ⟨_, rfl⟩, _, rfl, _, rfl, _, rfl, w3, _, rfl, SqL.of e5w, fun q6 H6 n6 s6 e6 => ⟨_, rfl, _, rfl, _, _, rfl, rfl, _, rfl, w3, _, rfl, SqL.of (s6 _ _ e5w), fun q7 H7 n7 s7 e7 => ⟨q6, q7, _, _, rfl, rfl, s7 _ _ e6, e7, line_big (Nat.le_trans (Nat.add_le_add (cutV_length _ _ _) (cutV_length _ _ _)) (by rw [List.length_map]; omega)), fun q8 H8 n8 s8 e8 => ?_⟩⟩⟩
    rw [ea, eb, ← List.map_append] at e8
    have A8 := A5.same ((s6.trans s7).trans s8)
    have fx8 := ((s6.trans s7).trans s8) _ _ fx5
    refine ⟨_, q8, _, rfl, rfl, .inl (SqL.of e8), wt_fits (n := 2 * (z.length + 1)) (by rw [wt_app]; omega) (by omega), D, xs5, _, rfl, rfl, fx8, by rw [mx5]; decide, fun H9 b9 e9 => ?_⟩
    have A9 := A8.put fx8 (gd_join (l := ua ++ ub) (ws := Txt.split z " ") (fun x hx => (List.mem_append.mp hx).elim (ma x) (mb x)) hlw (by rw [wt_app]; omega)) b9 e9
    -- one word twice
    obtain ⟨uc, ec, mc, tc⟩ := cut_words (Txt.split z " ") none (some (d4 + 1))
    obtain ⟨ud, ed, md, td⟩ := cut_words (Txt.split z " ") (some d4) none
    have e9w := A9.s _ _ e4
    obtain ⟨xs9, fx9, gx9, mx9⟩ := A9.x
    refine ⟨_, rfl, .inl ⟨rfl, _, SqL.of fx9⟩, ⟨_, rfl⟩, _, rfl, _, rfl, _, _, rfl, rfl, _, rfl, w3, _, rfl, SqL.of e9w, fun q10 H10 n10 s10 e10 => ⟨_, rfl, _, rfl, _, rfl, w3, _, rfl, SqL.of (s10 _ _ e9w), fun q11 H11 n11 s11 e11 => ⟨q10, q11, _, _, rfl, rfl, s11 _ _ e10, e11, line_big (Nat.le_trans (Nat.add_le_add (cutV_length _ _ _) (cutV_length _ _ _)) (by rw [List.length_map]; omega)), fun q12 H12 n12 s12 e12 => ?_⟩⟩⟩
    rw [ec, ed, ← List.map_append] at e12
    have A12 := A9.same ((s10.trans s11).trans s12)
    have fx12 := ((s10.trans s11).trans s12) _ _ fx9
    refine ⟨_, q12, _, rfl, rfl, .inl (SqL.of e12), wt_fits (n := 2 * (z.length + 1)) (by rw [wt_app]; omega) (by omega), D, xs9, _, rfl, rfl, fx12, by rw [mx9]; decide, fun H13 b13 e13 => ?_⟩
    have A13 := A12.put fx12 (gd_join (l := uc ++ ud) (ws := Txt.split z " ") (fun x hx => (List.mem_append.mp hx).elim (mc x) (md x)) hlw (by rw [wt_app]; omega)) b13 e13
    -- two words turned
    obtain ⟨ue, ee, me, te⟩ := cut_words (Txt.split z " ") (some d4) (some (d4 + 2))
    obtain ⟨uf, ef, mf, tf⟩ := cut_words (Txt.split z " ") (some (d4 + 2)) none
    have e13w := A13.s _ _ e4
    refine ⟨_, rfl, _, rfl, _, rfl, _, rfl, _, _, rfl, rfl, _, rfl, w3, _, rfl, SqL.of e13w, fun q14 H14 n14 s14 e14 => ⟨q14, _, rfl, SqL.of e14, fun q15 H15 n15 s15 e15 => ?_⟩⟩
    rw [ee, ← List.map_reverse] at e15
    have A15 := A13.same (s14.trans s15)
    have e15w := A15.s _ _ e4
    obtain ⟨xs15, fx15, gx15, mx15⟩ := A15.x
    have hel : ue.reverse.length ≤ z.length + 1 := by
      rw [List.length_reverse]
      have : ue.length ≤ wt ue := Nat.le_add_left _ _
      omega
    refine ⟨_, rfl, .inl ⟨rfl, _, SqL.of fx15⟩, ⟨_, rfl⟩, _, rfl, _, rfl, _, rfl, w3, _, rfl, SqL.of e15w, fun q16 H16 n16 s16 e16 => ⟨_, rfl, q16, q15, _, _, rfl, rfl, e16, s16 _ _ e15, line_big (Nat.le_trans (Nat.add_le_add (cutV_length _ _ _) (Nat.le_of_eq (List.length_map ..))) (by rw [List.length_map]; omega)), fun q17 H17 n17 s17 e17 =>
      ⟨_, rfl, _, rfl, _, _, rfl, rfl, _, rfl, w3, _, rfl, SqL.of (s17 _ _ (s16 _ _ e15w)), fun q18 H18 n18 s18 e18 => ⟨q17, q18, _, _, rfl, rfl, s18 _ _ e17, e18, line_big (Nat.le_trans (Nat.add_le_add (Nat.le_of_eq (List.length_append ..)) (cutV_length _ _ _)) (by have := cutV_length ((Txt.split z " ").map V.str) none (some d4); rw [List.length_map] at this ⊢; rw [List.length_map]; omega)), fun q19 H19 n19 s19 e19 => ?_⟩⟩⟩⟩
    rw [ea, ef, ← List.map_append, ← List.map_append] at e19
    have A19 := A15.same (((s16.trans s17).trans s18).trans s19)
    have fx19 := (((s16.trans s17).trans s18).trans s19) _ _ fx15
    have wt3 : wt (ua ++ ue.reverse ++ uf) ≤ 3 * (z.length + 1) := by rw [wt_app, wt_app, wt_rev]; omega
    refine ⟨_, q19, _, rfl, rfl, .inl (SqL.of e19), wt_fits wt3 (by omega), D, xs15, _, rfl, rfl, fx19, by rw [mx15]; decide, fun H20 b20 e20 => ?_⟩
    have A20 := A19.put fx19 (gd_join (l := ua ++ ue.reverse ++ uf) (ws := Txt.split z " ") (fun x hx => (List.mem_append.mp hx).elim (fun hx => (List.mem_append.mp hx).elim (ma x) fun h => me x (List.mem_reverse.mp h)) (mf x)) hlw (by omega)) b20 e20
    obtain ⟨xs20, fx20, gx20, mx20⟩ := A20.x
    refine ⟨_, rfl, by show 6 ≤ sizeLine; decide, fun q21 H21 n21 s21 e21 => ⟨D, q21, _, _, rfl, rfl, s21 _ _ fx20, e21, by rw [mx20]; decide, fun D2 H22 n22 s22 e22 => ?_⟩⟩
    have A22 := (A20.same s21).cat (s21 _ _ fx20) (by intro v hv; simp only [List.mem_cons, List.not_mem_nil, or_false] at hv; repeat (first | (rcases hv with rfl | hv; exact Gd.lit (by decide +kernel) (by omega)) | (subst hv; exact Gd.lit (by decide +kernel) (by omega)))) n22 s22 e22
    obtain ⟨xs22, fx22, gx22, mx22⟩ := A22.x
    have mx22' : xs22.length = 13 := mx22
    have ldr : LL 3 " dr" := ⟨by decide +kernel, lit_low " dr" (by decide +kernel)⟩
    refine ⟨_, rfl, .inl ⟨rfl, _, SqL.of fx22⟩, _, _, rfl, rfl, nines_ok, _, _, rfl, rfl, cat_ok nines ldr (by decide), D2, _, _, rfl, rfl, fx22, by rw [mx22']; decide, fun H23 b23 e23 => ?_⟩
    have A23 := A22.put fx22 (Gd.of (nines.app ldr) (by omega)) b23 e23
    obtain ⟨xs23, fx23, gx23, mx23⟩ := A23.x
    have mx23' : xs23.length = 14 := mx23
    refine ⟨_, rfl, by show 6 ≤ sizeLine; decide, fun q24 H24 n24 s24 e24 => ⟨D2, q24, _, _, rfl, rfl, s24 _ _ fx23, e24, by rw [mx23']; decide, fun D3 H25 n25 s25 e25 => ?_⟩⟩
    have A25 := (A23.same s24).cat (s24 _ _ fx23) (by intro v hv; simp only [List.mem_cons, List.not_mem_nil, or_false] at hv; repeat (first | (rcases hv with rfl | hv; exact Gd.lit (by decide +kernel) (by omega)) | (subst hv; exact Gd.lit (by decide +kernel) (by omega)))) n25 s25 e25
    obtain ⟨xs25, fx25, gx25, mx25⟩ := A25.x
    have mx25' : xs25.length = 20 := mx25
    refine ⟨_, rfl, by show 4 ≤ sizeLine; decide, fun q26 H26 n26 s26 e26 => ⟨D3, q26, _, _, rfl, rfl, s26 _ _ fx25, e26, by rw [mx25']; decide, fun D4 H27 n27 s27 e27 => ?_⟩⟩
    have A27 := (A25.same s26).cat (s26 _ _ fx25) (by intro v hv; simp only [List.mem_cons, List.not_mem_nil, or_false] at hv; repeat (first | (rcases hv with rfl | hv; exact Gd.lit (by decide +kernel) (by omega)) | (subst hv; exact Gd.lit (by decide +kernel) (by omega)))) n27 s27 e27
    obtain ⟨xs27, fx27, gx27, mx27⟩ := A27.x
    have mx27' : xs27.length = 24 := mx27
    refine ⟨_, rfl, _, rfl, _, rfl, D4, _, rfl, .inl (SqL.of fx27), p, _, _, rfl, A27.P, by omega, by rw [mx27']; decide, by rw [mx27']; decide, fun d28 H28 l28 u28 P28 b28 k28 => ?_⟩
    obtain ⟨v28, hv28, y28, rfl, hy28, hl28⟩ := atI_all (P := Gd (3 * z.length + 5000)) (xs := xs27) (i := d28) gx27 l28 u28
    refine ⟨D4, _, _, _, rfl, rfl, SqL.of (k28.lst fx27), hv28, ?_⟩
    exact k y28 H28 hy28 hl28 (P28.mono (by omega)) (((((b1.trans b2).trans (same_but s3)).trans b4).trans (same_but A27.s)).trans b28) (((((k1.trans k2).trans (same_kp s3)).trans k4).trans (same_kp A27.s)).trans k28)
def sp__law_amount (T : Txt K mg) : Sp := fun vs H Q _ => ∃ (z : Str), vs = [.str z] ∧ z.length ≤ 100000 ∧ Low z ∧ (∀ v, told 0 (prs z) = some v → writ v = z → ∀ H', Same H H' → Q (.int v) H') ∧ ((∀ v, told 0 (prs z) = some v → ¬ writ v = z) → ∀ H', Same H H' → Q .non H')
theorem ok__law_amount (T : Txt K mg) (hw : T.PP = w.params) : FnOk P w K mg base CX0 4 T.f__law_amount T.fd__law_amount ["text"] (sp__law_amount T) := by
  refine okD T.F__law_amount sc__law_amount (fun vs H Q E h => ?_) (fun cdv A outer s H vs Q E hr h => ?_)
  · obtain ⟨_, rfl, _⟩ := h; rfl
  · have hu := hu_of hr
    have hu64 := hr.units
    refine ⟨_, pss_cons (ps_set (i := 1) sc__law_amount.nd rfl (Or.inl rfl) (pe_splitY (pv 0) pe_str))
      (pss_cons (ps_set (i := 2) sc__law_amount.nd rfl (Or.inl rfl) (pe_disp (pps_cons pe_str pe_int (pps_cons pe_str pe_int (pps_cons pe_str pe_int pps_nil))) (by rfl) (by rfl) (fun z => by cases z) (by decide)))
      (pss_cons (ps_set (i := 3) sc__law_amount.nd rfl (Or.inl rfl) pe_int)
      (pss_cons (ps_for PassesOwn.never rfl (pi_zip (by rfl) T.b_zip (pa_cons (pe_ev (pv 1)) (pa_cons (pe_od (pv 1)) pa_nil))) (pg_tup (by rfl) (pgs_cons (pg_name (i := 4) sc__law_amount.nd rfl (Or.inl rfl)) (pgs_cons (pg_name (i := 5) sc__law_amount.nd rfl (Or.inl rfl)) pgs_nil))) (pss_cons (ps_if (PW.pt (pw_or (pt_cmp (pc_dnotin hu (pv 5) (pv 2))) (pw_or (pt_not (pt_chain op_le op_le pe_int (pe_callB call_len_str (by rfl) T.b_len PySem.boot_len (pa_cons (pv 4) pa_nil)) pe_int)) (pw_or1 (pt_cmpR (op_neD hu64) (pe_lc (own := [("one", 6)]) (by rfl) sc__law_amount.nd (pi_str (pv 4)) (blkOk_by (own := [("one", 6)]) (N := ["text", "words", "sizes", "a_drams", "number", "word", "one"]) (sc := defScope s__law_amount) (by decide +kernel)) (fun _ _ _ _ _ => pg_name (i := 6) sc__law_amount.nd rfl (Or.inl rfl)) (fun _ _ _ _ _ => pts_one (pt_cmpR op_notIn_str (pv 6) pe_str (by rfl))) (fun _ _ _ _ _ => pv 6)) (pe_lstY pa_nil) (nomark _)))))) (pss_one (ps_ret pe_non)) pss_nil)
      (pss_one (ps_set (i := 3) sc__law_amount.nd rfl (Or.inl rfl) (pe_op op_add (pv 3) (pe_op op_mul (pe_callTy call_int_str (by rfl) T.b_int (by decide +kernel) (pa_cons (pv 4) pa_nil)) (pe_dget hu (pv 2) (pv 5) (fun _ _ => rfl))))))))
      (pss_cons (ps_if (pt_cmpR op_ne (pe_call (ok__law_written (P := P) (w := w) (base := base) T hw) (hr.mono (by decide)) rfl T.mg__law_written T.F__law_written.kp (T.b__law_written) .nil pass0 (pa_cons (pv 3) (pa_cons (pe_tupY (pa_cons pe_int (pa_cons pe_int (pa_cons pe_int pa_nil)))) (pa_cons (pe_tupY (pa_cons pe_str (pa_cons pe_str (pa_cons pe_str pa_nil)))) (pa_cons pe_str pa_nil))))) (pv 0) (nomark _)) (pss_one (ps_ret pe_non)) pss_nil)
      (pss_one (ps_ret (pv 3))))))), ?_⟩
    obtain ⟨z, rfl, hz, hlow, kS, kN⟩ := h
    have none_of : told 0 (prs z) = none → ∀ H', Same H H' → Q .non H' := fun h => kN fun v hv => by rw [h] at hv; cases hv
    refine ⟨_, rfl, ⟨_, rfl⟩, _, _, rfl, rfl, by decide +kernel, line_big (by omega), fun p H1 np s1 e1 => ?_⟩
    intro d nd
    refine ⟨upd_same, szD, rfl, by show 3 ≤ 15; decide, ?_⟩
    have sd : Same H1 (upd (upd H1 d (.dK [])) d (.dK (mergeK [] szD))) := fun b o h => by rw [upd_ne (ne_of_none h nd), upd_ne (ne_of_none h nd)]; exact h
    have ed : (upd (upd H1 d (.dK [])) d (.dK (mergeK [] szD))) d = some (.dK szD) := by rw [sz_merge]; exact upd_same
    generalize upd (upd H1 d (.dK [])) d (.dK (mergeK [] szD)) = H2 at sd ed
    have e12 := sd _ _ e1
    refine ⟨_, rfl, p, _, rfl, SqL.of e12, fun p2 H3 n2 s2 e2 => ⟨_, rfl, p, _, rfl, SqL.of (s2 _ _ e12), fun p3 H4 n3 s3 e3 => ⟨p2, p3, _, _, rfl, SqL.of (s3 _ _ e2), SqL.of e3, ?_⟩⟩⟩
    have sH := ((s1.trans sd).trans s2).trans s3
    have edd := s3 _ _ (s2 _ _ ed)
    refine for_zip2 (fun i σ H' => ∃ (acc : Int) (v4 v5 v6 : Option V), σ = [some (.str z), some (.ref p), some (.ref d), some (.int acc), v4, v5, v6] ∧ Same H4 H' ∧ told 0 (prs z) = told acc ((prs z).drop i)) ⟨0, _, _, _, rfl, Same.refl _, rfl⟩
      (fun i σ H' ⟨_, _, _, _, _, s, _⟩ => ⟨SqL.of (s _ _ (s3 _ _ e2)), SqL.of (s _ _ e3)⟩) ?_ ?_
    · rintro i x y Tp σ H5 H6 hi ⟨a, v4, v5, v6, rfl, s4, et⟩ nT s5 eT
      rw [zip_prs, List.getElem?_map] at hi
      obtain ⟨⟨m, u⟩, hmu, hxy⟩ := Option.map_eq_some_iff.mp hi
      cases hxy
      have hml := prs_len hmu
      have hmlow := prs_low hmu hlow
      rw [told_drop (a := a) hmu] at et
      refine ⟨Tp, _, rfl, SqT.of eT, rfl, _, _, rfl, _, _, rfl, rfl, ?_⟩
      have s06 := (sH.trans s4).trans s5
      have ed6 := s5 _ _ (s4 _ _ edd)
      have gd : DGet H6 d (.str u) ((units.lookup u).map V.int) := by
        have w := DGet.k (k := Sum.inr u) ed6
        rw [sz_val] at w
        exact w
      refine ⟨_, rfl, _, rfl, d, _, rfl, gd, _, rfl, ?_⟩
      cases hc : units.lookup u with
      | none =>
        refine iteT ?_
        exact none_of (et.trans (told_no hc)) _ s06
      | some c =>
        obtain ⟨c0, c1⟩ := units_small hc
        rw [hc] at gd
        refine iteF ?_
        have bad : fig m = false → ∀ H', Same H H' → Q .non H' := fun hf => none_of (et.trans (told_bad hc hf))
        refine ⟨_, rfl, m, rfl, line_big (by omega), _, _, rfl, rfl, _, rfl, ?_⟩
        refine iteD (fun h1 => ?_) (fun h1 => ?_)
        · refine ⟨_, _, rfl, rfl, _, rfl, ?_⟩
          refine iteND (fun h2 => ?_) (fun h2 => ?_)
          · exact bad (by rw [fig_low hmlow, decide_eq_false (show ¬ m.length ≤ 12 by omega), Bool.false_and]) _ s06
          · refine ⟨_, rfl, m, rfl, fun D nD => ?_⟩
            refine lc_strY (fun i H' => H' D = some (.lst ((((TL.tl m).take i).filter fun c => !isDig c).map fun c => V.str (ch c))) ∧ But D H6 H') ⟨upd_same, but_upd⟩ ?_ ?_
            · rintro i' c' H' hc' ⟨g1, g2⟩
              have hmem : c' ∈ TL.tl m := List.mem_of_getElem? (show m.cps.toList[i']? = some c' by rw [Array.getElem?_toList]; exact hc')
              have hlo : c' < 128 := hmlow c' hmem
              refine ⟨rfl, _, rfl, _, _, rfl, rfl, _, rfl, ?_⟩
              rw [occ_dig c' hlo]
              refine iteNB (fun hd => ?_) (fun hd => ?_)
              · refine ⟨_, rfl, _, g1, ?_, ?_, g2.trans but_upd⟩
                · rw [List.length_map]
                  have hl1 : (((TL.tl m).take i').filter fun c => !isDig c).length ≤ ((TL.tl m).take i').length := List.length_filter_le _ _
                  have hl2 : ((TL.tl m).take i').length ≤ (TL.tl m).length := by rw [List.length_take]; exact Nat.min_le_right _ _
                  have hl3 : (TL.tl m).length = m.length := (TL.len_tl m).symm
                  exact small1000 (by omega)
                · rw [take_cps hc', List.filter_append, List.map_append]
                  have e0 : [c'].filter (fun c => !isDig c) = [c'] := by simp [hd]
                  rw [e0]
                  exact upd_same
              · refine ⟨?_, g2⟩
                rw [take_cps hc', List.filter_append]
                have e0 : [c'].filter (fun c => !isDig c) = [] := by simp [hd]
                rw [e0, List.append_nil]
                exact g1
            · rintro H7 ⟨g1, g2⟩
              have et1 : (TL.tl m).take m.cps.size = TL.tl m := by
                have : m.cps.size = (TL.tl m).length := by rw [← TL.len_tl]; rfl
                rw [this, List.take_length]
              rw [et1] at g1
              have g1' : H7 D = some (.lst ((((TL.tl m).filter fun c => !isDig c).map ch).map V.str)) := by rw [List.map_map]; exact g1
              have hok : ∀ x ∈ ((TL.tl m).filter fun c => !isDig c).map ch, PyData.strOk x = true := fun x hx => by
                obtain ⟨c', hc', rfl⟩ := List.mem_map.mp hx
                refine strOk_of fun c2 hc2 => ?_
                have e2 : c2 ∈ [c'] := hc2
                rw [List.mem_singleton.mp e2]
                have := hmlow c' (List.mem_filter.mp hc').1
                omega
              have s67 : Same H6 H7 := fun b o h => g2 b o (ne_of_none h nD) h
              refine ⟨by show 0 ≤ sizeLine; exact Nat.zero_le _, fun q8 H8 n8 s8 e8 => ⟨_, _, .lst (SqL.of (s8 _ _ g1')) (dp_strs _), .lst (SqL.of e8) .nil, shaped_strs hok, shaped_nil, _, rfl, ?_⟩⟩
              have s08 := (s06.trans s67).trans s8
              refine iteNeS (fun hne => ?_) (fun he => ?_)
              · exact bad (by rw [fig_low hmlow, not_dig (fun h => hne (by rw [h]; rfl)), Bool.and_false, Bool.and_false]) _ s08
              · have hf : fig m = true := by
                  rw [fig_low hmlow, all_dig (List.map_eq_nil_iff.mp he), decide_eq_true (show m.length ≤ 12 by omega), decide_eq_true (show 1 ≤ m.length by omega)]
                  rfl
                obtain ⟨v, hv, v0, v1⟩ := fig_val hf
                have gd8 : DGet H8 d (.str u) (some (.int c)) := by
                  have w := DGet.k (k := Sum.inr u) (s8 _ _ (s67 _ _ ed6))
                  rw [sz_val, hc] at w
                  exact w
                refine ⟨_, rfl, _, rfl, m, v, rfl, hv, by omega, _, rfl, _, rfl, d, _, rfl, gd8, _, _, rfl, rfl, .inr ⟨by omega, by omega⟩, _, _, rfl, rfl, ?_⟩
                exact ⟨a + v * c, _, _, _, rfl, ((s4.trans s5).trans s67).trans s8, et.trans (told_on hc hf hv)⟩
        · refine ⟨_, rfl, ?_⟩
          refine iteT ?_
          exact bad (by rw [fig_low hmlow, decide_eq_false (show ¬ 1 ≤ m.length by omega), Bool.false_and, Bool.and_false]) _ s06
    · rintro σ H5 ⟨a, v4, v5, v6, rfl, s4, et⟩
      have edr : (prs z).drop ((ev ((Txt.split z " ").map V.str)).zip (od ((Txt.split z " ").map V.str))).length = [] := by
        rw [zip_prs, List.length_map, List.drop_length]
      rw [edr] at et
      have ht : told 0 (prs z) = some a := et
      obtain ⟨a0, a1⟩ := told_big ht hz
      refine ⟨_, rfl, by show 3 ≤ sizeLine; decide, fun t7 H7 n7 s7 e7 => ⟨by show 3 ≤ sizeLine; decide, fun t8 H8 n8 s8 e8 => ⟨a, t7, t8, rfl, s8 _ _ e7, e8, a0, a1, fun H9 s9 => ?_⟩⟩⟩
      have s09 := (((sH.trans s4).trans s7).trans s8).trans s9
      refine ⟨_, rfl, rfl, _, rfl, ?_⟩
      refine iteNS (fun hne => ?_) (fun heq => ?_)
      · exact kN (fun v hv => by rw [ht] at hv; cases hv; exact hne) _ s09
      · exact ⟨_, rfl, kS a ht heq _ s09⟩
def sp_law (T : Txt K mg) : Sp := fun vs H Q _ => sp_law0 K vs H Q (fun _ _ _ => False)
theorem ok_law (T : Txt K mg) (hw : T.PP = w.params) : FnOk P w K mg base CX0 8 T.f_law T.fd_law ["script"] (sp_law T) := by
  refine okD T.F_law sc_law (fun vs H Q E h => ?_) (fun cdv A outer s H vs Q E hr h => ?_)
  · obtain ⟨_, _, rfl, _⟩ := h; rfl
  · have hu := hu_of hr
    have hu64 := hr.units
    obtain ⟨its_bd_Weight_init_0_drams, bd_Weight_init_0_drams⟩ := bd_Weight_init_0_drams T
    refine ⟨_, pss_cons (ps_set (i := 1) sc_law.nd rfl (Or.inl rfl) (pe_call (ok__law_pen (P := P) (w := w) (base := base) T hw) (hr.mono (by decide)) rfl T.mg__law_pen T.F__law_pen.kp (T.b__law_pen) .nil pass0 (pa_cons (pv 0) pa_nil)))
      (pss_cons (ps_for PassesOwn.never rfl (pi_range1 (by rfl) T.b_range (pa_cons (pe_op op_add pe_int (pe_callB (call_min2 rfl) (by rfl) T.b_min (by decide +kernel) (pa_cons pe_int (pa_cons (pe_callB call_len_seq (by rfl) T.b_len PySem.boot_len (pa_cons (pv 0) pa_nil)) pa_nil)))) pa_nil)) (pg_name (i := 2) sc_law.nd rfl (Or.inl rfl)) (pss_cons (ps_set (i := 3) sc_law.nd rfl (Or.inl rfl) (pe_op op_mul (pe_call (ok__law_number (P := P) (w := w) (base := base) T hw) (hr.mono (by decide)) rfl T.mg__law_number T.F__law_number.kp (T.b__law_number) .nil pass0 (pa_cons (pv 1) pa_nil)) (pe_call (ok__law_draw (P := P) (w := w) (base := base) T hw) (hr.mono (by decide)) rfl T.mg__law_draw T.F__law_draw.kp (T.b__law_draw) .nil pass0 (pa_cons (pv 1) (pa_cons pe_int pa_nil)))))
      (pss_cons (ps_set (i := 4) sc_law.nd rfl (Or.inl rfl) (pe_call (ok__law_written (P := P) (w := w) (base := base) T hw) (hr.mono (by decide)) rfl T.mg__law_written T.F__law_written.kp (T.b__law_written) .nil pass0 (pa_cons (pv 3) (pa_cons (pe_tupY (pa_cons pe_int (pa_cons pe_int (pa_cons pe_int pa_nil)))) (pa_cons (pe_tupY (pa_cons pe_str (pa_cons pe_str (pa_cons pe_str pa_nil)))) (pa_cons pe_str pa_nil))))))
      (pss_cons (ps_for PassesOwn.never rfl (pi_range1 (by rfl) T.b_range (pa_cons (pe_call (ok__law_draw (P := P) (w := w) (base := base) T hw) (hr.mono (by decide)) rfl T.mg__law_draw T.F__law_draw.kp (T.b__law_draw) .nil pass0 (pa_cons (pv 1) (pa_cons pe_int pa_nil))) pa_nil)) (pg_name (i := 5) sc_law.nd rfl (Or.inl rfl)) (pss_one (ps_set (i := 4) sc_law.nd rfl (Or.inl rfl) (pe_call (ok__law_spoilt (P := P) (w := w) (base := base) T hw) (hr.mono (by decide)) rfl T.mg__law_spoilt T.F__law_spoilt.kp (T.b__law_spoilt) .nil pass0 (pa_cons (pv 1) (pa_cons (pv 4) pa_nil))))))
      (pss_cons (ps_set (i := 6) sc_law.nd rfl (Or.inl rfl) (pe_call (ok__law_amount (P := P) (w := w) (base := base) T hw) (hr.mono (by decide)) rfl T.mg__law_amount T.F__law_amount.kp (T.b__law_amount) .nil pass0 (pa_cons (pv 4) pa_nil)))
      (pss_cons (ps_set (i := 7) sc_law.nd rfl (Or.inl rfl) pe_non)
      (pss_cons (ps_set (i := 8) sc_law.nd rfl (Or.inl rfl) pe_non)
      (pss_cons (ps_try_keep (i := 9) (Wout := fun _ _ _ _ => False) rfl rfl rfl sc_law.nd rfl rfl ⟨rfl, by decide, Or.inl T.mgc_Unread⟩ takes0 (fun W pn xe tk _ => pss_one (ps_set (i := 8) sc_law.nd rfl (Or.inl rfl) (pe_callSD (ok_read_weight (P := P) (w := w) (base := base) T hw) (hr.mono (by decide)) rfl T.mg_read_weight T.F_read_weight.kp (T.b_read_weight) .nil (fun σ => passAt tk σ) (pa_cons (pv 4) pa_nil)))) (fun a oe cls d pn hz hf => pss_one (ps_set (i := 7) sc_law.nd rfl (Or.inl rfl) (pv 9))))
      (pss_one (ps_if (pt_cmpR op_isN (pv 6) pe_non (nomark _)) (pss_one (ps_if (PW.pt (pw_or (pt_cmpR op_isN (pv 7) pe_non (nomark _)) (pw_or (pt_cmpR op_ne (pe_xk T.ea_Unread T.na_Unread_text (pv 7)) (pv 4) (nomark _)) (pw_or1 (pt_not (pt_val (pe_callB (call_isK T.ea_Unread) (by rfl) T.b_isinstance (by decide +kernel) (pa_cons (pv 7) (pa_cons (pe_bltn (v := .ty "ValueError") (by rfl) T.b_ValueError (by decide +kernel) rfl) pa_nil))))))))) (pss_one (ps_ret pe_bl)) pss_nil)) (pss_one (ps_if (PW.pt (pw_or (pt_cmpR op_notN (pv 7) pe_non (nomark _)) (pw_or1 (pt_cmpR (op_neO (ok_Weight_eq (P := P) (w := w) (base := base) T hw) (hr.mono (by decide)) T.m_Weight_eq.at_ T.m_Weight_eq.fn T.ne_Weight T.mo_Weight T.b_Weight_eq pass0) (pv 8) (pe_makeKY T.mk_Weight (ok_Weight_init (P := P) (w := w) (base := base) T hw) (hr.mono (by decide)) rfl T.mgc_Weight bd_Weight_init_0_drams pass0 (pk_cons (pv 6) pk_nil)) (nomark _))))) (pss_one (ps_ret pe_bl)) pss_nil))))))))))))
      (pss_one (ps_ret pe_bl))), ?_⟩
    obtain ⟨a, ns, rfl, hS, hlen, k⟩ := h
    refine ⟨_, rfl, a, ns, rfl, hS, hlen, fun p H0 np s0 P0 => ?_⟩
    refine ⟨_, rfl, a, _, rfl, .inl (s0.seq hS), _, _, rfl, _, _, rfl, rfl, ?_⟩
    rw [List.length_map]
    have hN : (3 + (if (ns.length : Int) < 9 then (ns.length : Int) else 9)) ≤ 12 := by split <;> omega
    refine ⟨_, rfl, by show -(2 ^ 62 : Int) ≤ _; omega, by show _ < (2 ^ 62 : Int); omega, ?_⟩
    refine for_range (lo := 0) (n := (3 + (if (ns.length : Int) < 9 then (ns.length : Int) else 9)).toNat) (fun i σ H' => ∃ (v2 v3 v4 v5 v6 v7 v8 v9 : Option V), σ = [some (.ref a), some (.ref p), v2, v3, v4, v5, v6, v7, v8, v9] ∧ Pen H' p (i * 100)) ⟨_, _, _, _, _, _, _, _, rfl, P0.mono (by omega)⟩ ?_ ?_
    · rintro i σ H' hi ⟨v2, v3, v4, v5, v6, v7, v8, v9, rfl, P0⟩
      have hi12 : i < 12 := by omega
      refine ⟨_, rfl, p, _, rfl, P0, by omega, fun d1 H1 l1 u1 P1 b1 k1 => ?_⟩
      refine ⟨_, rfl, p, _, _, rfl, P1, by omega, by omega, by omega, fun d2 H2 l2 u2 P2 b2 k2 => ?_⟩
      refine ⟨_, _, rfl, rfl, .inr ⟨by omega, by omega⟩, ?_⟩
      have n0 : 0 ≤ d1 * d2 := Int.mul_nonneg l1 l2
      have n1 : d1 * d2 < 10 ^ 30 := by
        have h3 : d1 * d2 ≤ d1 * 3 := Int.mul_le_mul_of_nonneg_left (by omega) l1
        omega
      refine ⟨_, rfl, by show 3 ≤ sizeLine; decide, fun t3 H3 n3 s3 e3 => ⟨by show 3 ≤ sizeLine; decide, fun t4 H4 n4 s4 e4 => ⟨d1 * d2, t3, t4, rfl, s4 _ _ e3, e4, n0, n1, fun H5 s5 => ?_⟩⟩⟩
      have P5 := P2.same ((s3.trans s4).trans s5)
      refine ⟨_, rfl, p, _, _, rfl, P5, by omega, by omega, by omega, fun d6 H6 l6 u6 P6 b6 k6 => ?_⟩
      refine ⟨d6, rfl, by show -(2 ^ 62 : Int) ≤ _; omega, by show _ < (2 ^ 62 : Int); omega, ?_⟩
      refine for_range (lo := 0) (n := d6.toNat) (fun j σ H' => ∃ (z : Str) (v5 : Option V), σ = [some (.ref a), some (.ref p), some (.int (0 + i)), some (.int (d1 * d2)), some (.str z), v5, v6, v7, v8, v9] ∧ Pen H' p (i * 100 + 10 + 4 * j) ∧ z.length ≤ bnd j ∧ Low z)
        ⟨_, _, rfl, P6.mono (by omega), writ_len n0 n1, low_writ n0⟩ ?_ ?_
      · rintro j σ H7 hj ⟨z, v5, rfl, P7, hz, hlow⟩
        obtain ⟨q1, q2⟩ := bnd_low (j := j) (by omega)
        exact ⟨_, rfl, _, rfl, p, z, _, rfl, P7, by omega, by omega, hlow, fun z' H8 hz' hl' P8 b8 k8 => ⟨z', _, rfl, P8.mono (by omega), by omega, hl'⟩⟩
      rintro σ H7 ⟨z, v5, rfl, P7, hzb, hlow⟩
      have hz : z.length ≤ 38000 := Nat.le_trans hzb (bnd_le _)
      refine ⟨_, rfl, z, rfl, by omega, hlow, fun v hv hw2 H8 s8 => ?_, fun hno H8 s8 => ?_⟩
      · obtain ⟨b0, b1⟩ := told_big hv (by omega)
        refine ⟨_, rfl, z, rfl, by omega, fun v' hv' => ?_, fun hn => by rw [hv] at hn; cases hn⟩
        have hvv : v' = v := Option.some.inj (hv'.symm.trans hv)
        subst hvv
        refine ⟨b0, b1, fun _ wv H9 s9 w9 => ?_, fun hne => absurd hw2 hne⟩
        refine ⟨_, rfl, rfl, _, rfl, ?_⟩
        refine iteF ?_
        refine ⟨_, rfl, rfl, _, rfl, ?_⟩
        refine iteF ?_
        refine ⟨_, rfl, _, rfl, ?_⟩
        refine ⟨rfl, rfl, fun x10 dx10 Ha10 n10 g10 sa10 ea10 => ⟨x10, dx10, 0, 0, v', rfl, ea10, fun H10 b10 e10 => ⟨rfl, ?_⟩⟩⟩
        have ez10 : (0 : Int) * 256 + 0 * 16 + (v') = v' := by omega
        rw [ez10] at e10
        have s10 := same_new n10 sa10 b10
        have w10 : WV T H10 (.ref x10) (v') := ⟨x10, dx10, rfl, e10⟩
        obtain ⟨ya, ydx, rfl, hya⟩ := id (w9.same s10)
        refine ⟨ya, ydx, _, _, rfl, hya, .ins e10, T.nF_Weight_own, _, _, _, rfl, ⟨ya, ydx, rfl, hya⟩, .inl ⟨_, w10, _, rfl, _, rfl, ?_⟩⟩
        refine iteND (fun hne => absurd rfl hne) (fun _ => ?_)
        exact ⟨_, _, _, _, _, _, _, _, rfl, (((P7.same s8).same s9).same s10).mono (by omega)⟩
      · refine ⟨_, rfl, z, rfl, by omega, fun v' hv' => ?_, fun hn => ?_⟩
        · obtain ⟨b0, b1⟩ := told_big hv' (by omega)
          refine ⟨b0, b1, fun heq => absurd heq (hno v' hv'), fun _ => ?_⟩
          refine ⟨low_repr hlow (by omega), fun dd H9 s9 ed9 => ⟨true, T.te_Unread, fun _ ae nae => ⟨_, rfl, fun H10 s10 e10 => ?_⟩, fun q => nomatch q⟩⟩
          have ed10 := s10 _ _ ed9
          refine ⟨_, rfl, rfl, _, rfl, ?_⟩
          refine iteT ?_
          refine ⟨_, rfl, rfl, _, rfl, ?_⟩
          refine iteF ?_
          refine ⟨_, rfl, ae, dd, _, .str z, rfl, e10, ed10, text_field _, _, rfl, rfl, _, rfl, ?_⟩
          refine iteNS (fun hne => absurd rfl hne) (fun _ => ?_)
          refine ⟨_, rfl, ae, dd, _, _, _, true, rfl, e10, ed10, fun u h => h, T.ke_Unread_ValueError, _, rfl, ?_⟩
          refine iteF ?_
          exact ⟨_, _, _, _, _, _, _, _, rfl, (((P7.same s8).same s9).same s10).mono (by omega)⟩
        · skip
          refine ⟨low_repr hlow (by omega), fun dd H9 s9 ed9 => ⟨true, T.te_Unread, fun _ ae nae => ⟨_, rfl, fun H10 s10 e10 => ?_⟩, fun q => nomatch q⟩⟩
          have ed10 := s10 _ _ ed9
          refine ⟨_, rfl, rfl, _, rfl, ?_⟩
          refine iteT ?_
          refine ⟨_, rfl, rfl, _, rfl, ?_⟩
          refine iteF ?_
          refine ⟨_, rfl, ae, dd, _, .str z, rfl, e10, ed10, text_field _, _, rfl, rfl, _, rfl, ?_⟩
          refine iteNS (fun hne => absurd rfl hne) (fun _ => ?_)
          refine ⟨_, rfl, ae, dd, _, _, _, true, rfl, e10, ed10, fun u h => h, T.ke_Unread_ValueError, _, rfl, ?_⟩
          refine iteF ?_
          exact ⟨_, _, _, _, _, _, _, _, rfl, (((P7.same s8).same s9).same s10).mono (by omega)⟩
    · rintro σ H' ⟨v2, v3, v4, v5, v6, v7, v8, v9, rfl, P⟩
      exact k H'
end
theorem all_mk {l : PySem.W.OpenLaw} {w : World} {K : PySem.W.Frag} {h : Heap} {mg : Str → Option Value} {fa C_Unread C_Weight f__law_pen f__law_draw f__law_number f_Weight_init f_Weight_eq f_written_parts f_Weight_str f_are_figures f_Unread_init f_drams_told f_read_weight f__law_written f__law_spoilt f__law_amount f_law : Addr} (X : K.In h) (G : h.Ns mainGlobals mg) (hfa : mg "law" = some (.ref fa))
    {enm_Unread eq_Unread : Str} {eN_Unread : Addr} {ebs_Unread esub_Unread : List Value} {esn_Unread : List Str} {eab_Unread : Bool} {ecol_Unread : Option Bool} {edd_Unread : Option Addr} {e0_Unread e1_Unread e2_Unread e3_Unread e5_Unread : Option Value}
    {oc__law_pen kV__law_pen dc__law_pen pm__law_pen cd__law_pen ct__law_pen : Value} {od__law_pen an__law_pen : Option Addr} {sl__law_pen : Array (Option Value)}
    {oc__law_draw kV__law_draw dc__law_draw pm__law_draw cd__law_draw ct__law_draw : Value} {od__law_draw an__law_draw : Option Addr} {sl__law_draw : Array (Option Value)}
    {oc__law_number kV__law_number dc__law_number pm__law_number cd__law_number ct__law_number : Value} {od__law_number an__law_number : Option Addr} {sl__law_number : Array (Option Value)}
    {oc_Weight_init kV_Weight_init dc_Weight_init pm_Weight_init cd_Weight_init ct_Weight_init : Value} {od_Weight_init an_Weight_init : Option Addr} {sl_Weight_init : Array (Option Value)}
    {t_Weight_init_2 : Tok}
    {t_Weight_init_1 : Tok}
    {t_Weight_init_0 : Tok}
    {T_Weight_init : Addr} {ocT_Weight_init : Value} {odT_Weight_init : Option Addr} {nT_Weight_init : Nat} {slT_Weight_init : Array (Option Value)}
    {oc_Weight_eq kV_Weight_eq dc_Weight_eq pm_Weight_eq cd_Weight_eq ct_Weight_eq : Value} {od_Weight_eq an_Weight_eq : Option Addr} {sl_Weight_eq : Array (Option Value)}
    {oc_written_parts kV_written_parts dc_written_parts pm_written_parts cd_written_parts ct_written_parts : Value} {od_written_parts an_written_parts : Option Addr} {sl_written_parts : Array (Option Value)}
    {oc_Weight_str kV_Weight_str dc_Weight_str pm_Weight_str cd_Weight_str ct_Weight_str : Value} {od_Weight_str an_Weight_str : Option Addr} {sl_Weight_str : Array (Option Value)}
    {oc_are_figures kV_are_figures dc_are_figures pm_are_figures cd_are_figures ct_are_figures : Value} {od_are_figures an_are_figures : Option Addr} {sl_are_figures : Array (Option Value)}
    {oc_Unread_init kV_Unread_init dc_Unread_init pm_Unread_init cd_Unread_init ct_Unread_init : Value} {od_Unread_init an_Unread_init : Option Addr} {sl_Unread_init : Array (Option Value)}
    {oc_drams_told kV_drams_told dc_drams_told pm_drams_told cd_drams_told ct_drams_told : Value} {od_drams_told an_drams_told : Option Addr} {sl_drams_told : Array (Option Value)}
    {oc_read_weight kV_read_weight dc_read_weight pm_read_weight cd_read_weight ct_read_weight : Value} {od_read_weight an_read_weight : Option Addr} {sl_read_weight : Array (Option Value)}
    {oc__law_written kV__law_written dc__law_written pm__law_written cd__law_written ct__law_written : Value} {od__law_written an__law_written : Option Addr} {sl__law_written : Array (Option Value)}
    {oc__law_spoilt kV__law_spoilt dc__law_spoilt pm__law_spoilt cd__law_spoilt ct__law_spoilt : Value} {od__law_spoilt an__law_spoilt : Option Addr} {sl__law_spoilt : Array (Option Value)}
    {oc__law_amount kV__law_amount dc__law_amount pm__law_amount cd__law_amount ct__law_amount : Value} {od__law_amount an__law_amount : Option Addr} {sl__law_amount : Array (Option Value)}
    {oc_law kV_law dc_law pm_law cd_law ct_law : Value} {od_law an_law : Option Addr} {sl_law : Array (Option Value)}
    {t_MOST_FIGURES : Tok}
    {D_DRAMS_IN : Addr} {es_DRAMS_IN : Array DictEntry} {n_DRAMS_IN : Nat}
    {t_DRAMS_IN_0 : Tok}
    {t_DRAMS_IN_1 : Tok}
    {t_DRAMS_IN_2 : Tok}
    (aC_Unread : PySem.W.nsIn K mainGlobals "Unread" = some (some (.ref C_Unread)))
    (lC_Unread : K.lookup C_Unread = some (excClassObj enm_Unread eq_Unread C_Unread eN_Unread ebs_Unread [.type "ValueError", .type "Exception", .type "BaseException", .type "object"] true esn_Unread esub_Unread eab_Unread ecol_Unread edd_Unread e0_Unread e1_Unread e2_Unread e3_Unread e5_Unread "ValueError.__new__"))
    (sa_Unread : PySem.W.findIn K (.ref C_Unread) "__setattr__" = some (some (.builtin "object.__setattr__")))
    (ex_Unread : PySem.W.subIn K (.ref C_Unread) (.type "BaseException") = some true)
    (ty_Unread : PySem.W.typeIn K (.ref C_Unread) = some (.type "type"))
    (kc_Unread : PySem.W.keepIn K (.ref C_Unread) = true)
    (ic_Unread : PySem.W.isClsIn K C_Unread = true)
    (hd_Unread : PySem.W.hasDictIn K C_Unread = true)
    (ga_Unread : PySem.W.findIn K (.ref C_Unread) "__getattribute__" = some (some (.builtin "BaseException.__getattribute__")))
    (gg_Unread : PySem.W.findIn K (.ref C_Unread) "__getattr__" = some none)
    (ha_Unread : PySem.W.findIn K (.ref C_Unread) "__class__" = some (some (.builtin "object.__class__")))
    (mo_Unread : PySem.W.mroIn K C_Unread (.type "object") = some true)
    (so_Unread : PySem.W.subIn K (.ref C_Unread) (.ref C_Unread) = some true)
    (na_Unread_text : PySem.W.findIn K (.ref C_Unread) "text" = some none)
    (ti_Unread_init : PySem.W.typeIn K (.ref f_Unread_init) = some (.type "function"))
    (se_Unread_ValueError : PySem.W.subIn K (.ref C_Unread) (.type "ValueError") = some true)
    (vi_ValueError : PySem.W.findCls K (.type "ValueError") (.type "type") "__init__" = some (.val (.builtin "ValueError.__init__")))
    (aC_Weight : PySem.W.nsIn K mainGlobals "Weight" = some (some (.ref C_Weight)))
    (pg_Weight : PySem.W.plainGet K C_Weight Str.empty = true)
    (hd_Weight : PySem.W.hasDictIn K C_Weight = true)
    (po_Weight : PySem.W.plainOver K C_Weight = true)
    (sa_Weight : PySem.W.findIn K (.ref C_Weight) "__setattr__" = some (some (.builtin "object.__setattr__")))
    (na_Weight_drams : PySem.W.findIn K (.ref C_Weight) "drams" = some none)
    (mks_Weight : PySem.W.makesIn K C_Weight = true)
    (kc_Weight : PySem.W.keepIn K (.ref C_Weight) = true)
    (ne_Weight : PySem.W.findIn K (.ref C_Weight) "__ne__" = some (some (.builtin "object.__ne__")))
    (fo_Weight : PySem.W.findIn K (.ref C_Weight) "__format__" = some (some (.builtin "object.__format__")))
    (ha_Weight : PySem.W.findIn K (.ref C_Weight) "__class__" = some (some (.builtin "object.__class__")))
    (mo_Weight : PySem.W.mroIn K C_Weight (.type "object") = some true)
    (nF_Weight_own : PySem.W.notFirst K C_Weight (.ref C_Weight) = true)
    (nF_Weight_NoneType : PySem.W.notFirst K C_Weight (.type "NoneType") = true)
    (ic_Weight : PySem.W.isClsIn K C_Weight = true)
    (ty_Weight : PySem.W.typeIn K (.ref C_Weight) = some (.type "type"))
    (su_Weight_NoneType : PySem.W.subIn K (.type "NoneType") (.ref C_Weight) = some false)
    (hn : PySem.W.specialIn K (.builtin "object.__class__") "__get__" = some (some (.builtin "getset_descriptor.__get__")))
    (ht : PySem.W.takesIn K (.builtin "object.__class__") = some true)
    (a__law_pen : PySem.W.nsIn K mainGlobals "_law_pen" = some (some (.ref f__law_pen)))
    (l__law_pen : K.lookup f__law_pen = some ⟨oc__law_pen, od__law_pen, .func (PySem.W.fnOf "_law_pen" "_law_pen" (defArgs s__law_pen) (defBody s__law_pen) (defScope s__law_pen) .none kV__law_pen dc__law_pen pm__law_pen an__law_pen cd__law_pen ct__law_pen), sl__law_pen⟩)
    (c__law_pen : PySem.W.codeIn K cd__law_pen "_law_pen" = true)
    (k__law_pen : PySem.W.keepIn K (.ref f__law_pen) = true)
    (a__law_draw : PySem.W.nsIn K mainGlobals "_law_draw" = some (some (.ref f__law_draw)))
    (l__law_draw : K.lookup f__law_draw = some ⟨oc__law_draw, od__law_draw, .func (PySem.W.fnOf "_law_draw" "_law_draw" (defArgs s__law_draw) (defBody s__law_draw) (defScope s__law_draw) .none kV__law_draw dc__law_draw pm__law_draw an__law_draw cd__law_draw ct__law_draw), sl__law_draw⟩)
    (c__law_draw : PySem.W.codeIn K cd__law_draw "_law_draw" = true)
    (k__law_draw : PySem.W.keepIn K (.ref f__law_draw) = true)
    (a__law_number : PySem.W.nsIn K mainGlobals "_law_number" = some (some (.ref f__law_number)))
    (l__law_number : K.lookup f__law_number = some ⟨oc__law_number, od__law_number, .func (PySem.W.fnOf "_law_number" "_law_number" (defArgs s__law_number) (defBody s__law_number) (defScope s__law_number) .none kV__law_number dc__law_number pm__law_number an__law_number cd__law_number ct__law_number), sl__law_number⟩)
    (c__law_number : PySem.W.codeIn K cd__law_number "_law_number" = true)
    (k__law_number : PySem.W.keepIn K (.ref f__law_number) = true)
    (a_Weight_init : PySem.W.findIn K (.ref C_Weight) "__init__" = some (some (.ref f_Weight_init)))
    (i_Weight_init : PySem.W.isFn K (.ref f_Weight_init) = true)
    (l_Weight_init : K.lookup f_Weight_init = some ⟨oc_Weight_init, od_Weight_init, .func (PySem.W.fnOf "__init__" "Weight.__init__" (defArgs s_Weight_init) (defBody s_Weight_init) (defScope s_Weight_init) (.ref T_Weight_init) kV_Weight_init dc_Weight_init pm_Weight_init an_Weight_init cd_Weight_init ct_Weight_init), sl_Weight_init⟩)
    (c_Weight_init : PySem.W.codeIn K cd_Weight_init "Weight.__init__" = true)
    (k_Weight_init : PySem.W.keepIn K (.ref f_Weight_init) = true)
    (lT_Weight_init : K.lookup T_Weight_init = some ⟨ocT_Weight_init, odT_Weight_init, .seq (List.toArray [Value.int 0 t_Weight_init_0, Value.int 0 t_Weight_init_1, Value.int 0 t_Weight_init_2]) nT_Weight_init, slT_Weight_init⟩)
    (a_Weight_eq : PySem.W.findIn K (.ref C_Weight) "__eq__" = some (some (.ref f_Weight_eq)))
    (i_Weight_eq : PySem.W.isFn K (.ref f_Weight_eq) = true)
    (l_Weight_eq : K.lookup f_Weight_eq = some ⟨oc_Weight_eq, od_Weight_eq, .func (PySem.W.fnOf "__eq__" "Weight.__eq__" (defArgs s_Weight_eq) (defBody s_Weight_eq) (defScope s_Weight_eq) .none kV_Weight_eq dc_Weight_eq pm_Weight_eq an_Weight_eq cd_Weight_eq ct_Weight_eq), sl_Weight_eq⟩)
    (c_Weight_eq : PySem.W.codeIn K cd_Weight_eq "Weight.__eq__" = true)
    (k_Weight_eq : PySem.W.keepIn K (.ref f_Weight_eq) = true)
    (a_written_parts : PySem.W.nsIn K mainGlobals "written_parts" = some (some (.ref f_written_parts)))
    (l_written_parts : K.lookup f_written_parts = some ⟨oc_written_parts, od_written_parts, .func (PySem.W.fnOf "written_parts" "written_parts" (defArgs s_written_parts) (defBody s_written_parts) (defScope s_written_parts) .none kV_written_parts dc_written_parts pm_written_parts an_written_parts cd_written_parts ct_written_parts), sl_written_parts⟩)
    (c_written_parts : PySem.W.codeIn K cd_written_parts "written_parts" = true)
    (k_written_parts : PySem.W.keepIn K (.ref f_written_parts) = true)
    (a_Weight_str : PySem.W.findIn K (.ref C_Weight) "__str__" = some (some (.ref f_Weight_str)))
    (i_Weight_str : PySem.W.isFn K (.ref f_Weight_str) = true)
    (l_Weight_str : K.lookup f_Weight_str = some ⟨oc_Weight_str, od_Weight_str, .func (PySem.W.fnOf "__str__" "Weight.__str__" (defArgs s_Weight_str) (defBody s_Weight_str) (defScope s_Weight_str) .none kV_Weight_str dc_Weight_str pm_Weight_str an_Weight_str cd_Weight_str ct_Weight_str), sl_Weight_str⟩)
    (c_Weight_str : PySem.W.codeIn K cd_Weight_str "Weight.__str__" = true)
    (k_Weight_str : PySem.W.keepIn K (.ref f_Weight_str) = true)
    (a_are_figures : PySem.W.nsIn K mainGlobals "are_figures" = some (some (.ref f_are_figures)))
    (l_are_figures : K.lookup f_are_figures = some ⟨oc_are_figures, od_are_figures, .func (PySem.W.fnOf "are_figures" "are_figures" (defArgs s_are_figures) (defBody s_are_figures) (defScope s_are_figures) .none kV_are_figures dc_are_figures pm_are_figures an_are_figures cd_are_figures ct_are_figures), sl_are_figures⟩)
    (c_are_figures : PySem.W.codeIn K cd_are_figures "are_figures" = true)
    (k_are_figures : PySem.W.keepIn K (.ref f_are_figures) = true)
    (a_Unread_init : PySem.W.findIn K (.ref C_Unread) "__init__" = some (some (.ref f_Unread_init)))
    (i_Unread_init : PySem.W.isFn K (.ref f_Unread_init) = true)
    (l_Unread_init : K.lookup f_Unread_init = some ⟨oc_Unread_init, od_Unread_init, .func (PySem.W.fnOf "__init__" "Unread.__init__" (defArgs s_Unread_init) (defBody s_Unread_init) (defScope s_Unread_init) .none kV_Unread_init dc_Unread_init pm_Unread_init an_Unread_init cd_Unread_init ct_Unread_init), sl_Unread_init⟩)
    (c_Unread_init : PySem.W.codeIn K cd_Unread_init "Unread.__init__" = true)
    (k_Unread_init : PySem.W.keepIn K (.ref f_Unread_init) = true)
    (a_drams_told : PySem.W.nsIn K mainGlobals "drams_told" = some (some (.ref f_drams_told)))
    (l_drams_told : K.lookup f_drams_told = some ⟨oc_drams_told, od_drams_told, .func (PySem.W.fnOf "drams_told" "drams_told" (defArgs s_drams_told) (defBody s_drams_told) (defScope s_drams_told) .none kV_drams_told dc_drams_told pm_drams_told an_drams_told cd_drams_told ct_drams_told), sl_drams_told⟩)
    (c_drams_told : PySem.W.codeIn K cd_drams_told "drams_told" = true)
    (k_drams_told : PySem.W.keepIn K (.ref f_drams_told) = true)
    (a_read_weight : PySem.W.nsIn K mainGlobals "read_weight" = some (some (.ref f_read_weight)))
    (l_read_weight : K.lookup f_read_weight = some ⟨oc_read_weight, od_read_weight, .func (PySem.W.fnOf "read_weight" "read_weight" (defArgs s_read_weight) (defBody s_read_weight) (defScope s_read_weight) .none kV_read_weight dc_read_weight pm_read_weight an_read_weight cd_read_weight ct_read_weight), sl_read_weight⟩)
    (c_read_weight : PySem.W.codeIn K cd_read_weight "read_weight" = true)
    (k_read_weight : PySem.W.keepIn K (.ref f_read_weight) = true)
    (a__law_written : PySem.W.nsIn K mainGlobals "_law_written" = some (some (.ref f__law_written)))
    (l__law_written : K.lookup f__law_written = some ⟨oc__law_written, od__law_written, .func (PySem.W.fnOf "_law_written" "_law_written" (defArgs s__law_written) (defBody s__law_written) (defScope s__law_written) .none kV__law_written dc__law_written pm__law_written an__law_written cd__law_written ct__law_written), sl__law_written⟩)
    (c__law_written : PySem.W.codeIn K cd__law_written "_law_written" = true)
    (k__law_written : PySem.W.keepIn K (.ref f__law_written) = true)
    (a__law_spoilt : PySem.W.nsIn K mainGlobals "_law_spoilt" = some (some (.ref f__law_spoilt)))
    (l__law_spoilt : K.lookup f__law_spoilt = some ⟨oc__law_spoilt, od__law_spoilt, .func (PySem.W.fnOf "_law_spoilt" "_law_spoilt" (defArgs s__law_spoilt) (defBody s__law_spoilt) (defScope s__law_spoilt) .none kV__law_spoilt dc__law_spoilt pm__law_spoilt an__law_spoilt cd__law_spoilt ct__law_spoilt), sl__law_spoilt⟩)
    (c__law_spoilt : PySem.W.codeIn K cd__law_spoilt "_law_spoilt" = true)
    (k__law_spoilt : PySem.W.keepIn K (.ref f__law_spoilt) = true)
    (a__law_amount : PySem.W.nsIn K mainGlobals "_law_amount" = some (some (.ref f__law_amount)))
    (l__law_amount : K.lookup f__law_amount = some ⟨oc__law_amount, od__law_amount, .func (PySem.W.fnOf "_law_amount" "_law_amount" (defArgs s__law_amount) (defBody s__law_amount) (defScope s__law_amount) .none kV__law_amount dc__law_amount pm__law_amount an__law_amount cd__law_amount ct__law_amount), sl__law_amount⟩)
    (c__law_amount : PySem.W.codeIn K cd__law_amount "_law_amount" = true)
    (k__law_amount : PySem.W.keepIn K (.ref f__law_amount) = true)
    (a_law : PySem.W.nsIn K mainGlobals "law" = some (some (.ref f_law)))
    (l_law : K.lookup f_law = some ⟨oc_law, od_law, .func (PySem.W.fnOf "law" "law" (defArgs s_law) (defBody s_law) (defScope s_law) .none kV_law dc_law pm_law an_law cd_law ct_law), sl_law⟩)
    (c_law : PySem.W.codeIn K cd_law "law" = true)
    (k_law : PySem.W.keepIn K (.ref f_law) = true)
    (z_ValueError : PySem.W.nsIn K mainGlobals "ValueError" = some none)
    (z_abs : PySem.W.nsIn K mainGlobals "abs" = some none)
    (z_divmod : PySem.W.nsIn K mainGlobals "divmod" = some none)
    (z_int : PySem.W.nsIn K mainGlobals "int" = some none)
    (z_isinstance : PySem.W.nsIn K mainGlobals "isinstance" = some none)
    (z_len : PySem.W.nsIn K mainGlobals "len" = some none)
    (z_min : PySem.W.nsIn K mainGlobals "min" = some none)
    (z_range : PySem.W.nsIn K mainGlobals "range" = some none)
    (z_str : PySem.W.nsIn K mainGlobals "str" = some none)
    (z_zip : PySem.W.nsIn K mainGlobals "zip" = some none)
    (g_MOST_FIGURES : PySem.W.nsIn K mainGlobals "MOST_FIGURES" = some (some (Value.int 12 t_MOST_FIGURES)))
    (aD_DRAMS_IN : PySem.W.nsIn K mainGlobals "DRAMS_IN" = some (some (.ref D_DRAMS_IN)))
    (lD_DRAMS_IN : K.lookup D_DRAMS_IN = some ⟨.type "dict", none, .dict es_DRAMS_IN n_DRAMS_IN, #[]⟩)
    (lo_DRAMS_IN : (D_DRAMS_IN == sysModules) = false)
    (kl_DRAMS_IN : PySem.W.KeysLit w.params es_DRAMS_IN.toList)
    (nD_DRAMS_IN_0 : PySem.W.nsIn K D_DRAMS_IN "lb" = some (some (Value.int 256 t_DRAMS_IN_0)))
    (nD_DRAMS_IN_1 : PySem.W.nsIn K D_DRAMS_IN "oz" = some (some (Value.int 16 t_DRAMS_IN_1)))
    (nD_DRAMS_IN_2 : PySem.W.nsIn K D_DRAMS_IN "dr" = some (some (Value.int 1 t_DRAMS_IN_2)))
    (ro_DRAMS_IN : rowsOk es_DRAMS_IN.toList [(.str "lb", .int 256), (.str "oz", .int 16), (.str "dr", .int 1)])
    : ∃ fd : FuncData, (∀ (s : Shared) (v : Value), BindsTo s fd ⟨[v], []⟩ [("script", v)]) ∧ ∀ base : Heap, K.In base → base.Ns mainGlobals mg → FnOk l.prog w K mg base CX0 8 fa fd ["script"] (sp_law0 K) := by
  have e : fa = f_law := by
    have z := hfa.symm.trans (PySem.W.mg_of X G a_law)
    cases z
    rfl
  have T : ∃ T : Txt K mg, T.f_law = fa ∧ T.PP = w.params ∧ ∀ (s : Shared) (v : Value), BindsTo s T.fd_law ⟨[v], []⟩ [("script", v)] := by
    refine ⟨{ C_Unread := C_Unread, C_Weight := C_Weight, f__law_pen := f__law_pen, f__law_draw := f__law_draw, f__law_number := f__law_number, f_Weight_init := f_Weight_init, f_Weight_eq := f_Weight_eq, f_written_parts := f_written_parts, f_Weight_str := f_Weight_str, f_are_figures := f_are_figures, f_Unread_init := f_Unread_init, f_drams_told := f_drams_told, f_read_weight := f_read_weight, f__law_written := f__law_written, f__law_spoilt := f__law_spoilt, f__law_amount := f__law_amount, f_law := f_law, fd__law_pen := _, fd__law_draw := _, fd__law_number := _, fd_Weight_init := _, fd_Weight_eq := _, fd_written_parts := _, fd_Weight_str := _, fd_are_figures := _, fd_Unread_init := _, fd_drams_told := _, fd_read_weight := _, fd__law_written := _, fd__law_spoilt := _, fd__law_amount := _, fd_law := _, mgc_Unread := PySem.W.mg_of X G aC_Unread, er_Unread := ⟨⟨_, _, _, _, _, _, _, _, _, _, _, _, _, _, _, lC_Unread, by first | rfl | decide +kernel⟩, PySem.F.excBase_ValueError, PySem.F.store_ValueError, sa_Unread, ex_Unread, ty_Unread, kc_Unread⟩, ea_Unread := ⟨ic_Unread, hd_Unread, ga_Unread, gg_Unread, ex_Unread, ha_Unread, hn, ht, mo_Unread⟩, te_Unread := exm_own ex_Unread hd_Unread ty_Unread so_Unread, na_Unread_text := na_Unread_text, ti_Unread_init := ti_Unread_init, ke_Unread_ValueError := kit_ty (by decide +kernel) se_Unread_ValueError, vi_ValueError := vi_ValueError, mgc_Weight := PySem.W.mg_of X G aC_Weight, cl_Weight := ⟨pg_Weight, hd_Weight, po_Weight, sa_Weight⟩, na_Weight_drams := na_Weight_drams, mk_Weight := ⟨mks_Weight, a_Weight_init, i_Weight_init, kc_Weight⟩, ne_Weight := ne_Weight, fo_Weight := fo_Weight, ha_Weight := ha_Weight, mo_Weight := mo_Weight, nF_Weight_own := nF_Weight_own, nF_Weight_NoneType := nF_Weight_NoneType, ki_Weight_own := if_pos (beq_self_eq_true _), ki_Weight_NoneType := kit_own ic_Weight ty_Weight su_Weight_NoneType, hn := hn, ht := ht, mg__law_pen := PySem.W.mg_of X G a__law_pen, F__law_pen := ⟨⟨_, _, _, _, _, _, _, _, _, _, rfl, l__law_pen, c__law_pen, .inl ⟨rfl, rfl⟩, .inl rfl⟩, k__law_pen⟩, mg__law_draw := PySem.W.mg_of X G a__law_draw, F__law_draw := ⟨⟨_, _, _, _, _, _, _, _, _, _, rfl, l__law_draw, c__law_draw, .inl ⟨rfl, rfl⟩, .inl rfl⟩, k__law_draw⟩, mg__law_number := PySem.W.mg_of X G a__law_number, F__law_number := ⟨⟨_, _, _, _, _, _, _, _, _, _, rfl, l__law_number, c__law_number, .inl ⟨rfl, rfl⟩, .inl rfl⟩, k__law_number⟩, m_Weight_init := ⟨a_Weight_init, i_Weight_init, k_Weight_init⟩, F_Weight_init := ⟨⟨_, _, _, _, _, _, _, _, _, _, rfl, l_Weight_init, c_Weight_init, .inr ⟨by simp, T_Weight_init, _, [Value.int 0 t_Weight_init_0, Value.int 0 t_Weight_init_1, Value.int 0 t_Weight_init_2], _, rfl, lT_Weight_init, rfl, .cons ⟨_, rfl⟩ (.cons ⟨_, rfl⟩ (.cons ⟨_, rfl⟩ .nil))⟩, .inl rfl⟩, k_Weight_init⟩, m_Weight_eq := ⟨a_Weight_eq, i_Weight_eq, k_Weight_eq⟩, F_Weight_eq := ⟨⟨_, _, _, _, _, _, _, _, _, _, rfl, l_Weight_eq, c_Weight_eq, .inl ⟨rfl, rfl⟩, .inl rfl⟩, k_Weight_eq⟩, mg_written_parts := PySem.W.mg_of X G a_written_parts, F_written_parts := ⟨⟨_, _, _, _, _, _, _, _, _, _, rfl, l_written_parts, c_written_parts, .inl ⟨rfl, rfl⟩, .inl rfl⟩, k_written_parts⟩, m_Weight_str := ⟨a_Weight_str, i_Weight_str, k_Weight_str⟩, F_Weight_str := ⟨⟨_, _, _, _, _, _, _, _, _, _, rfl, l_Weight_str, c_Weight_str, .inl ⟨rfl, rfl⟩, .inl rfl⟩, k_Weight_str⟩, mg_are_figures := PySem.W.mg_of X G a_are_figures, F_are_figures := ⟨⟨_, _, _, _, _, _, _, _, _, _, rfl, l_are_figures, c_are_figures, .inl ⟨rfl, rfl⟩, .inl rfl⟩, k_are_figures⟩, m_Unread_init := ⟨a_Unread_init, i_Unread_init, k_Unread_init⟩, F_Unread_init := ⟨⟨_, _, _, _, _, _, _, _, _, _, rfl, l_Unread_init, c_Unread_init, .inl ⟨rfl, rfl⟩, .inl rfl⟩, k_Unread_init⟩, mg_drams_told := PySem.W.mg_of X G a_drams_told, F_drams_told := ⟨⟨_, _, _, _, _, _, _, _, _, _, rfl, l_drams_told, c_drams_told, .inl ⟨rfl, rfl⟩, .inl rfl⟩, k_drams_told⟩, mg_read_weight := PySem.W.mg_of X G a_read_weight, F_read_weight := ⟨⟨_, _, _, _, _, _, _, _, _, _, rfl, l_read_weight, c_read_weight, .inl ⟨rfl, rfl⟩, .inl rfl⟩, k_read_weight⟩, mg__law_written := PySem.W.mg_of X G a__law_written, F__law_written := ⟨⟨_, _, _, _, _, _, _, _, _, _, rfl, l__law_written, c__law_written, .inl ⟨rfl, rfl⟩, .inl rfl⟩, k__law_written⟩, mg__law_spoilt := PySem.W.mg_of X G a__law_spoilt, F__law_spoilt := ⟨⟨_, _, _, _, _, _, _, _, _, _, rfl, l__law_spoilt, c__law_spoilt, .inl ⟨rfl, rfl⟩, .inl rfl⟩, k__law_spoilt⟩, mg__law_amount := PySem.W.mg_of X G a__law_amount, F__law_amount := ⟨⟨_, _, _, _, _, _, _, _, _, _, rfl, l__law_amount, c__law_amount, .inl ⟨rfl, rfl⟩, .inl rfl⟩, k__law_amount⟩, mg_law := PySem.W.mg_of X G a_law, F_law := ⟨⟨_, _, _, _, _, _, _, _, _, _, rfl, l_law, c_law, .inl ⟨rfl, rfl⟩, .inl rfl⟩, k_law⟩, b_ValueError := PySem.W.mg_none_of X G z_ValueError, b_abs := PySem.W.mg_none_of X G z_abs, b_divmod := PySem.W.mg_none_of X G z_divmod, b_int := PySem.W.mg_none_of X G z_int, b_isinstance := PySem.W.mg_none_of X G z_isinstance, b_len := PySem.W.mg_none_of X G z_len, b_min := PySem.W.mg_none_of X G z_min, b_range := PySem.W.mg_none_of X G z_range, b_str := PySem.W.mg_none_of X G z_str, b_zip := PySem.W.mg_none_of X G z_zip, g_MOST_FIGURES := ⟨_, PySem.W.mg_of X G g_MOST_FIGURES, ⟨_, rfl⟩⟩, PP := w.params, D_DRAMS_IN := D_DRAMS_IN, es_DRAMS_IN := es_DRAMS_IN, n_DRAMS_IN := n_DRAMS_IN, gd_DRAMS_IN := PySem.W.mg_of X G aD_DRAMS_IN, nD_DRAMS_IN_lb := ⟨_, nD_DRAMS_IN_0, ⟨_, rfl⟩⟩, nD_DRAMS_IN_oz := ⟨_, nD_DRAMS_IN_1, ⟨_, rfl⟩⟩, nD_DRAMS_IN_dr := ⟨_, nD_DRAMS_IN_2, ⟨_, rfl⟩⟩, rk_DRAMS_IN := ro_DRAMS_IN, lD_DRAMS_IN := lD_DRAMS_IN, lo_DRAMS_IN := lo_DRAMS_IN, kl_DRAMS_IN := kl_DRAMS_IN, ro_DRAMS_IN := rowsE_of ro_DRAMS_IN }, e.symm, rfl, fun s v => .of_eq rfl⟩
  obtain ⟨T, rfl, hw, hb⟩ := T
  exact ⟨T.fd_law, hb, fun base _ _ => ok_law T hw⟩
theorem walk {l : PySem.W.OpenLaw} {q : Program} {loose : List Str} {XP : (Str → Option Value) → Heap → Prop} {YP : World → Heap → Prop} {d : DefRec} {K : Params → PySem.W.Frag} (hn : l.most = some 63) (hdf : d.params.defaults = [])
    (hY : ∀ (w : World) (h : Heap), YP w h → (K w.params).In h)
    (F : ∀ (w : World) (mg : Str → Option Value) (fa : Addr) (h : Heap), (K w.params).In h → h.Ns mainGlobals mg → mg d.name = some (.ref fa) →
      ∃ fd : FuncData, (∀ (s : Shared) (u : Value), BindsTo s fd ⟨[u], []⟩ [("script", u)]) ∧ ∀ base : Heap, (K w.params).In base → base.Ns mainGlobals mg → FnOk l.prog w (K w.params) mg base CX0 8 fa fd ["script"] (sp_law0 (K w.params))) :
    PySem.W.WalkO q loose XP YP l.row.toRowW d [] (fun f vs => PySem.call f vs) :=
  L2.walk_of (n := 63) (k := 8) (x := "script") (CX := fun _ => CX0) (sp := fun w => sp_law0 (K w.params)) hn (by decide) hdf ⟨rfl, by decide, by decide⟩ hY F (fun _ _ a ns hl _ hS => ⟨a, ns, rfl, hS, hl, fun _ => rfl⟩) fun _ _ _ _ _ z => z
end Law
open PySem PySem.W PyProof.Rows
set_option maxRecDepth 100000 in
set_option maxHeartbeats 0 in
theorem PySem.Challenge.cw_yarnback_k03_what_writes_no_weight_holds : PySem.Challenge.rw_yarnback_k03_what_writes_no_weight.Holds := by
  w_on; o_law; k_head; (case hw => w_witness2)
  k_fill
  refine Law.walk (l := PySem.Challenge.rw_yarnback_k03_what_writes_no_weight) rfl rfl (fun w h Y => PySem.W.kIn_of Y) ?F
  case F =>
    intro w mg fa h KX G hmg
    refine' Law.all_mk KX G hmg ?aC_Unread ?lC_Unread ?sa_Unread ?ex_Unread ?ty_Unread ?kc_Unread ?ic_Unread ?hd_Unread ?ga_Unread ?gg_Unread ?ha_Unread ?mo_Unread ?so_Unread ?na_Unread_text ?ti_Unread_init ?se_Unread_ValueError ?vi_ValueError ?aC_Weight ?pg_Weight ?hd_Weight ?po_Weight ?sa_Weight ?na_Weight_drams ?mks_Weight ?kc_Weight ?ne_Weight ?fo_Weight ?ha_Weight ?mo_Weight ?nF_Weight_own ?nF_Weight_NoneType ?ic_Weight ?ty_Weight ?su_Weight_NoneType ?hn ?ht ?a__law_pen ?l__law_pen ?c__law_pen ?k__law_pen ?a__law_draw ?l__law_draw ?c__law_draw ?k__law_draw ?a__law_number ?l__law_number ?c__law_number ?k__law_number ?a_Weight_init ?i_Weight_init ?l_Weight_init ?c_Weight_init ?k_Weight_init ?lT_Weight_init ?a_Weight_eq ?i_Weight_eq ?l_Weight_eq ?c_Weight_eq ?k_Weight_eq ?a_written_parts ?l_written_parts ?c_written_parts ?k_written_parts ?a_Weight_str ?i_Weight_str ?l_Weight_str ?c_Weight_str ?k_Weight_str ?a_are_figures ?l_are_figures ?c_are_figures ?k_are_figures ?a_Unread_init ?i_Unread_init ?l_Unread_init ?c_Unread_init ?k_Unread_init ?a_drams_told ?l_drams_told ?c_drams_told ?k_drams_told ?a_read_weight ?l_read_weight ?c_read_weight ?k_read_weight ?a__law_written ?l__law_written ?c__law_written ?k__law_written ?a__law_spoilt ?l__law_spoilt ?c__law_spoilt ?k__law_spoilt ?a__law_amount ?l__law_amount ?c__law_amount ?k__law_amount ?a_law ?l_law ?c_law ?k_law ?z_ValueError ?z_abs ?z_divmod ?z_int ?z_isinstance ?z_len ?z_min ?z_range ?z_str ?z_zip ?g_MOST_FIGURES ?aD_DRAMS_IN ?lD_DRAMS_IN ?lo_DRAMS_IN ?kl_DRAMS_IN ?nD_DRAMS_IN_0 ?nD_DRAMS_IN_1 ?nD_DRAMS_IN_2 ?ro_DRAMS_IN
    (case aC_Unread => k_is)
    (case lC_Unread => k_is)
    (case sa_Unread => k_is)
    (case ex_Unread => k_is)
    (case ty_Unread => k_is)
    (case kc_Unread => k_is)
    (case ic_Unread => k_is)
    (case hd_Unread => k_is)
    (case ga_Unread => k_is)
    (case gg_Unread => k_is)
    (case ha_Unread => k_is)
    (case mo_Unread => k_is)
    (case so_Unread => first | rfl | k_is)
    (case na_Unread_text => k_is)
    (case se_Unread_ValueError => k_is)
    (case vi_ValueError => k_is)
    (case aC_Weight => k_is)
    (case pg_Weight => k_is)
    (case hd_Weight => k_is)
    (case po_Weight => k_is)
    (case sa_Weight => k_is)
    (case na_Weight_drams => k_is)
    (case mks_Weight => k_is)
    (case kc_Weight => k_is)
    (case ne_Weight => k_is)
    (case fo_Weight => k_is)
    (case ha_Weight => k_is)
    (case mo_Weight => k_is)
    (case nF_Weight_own => k_is)
    (case nF_Weight_NoneType => k_is)
    (case ic_Weight => k_is)
    (case ty_Weight => k_is)
    (case su_Weight_NoneType => k_is)
    (case hn => k_is)
    (case ht => k_is)
    (case a__law_pen => k_is)
    (case l__law_pen => k_is)
    (case c__law_pen => k_is)
    (case k__law_pen => k_is)
    (case a__law_draw => k_is)
    (case l__law_draw => k_is)
    (case c__law_draw => k_is)
    (case k__law_draw => k_is)
    (case a__law_number => k_is)
    (case l__law_number => k_is)
    (case c__law_number => k_is)
    (case k__law_number => k_is)
    (case a_Weight_init => k_is)
    (case i_Weight_init => k_is)
    (case l_Weight_init => k_is)
    (case c_Weight_init => k_is)
    (case k_Weight_init => k_is)
    (case lT_Weight_init => k_is)
    (case a_Weight_eq => k_is)
    (case i_Weight_eq => k_is)
    (case l_Weight_eq => k_is)
    (case c_Weight_eq => k_is)
    (case k_Weight_eq => k_is)
    (case a_written_parts => k_is)
    (case l_written_parts => k_is)
    (case c_written_parts => k_is)
    (case k_written_parts => k_is)
    (case a_Weight_str => k_is)
    (case i_Weight_str => k_is)
    (case l_Weight_str => k_is)
    (case c_Weight_str => k_is)
    (case k_Weight_str => k_is)
    (case a_are_figures => k_is)
    (case l_are_figures => k_is)
    (case c_are_figures => k_is)
    (case k_are_figures => k_is)
    (case a_Unread_init => k_is)
    (case i_Unread_init => k_is)
    (case l_Unread_init => k_is)
    (case c_Unread_init => k_is)
    (case k_Unread_init => k_is)
    (case a_drams_told => k_is)
    (case l_drams_told => k_is)
    (case c_drams_told => k_is)
    (case k_drams_told => k_is)
    (case a_read_weight => k_is)
    (case l_read_weight => k_is)
    (case c_read_weight => k_is)
    (case k_read_weight => k_is)
    (case a__law_written => k_is)
    (case l__law_written => k_is)
    (case c__law_written => k_is)
    (case k__law_written => k_is)
    (case a__law_spoilt => k_is)
    (case l__law_spoilt => k_is)
    (case c__law_spoilt => k_is)
    (case k__law_spoilt => k_is)
    (case a__law_amount => k_is)
    (case l__law_amount => k_is)
    (case c__law_amount => k_is)
    (case k__law_amount => k_is)
    (case a_law => k_is)
    (case l_law => k_is)
    (case c_law => k_is)
    (case k_law => k_is)
    (case z_ValueError => k_is)
    (case z_abs => k_is)
    (case z_divmod => k_is)
    (case z_int => k_is)
    (case z_isinstance => k_is)
    (case z_len => k_is)
    (case z_min => k_is)
    (case z_range => k_is)
    (case z_str => k_is)
    (case z_zip => k_is)
    (case g_MOST_FIGURES => k_is)
    (case aD_DRAMS_IN => k_is)
    (case lD_DRAMS_IN => k_is)
    (case lo_DRAMS_IN => first | rfl | decide +kernel | k_is)
    (case kl_DRAMS_IN => exact ⟨⟨_, _, rfl, rfl⟩, ⟨_, _, rfl, rfl⟩, ⟨_, _, rfl, rfl⟩, trivial⟩)
    (case nD_DRAMS_IN_0 => k_is)
    (case nD_DRAMS_IN_1 => k_is)
    (case nD_DRAMS_IN_2 => k_is)
    (case ro_DRAMS_IN => exact ⟨⟨⟨_, rfl⟩, ⟨_, rfl⟩⟩, ⟨⟨_, rfl⟩, ⟨_, rfl⟩⟩, ⟨⟨_, rfl⟩, ⟨_, rfl⟩⟩, trivial⟩)
    (case ti_Unread_init => k_is)
