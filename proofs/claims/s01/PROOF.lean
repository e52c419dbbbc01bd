import PyProof.Rows.All
import Wide.All
import OpenK.AllK
import Wide.FinOn
import Open.Spec
import PyProof.EqAt
import PyProof.EqKinds
import PyProof.TupleCall
import KE.KStateDown
import KE.OsHead
import KE.OsGo
import Open.SpecLaws
import HandS.ForSpec
import HandS.ForMost
import HandS.TryMany
import HandS.Flow
import HandS.More
import HandS.Conv
import HandS.TupAny
import HandS.WideBits
import HandS.Steps
import HandS.Defaults
import HandS.HeadHook1
import HandS.HeadHook2
import KE.KExcInit
import HandS.ExcInit
import HandS.ClsMeth
import PyProof.DictTable
import HandS.Head4
import HandS.HeadNt
import HandS.Head0
import HandS.Head1
import HandS.Head2
import HandS.Head3
import HandS.Walk
import HandS.Wide
import HandS.WideMore
import HandS.ListItems
import HandS.Zip
import HandS.WordsExc
import PyFlatLaws
import KE.OsShapes
import PySem.Challenge.RW_leafvalues_s01_answers
set_option Elab.async false
set_option linter.all false
set_option Elab.async false
set_option linter.all false
set_option maxRecDepth 100000
set_option maxHeartbeats 4000000
/-! The looks at the text itself. -/
namespace Lv
open PySem PySem.Spec
abbrev R : PySem.W.OpenSpec := PySem.Challenge.rw_leafvalues_s01_answers
theorem said : R.wellSaid = true := by decide +kernel
theorem bare_R : R.prog.bare := ⟨rfl, rfl, rfl, rfl, rfl, by decide +kernel⟩
end Lv
set_option Elab.async false
set_option linter.all false
set_option maxRecDepth 100000
set_option maxHeartbeats 4000000
/-! Rules by names: calls of defs and methods that keep their promises, fields of a class that is known. -/
namespace Lv
open PySem PySem.Spec PyProof.Rows L2

/-! ### what stands behind a name -/
/-- the def called x keeps the promise sp -/
def FnAt (P : Program) (w : World) (K : PySem.W.Frag) (mg : Str → Option Value) (base : Heap) (CX : CXT) (k : Nat) (x : Str) (ps : List Str) (sp : Sp) : Prop :=
  ∃ f fd, mg x = some (.ref f) ∧ FnOk P w K mg base CX k f fd ps sp ∧ Binds K fd ps [] ∧ PySem.W.keepIn K (.ref f) = true
/-- the method m of the class at C keeps the promise sp -/
def MeAt (P : Program) (w : World) (K : PySem.W.Frag) (mg : Str → Option Value) (base : Heap) (CX : CXT) (k : Nat) (C : Addr) (m : Str) (ps : List Str) (sp : Sp) : Prop :=
  ∃ f fd, Cls K C ∧ Meth K C m f ∧ FnOk P w K mg base CX k f fd ps sp ∧ Binds K fd ps []
/-- the class called x stands at C, its __init__ keeps the promise sp -/
def MkAt (P : Program) (w : World) (K : PySem.W.Frag) (mg : Str → Option Value) (base : Heap) (k : Nat) (x : Str) (C : Addr) (ps : List Str) (sp : Sp) : Prop :=
  mg x = some (.ref C) ∧ ∃ f fd, Mk K C f ∧ FnOk P w K mg base CX0 k f fd ps sp ∧ Binds K fd ps []
def NumAt (mg : Str → Option Value) (x : Str) (i : Int) : Prop := ∃ t, mg x = some (.int i t)
def TxtAt (mg : Str → Option Value) (x z : Str) : Prop := ∃ t, mg x = some (.str z t)

section
variable {X : Cx} {k j : Nat} {x m : Str} {ps : List Str} {sp : Sp} {p pos apos : Pos} {o e : Expr} {es : List Expr} {ta : TE} {t : TA} {C : Addr} {W : WX}
theorem pe_num {i : Int} (h : NumAt X.mg x i) (hg : Gl X x := by rfl) (hd : (x == ("__debug__" : Str)) = false := by decide) : PE X (.Name x pos) (tC (.int i)) := by
  obtain ⟨t, h⟩ := h
  exact pe_glob hg h ⟨t, rfl⟩ hd
theorem pe_txt {z : Str} (h : TxtAt X.mg x z) (hg : Gl X x := by rfl) (hd : (x == ("__debug__" : Str)) = false := by decide) : PE X (.Name x pos) (tC (.str z)) := by
  obtain ⟨t, h⟩ := h
  exact pe_glob hg h ⟨t, rfl⟩ hd
theorem pe_adr {a : Addr} (h : X.mg x = some (.ref a)) (hg : Gl X x := by rfl) (hd : (x == ("__debug__" : Str)) = false := by decide) : PE X (.Name x pos) (tC (.ref a)) := pe_glob hg h rfl hd

/-- f(e, ..): what is asked of the callee's promise -/
def tFn (sp : Sp) (E : L2.St → XK) (t : TA) : TE := fun σ H Q => t σ H fun vs H1 => sp vs H1 Q (E σ)
theorem pe_fn (G : FnAt X.prog X.w X.K X.mg X.base CX0 k x ps sp) (hr : Room j X.A) (hk : k ≤ j) (ha : PA X (e :: es) t) (hg : Gl X x := by rfl) (hdb : (x == ("__debug__" : Str)) = false := by decide)
    (he : starEach (e :: es) X.env = (false, eval e X.env) :: starEach es X.env := by rfl) (hpl : (backTo pos (starEach es X.env)).any (·.1) = false := by rfl) :
    PE X (.Call (.Name x p) (e :: es) [] pos) (tFn sp (fun _ => E0) t) := by
  obtain ⟨f, fd, hm, F, hb, kp⟩ := G
  have h := pe_callS (E := fun _ => E0) F (hr.mono hk) hg hm kp hb (fun σ _ _ _ _ _ _ z => z.elim) ha hdb he hpl (p := p) (pos := pos)
  exact h
theorem pe_fnX (G : FnAt X.prog X.w X.K X.mg X.base (L2.CX X.prog X.w) k x ps sp) (hr : Room j X.A) (hk : k ≤ j) (tk : Takes X W) (ha : PA X (e :: es) t) (hg : Gl X x := by rfl) (hdb : (x == ("__debug__" : Str)) = false := by decide)
    (he : starEach (e :: es) X.env = (false, eval e X.env) :: starEach es X.env := by rfl) (hpl : (backTo pos (starEach es X.env)).any (·.1) = false := by rfl) :
    PE X (.Call (.Name x p) (e :: es) [] pos) (tFn sp (WE W) t) := by
  obtain ⟨f, fd, hm, F, hb, kp⟩ := G
  exact pe_callS (E := WE W) F (hr.mono hk) hg hm kp hb (fun σ => passAt tk σ) ha hdb he hpl

/-- o.m(e, ..), o an instance of the class at C -/
def tMe (C : Addr) (m : Str) (sp : Sp) (E : L2.St → XK) (ta : TE) (t : TA) : TE := fun σ H Q => ta σ H fun x H1 => ∃ a dx fs, x = .ref a ∧ H1 a = some (.ins C dx fs) ∧ fs.lookup m = none ∧ t σ H1 fun vs H2 => sp (x :: vs) H2 Q (E σ)
theorem me_core {CX : CXT} {E : L2.St → XK} {pl : Sem Bool} (he : PE X o ta) (G : MeAt X.prog X.w X.K X.mg X.base CX k C m ps sp) (hr : Room j X.A) (hk : k ≤ j) (hx : ∀ σ, PassesAt CX X σ (E σ)) (ha : PA X (e :: es) t)
    (hst : starEach (e :: es) X.env = (false, eval e X.env) :: starEach es X.env) (hpl : (backTo pos (starEach es X.env)).any (·.1) = false)
    (ht : eval (.Call (.Attribute o m apos) (e :: es) [] pos) X.env = (do
      let ov ← eval o X.env
      standAt apos.atName
      let (f, first) ← holding [ov] (getMethod ov m pl)
      callWith pos f first (backTo pos (starEach (e :: es) X.env)) (backToKw pos (keywordEach [] X.env)))) :
    PE X (.Call (.Attribute o m apos) (e :: es) [] pos) (tMe C m sp E ta t) := by
  obtain ⟨f, fd, c, hm, F, hb⟩ := G
  refine ⟨fun pins s σ H Q I h => PySem.W.methodCall_KW (pl := pl) (thn (he.run pins s σ H _ I h) fun u s1 q0 => ?_) ht⟩
  obtain ⟨x, H1, I1, rx, a, dx, fs, ex, ea, l, q⟩ := q0
  subst ex
  obtain rfl : u = Value.ref a := rx
  refine getmeth_ok I1 ea c hm l (PySem.W.callWith_K (first := [.ref a]) (h₀ := X.base) I.ok.mod.kin hm.kp (thn (ha.run pos pins s1 σ H1 _ I1 q) fun us s2 q1 => ?_) hst hpl)
  obtain ⟨vs, H2, I2, r, q2⟩ := q1
  exact ⟨I2.kIn, run_fnS (us := .ref a :: us) (vs := .ref a :: vs) F (hr.mono hk) hb (hx σ) I2 (.cons rfl r) q2⟩
theorem me_core0 {CX : CXT} {E : L2.St → XK} {pl : Sem Bool} (he : PE X o ta) (G : MeAt X.prog X.w X.K X.mg X.base CX k C m ps sp) (hr : Room j X.A) (hk : k ≤ j) (hx : ∀ σ, PassesAt CX X σ (E σ))
    (ht : eval (.Call (.Attribute o m apos) [] [] pos) X.env = (do
      let ov ← eval o X.env
      standAt apos.atName
      let (f, first) ← holding [ov] (getMethod ov m pl)
      callWith pos f first (backTo pos (starEach [] X.env)) (backToKw pos (keywordEach [] X.env)))) :
    PE X (.Call (.Attribute o m apos) [] [] pos) (tMe C m sp E ta tNil) := by
  obtain ⟨f, fd, c, hm, F, hb⟩ := G
  refine ⟨fun pins s σ H Q I h => PySem.W.methodCall_KW (pl := pl) (thn (he.run pins s σ H _ I h) fun u s1 q0 => ?_) ht⟩
  obtain ⟨x, H1, I1, rx, a, dx, fs, ex, ea, l, q⟩ := q0
  subst ex
  obtain rfl : u = Value.ref a := rx
  refine getmeth_ok I1 ea c hm l ?_
  exact PySem.W.callWith_K0 (first := [.ref a]) I1.kIn hm.kp (run_fnS (us := [.ref a]) (vs := [.ref a]) F (hr.mono hk) hb (hx σ) I1 (.cons rfl .nil) q)
/-- no error of a callee that lets none out -/
theorem pass00 {X : Cx} (σ : L2.St) : PassesAt CX0 X σ E0 := fun _ _ _ _ _ _ z => z.elim
theorem pe_me {pl : Sem Bool} (he : PE X o ta) (G : MeAt X.prog X.w X.K X.mg X.base CX0 k C m ps sp) (hr : Room j X.A) (hk : k ≤ j) (ha : PA X (e :: es) t)
    (hst : starEach (e :: es) X.env = (false, eval e X.env) :: starEach es X.env := by rfl) (hpl : (backTo pos (starEach es X.env)).any (·.1) = false := by rfl)
    (ht : eval (.Call (.Attribute o m apos) (e :: es) [] pos) X.env = (do
      let ov ← eval o X.env
      standAt apos.atName
      let (f, first) ← holding [ov] (getMethod ov m pl)
      callWith pos f first (backTo pos (starEach (e :: es) X.env)) (backToKw pos (keywordEach [] X.env))) := by rfl) :
    PE X (.Call (.Attribute o m apos) (e :: es) [] pos) (tMe C m sp (fun _ => E0) ta t) := me_core he G hr hk pass00 ha hst hpl ht
theorem pe_meX {pl : Sem Bool} (he : PE X o ta) (G : MeAt X.prog X.w X.K X.mg X.base (L2.CX X.prog X.w) k C m ps sp) (hr : Room j X.A) (hk : k ≤ j) (tk : Takes X W) (ha : PA X (e :: es) t)
    (hst : starEach (e :: es) X.env = (false, eval e X.env) :: starEach es X.env := by rfl) (hpl : (backTo pos (starEach es X.env)).any (·.1) = false := by rfl)
    (ht : eval (.Call (.Attribute o m apos) (e :: es) [] pos) X.env = (do
      let ov ← eval o X.env
      standAt apos.atName
      let (f, first) ← holding [ov] (getMethod ov m pl)
      callWith pos f first (backTo pos (starEach (e :: es) X.env)) (backToKw pos (keywordEach [] X.env))) := by rfl) :
    PE X (.Call (.Attribute o m apos) (e :: es) [] pos) (tMe C m sp (WE W) ta t) := me_core he G hr hk (fun σ => passAt tk σ) ha hst hpl ht
theorem pe_me0 {pl : Sem Bool} (he : PE X o ta) (G : MeAt X.prog X.w X.K X.mg X.base CX0 k C m ps sp) (hr : Room j X.A) (hk : k ≤ j)
    (ht : eval (.Call (.Attribute o m apos) [] [] pos) X.env = (do
      let ov ← eval o X.env
      standAt apos.atName
      let (f, first) ← holding [ov] (getMethod ov m pl)
      callWith pos f first (backTo pos (starEach [] X.env)) (backToKw pos (keywordEach [] X.env))) := by rfl) :
    PE X (.Call (.Attribute o m apos) [] [] pos) (tMe C m sp (fun _ => E0) ta tNil) := me_core0 he G hr hk pass00 ht
theorem pe_me0X {pl : Sem Bool} (he : PE X o ta) (G : MeAt X.prog X.w X.K X.mg X.base (L2.CX X.prog X.w) k C m ps sp) (hr : Room j X.A) (hk : k ≤ j) (tk : Takes X W)
    (ht : eval (.Call (.Attribute o m apos) [] [] pos) X.env = (do
      let ov ← eval o X.env
      standAt apos.atName
      let (f, first) ← holding [ov] (getMethod ov m pl)
      callWith pos f first (backTo pos (starEach [] X.env)) (backToKw pos (keywordEach [] X.env))) := by rfl) :
    PE X (.Call (.Attribute o m apos) [] [] pos) (tMe C m sp (WE W) ta tNil) := me_core0 he G hr hk (fun σ => passAt tk σ) ht

/-- a new instance: what is asked of __init__'s promise -/
def tMk (C : Addr) (sp : Sp) (t : TA) : TE := fun σ H Q => t σ H fun vs H1 => ∀ x dx, H1 x = none → H1 dx = none → dx ≠ x → sp (.ref x :: vs) (upd (upd H1 dx (.own x)) x (.ins C dx [])) (fun v H2 => v = .non ∧ Q (.ref x) H2) E0
theorem pe_mk (G : MkAt X.prog X.w X.K X.mg X.base k x C ps sp) (hr : Room j X.A) (hk : k + 1 ≤ j) (ha : PA X (e :: es) t) (hg : Gl X x := by rfl) (hdb : (x == ("__debug__" : Str)) = false := by decide)
    (he : starEach (e :: es) X.env = (false, eval e X.env) :: starEach es X.env := by rfl) (hpl : (backTo pos (starEach es X.env)).any (·.1) = false := by rfl) :
    PE X (.Call (.Name x p) (e :: es) [] pos) (tMk C sp t) := by
  obtain ⟨hm, f, fd, M, F, hb⟩ := G
  have h := pe_make (E := E0) (dvs := []) M F (hr.mono hk) hg hm hb .nil pass0 ha hdb he hpl (p := p) (pos := pos)
  refine ⟨fun pins s σ H Q I q => h.run pins s σ H Q I ?_⟩
  have e0 : tMake C sp [] E0 t = tMk C sp t := by
    unfold tMake tMk
    simp only [List.append_nil]
  rw [e0]
  exact q
theorem pe_mk0 (G : MkAt X.prog X.w X.K X.mg X.base k x C ps sp) (hr : Room j X.A) (hk : k + 1 ≤ j) (hg : Gl X x := by rfl) (hdb : (x == ("__debug__" : Str)) = false := by decide) :
    PE X (.Call (.Name x p) [] [] pos) (tMk C sp tNil) := by
  obtain ⟨hm, f, fd, M, F, hb⟩ := G
  have h := pe_make0 (E := E0) (dvs := []) M F (hr.mono hk) hg hm hb .nil pass0 hdb (p := p) (pos := pos)
  refine ⟨fun pins s σ H Q I q => h.run pins s σ H Q I ?_⟩
  have e0 : tMake C sp [] E0 tNil = tMk C sp tNil := by
    unfold tMake tMk
    simp only [List.append_nil]
  rw [e0]
  exact q

/-- o.f, o an instance of the class at C -/
def tFl (C : Addr) (f : Str) (ta : TE) : TE := fun σ H Q => ta σ H fun x H1 => ∃ a dx fs v, x = .ref a ∧ H1 a = some (.ins C dx fs) ∧ fs.lookup f = some v ∧ Q v H1
theorem pe_fl {f : Str} (c : Cls X.K C) (n : NoAttr X.K C f) (he : PE X o ta) (hb : attributeBase o f X.env (eval o X.env) = eval o X.env := by rfl) : PE X (.Attribute o f pos) (tFl C f ta) := by
  refine ⟨fun pins s σ H Q I h => attr_of hb (thn (he.run pins s σ H _ I h) fun u s1 q0 => ?_)⟩
  obtain ⟨x, H1, I1, rx, a, dx, fs, v, ex, ea, l, q⟩ := q0
  subst ex
  cases rx
  exact getattr_ok I1 ea c n l fun got s2 J rel => ⟨v, _, J, rel, q⟩
/-- o.f = value -/
def sFl (C : Addr) (f : Str) (ta tv : TE) : TS := fun D σ H => tv σ H fun y H1 => ta σ H1 fun x H2 => ∃ a dx fs, x = .ref a ∧ H2 a = some (.ins C dx fs) ∧ fs.length < 1000 ∧ D.nx σ (upd H2 a (.ins C dx (putF f y fs)))
theorem ps_fl {f : Str} {value : Expr} {tv : TE} {pos' : Pos} (c : Cls X.K C) (n : NoAttr X.K C f) (ha : PE X o ta) (hv : PE X value tv) (hs : swapsWith value (some (.Attribute o f pos')) pos.line X.env = pure false := by rfl) : PS X (.Assign [.Attribute o f pos'] value pos) (sFl C f ta tv) := by
  refine ⟨fun pins s σ H D I h => plainObj_wpAny_Assign_Attribute (thn (hv.run pins s σ H _ I h) fun u s1 q0 => ?_) hs⟩
  obtain ⟨y, H1, I1, ry, q⟩ := q0
  refine thn (ha.run pins s1 σ H1 _ I1 q) fun ov s2 q1 => ?_
  obtain ⟨x, H2, I2, rx, a, dx, fs, ex, ea, l, q2⟩ := q1
  subst ex
  cases rx
  exact setattr_ok I2 ea c n l ry fun s3 J => ⟨_, _, J, q2⟩
/-- o.f += a whole number -/
def sFlAdd (C : Addr) (f : Str) (ta tv : TE) : TS := fun D σ H => ta σ H fun x H1 => ∃ a dx fs, ∃ i : Int, x = .ref a ∧ H1 a = some (.ins C dx fs) ∧ fs.lookup f = some (.int i) ∧
  tv σ H1 fun y H2 => ∃ j : Int, y = .int j ∧ H2 a = some (.ins C dx fs) ∧ fs.length < 1000 ∧ D.nx σ (upd H2 a (.ins C dx (putF f (.int (i + j)) fs)))
theorem ps_flAdd {f : Str} {value : Expr} {tv : TE} {tpos : Pos} (c : Cls X.K C) (n : NoAttr X.K C f) (ha : PE X o ta) (hv : PE X value tv) : PS X (.AugAssign (.Attribute o f tpos) .Add value pos) (sFlAdd C f ta tv) := by
  have h := ps_fldaug (f := f) (tpos := tpos) (pos := pos) ha hv in_add
  have mono : ∀ (σ : L2.St) (H : Hp) (Q Q' : VK), (∀ v H', Q v H' → Q' v H') → ∀ (z : tv σ H Q), True := fun _ _ _ _ _ _ => trivial
  refine ⟨fun pins s σ H D I q => ?_⟩
  refine wpAny_AugAssign_AttributeAny (thn (ha.run pins s σ H _ I q) fun ov s1 q0 => ?_)
  obtain ⟨x, H1, I1, rx, a, dx, fs, i, ex, ea, l, q⟩ := q0
  subst ex
  obtain rfl : ov = Value.ref a := rx
  refine getattr_ok I1 ea c n l fun u s2 I2 ru => thn (hv.run pins s2 σ H1 _ I2 q) fun w3 s3 q3 => ?_
  obtain ⟨y, H2, I3, ry, j, ey, ea2, hl, q4⟩ := q3
  subst ey
  refine thn (in_add pins s3 σ H2 (.int i) (.int j) u w3 (fun z H3 => z = .int (i + j) ∧ H3 = H2) I3 ru ry ⟨i, j, rfl, rfl, rfl, rfl⟩) fun w4 s4 q5 => ?_
  obtain ⟨z, H3, I4, rz, ez, eH⟩ := q5
  subst ez eH
  exact setattr_ok I4 ea2 c n hl rz fun s5 I5 => ⟨σ, _, I5, q4⟩
end
/-! ### instances and heaps -/
/-- at a: an instance of the class at C with the fields fs -/
def Ins (H : Hp) (a C : Addr) (fs : List (Str × V)) : Prop := ∃ dx, H a = some (.ins C dx fs)
theorem Ins.same {H H' : Hp} {a C : Addr} {fs : List (Str × V)} (h : Ins H a C fs) (s : Same H H') : Ins H' a C fs := by
  obtain ⟨dx, h⟩ := h
  exact ⟨dx, s _ _ h⟩
/-- all that was tracked is as it was, but for what is at r -/
def But (r : Addr) (H H' : Hp) : Prop := ∀ b o, H b = some o → b ≠ r → H' b = some o
theorem But.refl (r : Addr) (H : Hp) : But r H H := fun _ _ h _ => h
theorem But.trans {r : Addr} {H H1 H2 : Hp} (a : But r H H1) (b : But r H1 H2) : But r H H2 := fun c o h n => b c o (a c o h n) n
theorem Same.but {r : Addr} {H H' : Hp} (s : Same H H') : But r H H' := fun b o h _ => s b o h
theorem same_upd {H : Hp} {p : Addr} {o : HO} (h : H p = none) : Same H (upd H p o) := fun b u e => by
  rw [upd_ne (ne_of_none e h)]
  exact e
theorem but_upd {H : Hp} {p : Addr} {o : HO} : But p H (upd H p o) := fun b u e n => by
  rw [upd_ne n]
  exact e
theorem SqT.same {K : PySem.W.Frag} {H H' : Hp} {a : Addr} {xs : List V} (e : Same H H') (h : SqT K H a xs) : SqT K H' a xs := by
  exact h.imp (fun z => z.imp (e _ _) fun ⟨o, z⟩ => ⟨o, e _ _ z⟩) id
/-- the turn of a while: the invariant again, less to do -/
theorem turn_on {tb : TS} {D : Ends} {σ : L2.St} {H1 : Hp} {m : Nat} {Pv : L2.St → Hp → Prop} {mu : L2.St → Hp → Nat}
    (h : tb { D with nx := fun σ' H' => Pv σ' H' ∧ mu σ' H' < m, ct := fun σ' H' => Pv σ' H' ∧ mu σ' H' < m, bk := D.nx } σ H1) :
    ∃ N : L2.St → Hp → Prop, (∀ σ' H', N σ' H' → ∃ m', m' < m ∧ (m' = mu σ' H' ∧ Pv σ' H')) ∧ tb { D with nx := N, ct := N, bk := D.nx } σ H1 :=
  ⟨_, fun σ' H' z => ⟨mu σ' H', z.2, rfl, z.1⟩, h⟩
theorem while_go {c : TT} {tb : TS} {D : Ends} {σ : L2.St} {H : Hp} (Pv : L2.St → Hp → Prop) (mu : L2.St → Hp → Nat) (h0 : Pv σ H)
    (hs : ∀ σ H, Pv σ H → c σ H fun b H1 => if b = true then ∃ N : L2.St → Hp → Prop, (∀ σ' H', N σ' H' → ∃ m', m' < mu σ H ∧ (m' = mu σ' H' ∧ Pv σ' H')) ∧ tb { D with nx := N, ct := N, bk := D.nx } σ H1 else D.nx σ H1) : tWhile c tb D σ H :=
  ⟨fun m σ H => m = mu σ H ∧ Pv σ H, ⟨_, rfl, h0⟩, fun m σ H z => by
    obtain ⟨rfl, p⟩ := z
    exact hs σ H p⟩
theorem if_t {c : Bool} {A B : Prop} (hc : c = true) (h : A) : if c = true then A else B := by
  rw [if_pos hc]
  exact h
theorem if_f {c : Bool} {A B : Prop} (hc : c = false) (h : B) : if c = true then A else B := by
  rw [hc]
  exact iteF h
/-! ### lists made of lists -/
theorem lc_to {K : PySem.W.Frag} {a : Addr} {xs ys : List V} {g : TG} {tt : TT} {te : TE} {vs : List Nat} {σ : L2.St} {H1 : Hp} {D : Addr} {Qd : Hp → Prop} (nD : H1 D = none) (hS : SqL K H1 a xs) (hl : ys.length = xs.length)
    (hs : ∀ i x y H, xs[i]? = some x → ys[i]? = some y → Same H1 H → H D = some (.lst (ys.take i)) → g x (wipe σ vs) H fun σ2 H2 => wipe σ2 vs = wipe σ vs ∧ tt σ2 H2 fun b H3 =>
      if b = true then te σ2 H3 fun z H4 => ∃ acc, H4 D = some (.lst acc) ∧ acc.length < sizeLine ∧ (Same H1 (upd H4 D (.lst (acc ++ [z]))) ∧ (upd H4 D (.lst (acc ++ [z]))) D = some (.lst (ys.take (i + 1)))) else Same H1 H3 ∧ H3 D = some (.lst (ys.take (i + 1))))
    (hd : ∀ H, Same H1 H → H D = some (.lst ys) → Qd H) : ∃ Wv : Nat → Nat → Hp → Prop, (∃ m, Wv 0 m (upd H1 D (.lst []))) ∧ ∀ i m H, Wv i m H → ((Itl K a).stop i H ∧ Qd H) ∨ ((Itl K a).go i H ∧
      ∃ N : Hp → Prop, (∀ H', N H' → ∃ m', m' < m ∧ Wv (i + 1) m' H') ∧ ∀ x H', (Itl K a).yld i H x H' → g x (wipe σ vs) H' fun σ2 H2 => wipe σ2 vs = wipe σ vs ∧ tt σ2 H2 fun b H3 => if b = true then
        te σ2 H3 fun y H4 => ∃ acc, H4 D = some (.lst acc) ∧ acc.length < sizeLine ∧ N (upd H4 D (.lst (acc ++ [y]))) else N H3) := by
  refine lc_list (K := K) (a := a) (xs := xs) (fun i H => Same H1 H ∧ H D = some (.lst (ys.take i))) ⟨same_upd nD, upd_same⟩ (fun i H _ p => p.1.seq hS) (fun i x H hx p => ?_) (fun H p => ?_)
  · have hi : i < ys.length := by
      rw [hl]
      exact (List.getElem?_eq_some_iff.mp hx).1
    exact hs i x ys[i] H hx (by simp [hi]) p.1 p.2
  · have e := p.2
    rw [← hl, List.take_length] at e
    exact hd H p.1 e
theorem take_snoc {α : Type} {ys : List α} {i : Nat} {y : α} (h : ys[i]? = some y) : ys.take i ++ [y] = ys.take (i + 1) := by
  obtain ⟨h1, h2⟩ := List.getElem?_eq_some_iff.mp h
  rw [List.take_succ_eq_append_getElem h1, h2]
theorem lc_put {H1 H4 : Hp} {D : Addr} {ys : List V} {i : Nat} {y : V} (nD : H1 D = none) (s : Same H1 H4) (e : H4 D = some (.lst (ys.take i))) (hy : ys[i]? = some y) (hz : ys.length ≤ sizeLine) :
    ∃ acc, H4 D = some (.lst acc) ∧ acc.length < sizeLine ∧ (Same H1 (upd H4 D (.lst (acc ++ [y]))) ∧ (upd H4 D (.lst (acc ++ [y]))) D = some (.lst (ys.take (i + 1)))) := by
  have hi := (List.getElem?_eq_some_iff.mp hy).1
  refine ⟨_, e, ?_, fun b o h => ?_, ?_⟩
  · rw [List.length_take]
    omega
  · rw [upd_ne (ne_of_none h nD)]
    exact s b o h
  · rw [upd_same, take_snoc hy]
end Lv
set_option Elab.async false
set_option linter.all false
set_option maxRecDepth 100000
set_option maxHeartbeats 4000000
/-! Errors of the program's own that stand under Exception, perhaps one under another, each with an __init__ of its own.
(The library shows the like for classes right over ValueError, HandS.ExcInit; what it gives of an error that is being made, exo and exd, serves here.) -/
namespace Lv
open PySem PySem.Spec PyProof.Rows L2
/-- what stands over all of them -/
abbrev overAll : List Value := ["Exception", "BaseException", "object"].map Value.type
/-- what the top says of such a class -/
structure Err (K : PySem.W.Frag) (C : Addr) : Prop where
  ini : PySem.W.excInitIn K C overAll "Exception.__new__" = true
  over : PySem.W.excOver K C overAll = true
  hasD : PySem.W.hasDictIn K C = true
  sets : PySem.W.findIn K (.ref C) "__setattr__" = some (some (.builtin "object.__setattr__"))
  isEx : PySem.W.subIn K (.ref C) (.type "BaseException") = some true
  isTy : PySem.W.typeIn K (.ref C) = some (.type "type")
  held : PySem.W.keepIn K (.ref C) = true
  gets : PySem.W.findIn K (.ref C) "__getattribute__" = some (some (.builtin "BaseException.__getattribute__"))
  more : PySem.W.findIn K (.ref C) "__getattr__" = some none
theorem Err.cd {K : PySem.W.Frag} {C : Addr} (T : Err K C) : ∃ cd, PySem.W.clsIn K C = some cd ∧ cd.hasDict = true := by
  have h := T.hasD
  unfold PySem.W.hasDictIn at h
  revert h
  cases PySem.W.clsIn K C with
  | none => intro h; cases h
  | some cd => exact fun h => ⟨cd, rfl, h⟩
/-- an error as it lies in the heap -/
abbrev errO (C : Addr) (d : Option Addr) (fv : Array Value) : Obj := { cls := .ref C, dict := d, data := .fields fv }
/-- the first field: x has a dict now, at dx, which holds just this -/
structure Fst (m m' : Heap) (x C dx : Addr) (fv : Array Value) (n : Str) (v : Value) : Prop where
  rest : ∀ b o, b ≠ x → m.get? b = some o → m'.get? b = some o
  new : m.objs.size ≤ dx
  ne : dx ≠ x
  obj : m'.get? x = some (errO C (some dx) fv)
  dict : m'.Ns1 dx fun y => if y = n then some v else none
/-- a further field: the dict at dx holds this, too -/
structure Nxt (m m' : Heap) (dx : Addr) (n : Str) (v : Value) (m0 : Str → Option Value) : Prop where
  rest : ∀ b o, b ≠ dx → m.get? b = some o → m'.get? b = some o
  dict : m'.Ns1 dx fun y => if y = n then some v else m0 y
section
open Builtin Builtin.ObjectAttr
variable {P : Program} {w : World} {A : Around} {R : Result → Shared → Prop} {K : PySem.W.Frag} {n : Str} {tk : Tok} {v : Value} {x C dx : Addr} {fv : Array Value} {s : Shared}
theorem store_fst (T : Err K C) (KI : K.In s.heap) (at_ : s.heap.get? x = some (errO C none fv)) (no : NoAttr K C n)
    (q : ∀ m' tk' dx, Fst s.heap m' x C dx fv n v → R (.ok (.ret .none)) { s with heap := m', toks := tk' }) :
    codeAny (model P w) A (.call (.builtin "object.__setattr__") ⟨[.ref x, .str n tk, v], []⟩) R s := by
  obtain ⟨cd, look, dct⟩ := T.cd
  have seen := PySem.W.looks_clsIn (M := model P w) KI look
  obtain ⟨m, gs, dr, tks, osS⟩ := s
  have old : x ≠ m.objs.size := Nat.ne_of_lt (Heap.lt_size at_)
  refine PySem.W.osa_openX F.store_Exception KI (od := none) ⟨at_, rfl, rfl, trivial⟩ T.over no.taker fun flag => ?_
  cases cd
  cases dct
  show wpAny _ _ (storeInOwnDict (.ref x) (.ref C) (.str n tk) n v flag) _ _ _
  unfold storeInOwnDict ownDictForStores
  repeat (first
    | with_reducible refine HandSPX.store_in_new ?_ ?_
    | with_reducible refine seen.at ?_
    | with_reducible refine wpAny_loadPart_at at_ ?_
    | wp_step)
  · refine ⟨_, #[], _, (Heap.get?_update_ne (m.push { cls := .type "dict", data := .dict #[] }) m.objs.size x (fun o => { o with dict := some m.objs.size }) old.symm).trans (Heap.get?_push_at rfl rfl), rfl, fun e he => ?_, fun _ => rfl⟩
    simp at he
  · intro m' tk' ns but
    refine q m' tk' m.objs.size ⟨fun b o nb ob => ?_, Nat.le_refl _, old.symm, ?_, ns⟩
    · rw [but.2 b (Nat.ne_of_lt (Heap.lt_size ob)), Heap.get?_update_ne _ _ _ _ nb]
      exact Heap.get?_push_of_some _ ob
    · rw [but.2 x old]
      exact Heap.get?_update_self _ (Heap.get?_push_of_some _ at_) rfl
theorem store_nxt {m0 : Str → Option Value} {nl : List Str} (T : Err K C) (KI : K.In s.heap) (at_ : s.heap.get? x = some (errO C (some dx) fv)) (ns0 : s.heap.Ns1 dx m0) (inn : Within m0 nl) (few : nl.length ≤ 1000) (no : NoAttr K C n)
    (q : ∀ m' tk', Nxt s.heap m' dx n v m0 → R (.ok (.ret .none)) { s with heap := m', toks := tk' }) :
    codeAny (model P w) A (.call (.builtin "object.__setattr__") ⟨[.ref x, .str n tk, v], []⟩) R s := by
  obtain ⟨cd, look, dct⟩ := T.cd
  have seen := PySem.W.looks_clsIn (M := model P w) KI look
  obtain ⟨m, gs, dr, tks, osS⟩ := s
  obtain ⟨od, _, _, atD, _⟩ := ns0.count inn
  refine PySem.W.osa_openX F.store_Exception KI (od := some od) ⟨at_, rfl, rfl, atD⟩ T.over no.taker fun flag => ?_
  cases cd
  cases dct
  show wpAny _ _ (storeInOwnDict (.ref x) (.ref C) (.str n tk) n v flag) _ _ _
  unfold storeInOwnDict ownDictForStores
  repeat (first
    | with_reducible refine PySem.OEX.store_in_old ns0 inn few ?_
    | with_reducible refine seen.at ?_
    | with_reducible refine wpAny_loadPart_at at_ ?_
    | wp_step)
  exact fun m' tk' ns but => q m' tk' ⟨fun b o nb ob => (but.2 b nb).trans ob, ns⟩
end
/-! ### the rules -/
/-- the heap with an error's first field -/
def fstH (H : Hp) (a C dx : Addr) (f : Str) (y : V) : Hp := upd (upd H dx (exd dx [(f, y)])) a (exo a C (some dx))
theorem fstH_far {H : Hp} {a C dx b : Addr} {f : Str} {y : V} (h1 : b ≠ a) (h2 : b ≠ dx) : fstH H a C dx f y b = H b := (upd_ne h1).trans (upd_ne h2)
section
variable {X : Cx} {pins : List (Addr × Obj)} {σ : L2.St} {H : Hp} {s : Shared} {a C dx : Addr} {f : Str} {y : V} {u : Value} {fs : List (Str × V)} {Q : Unit → Shared → Prop} {E : Value → Shared → Prop} {A : Around}
/-- what else lies there stays -/
theorem fst_un {m m' : Heap} {fv : Array Value} (ea : H a = some (exo a C none)) (ed : H dx = none) (Z : Fst m m' a C dx fv f u) : Un X.fs [] H (fstH H a C dx f y) m m' := by
  have far : ∀ {b : Addr} {o : HO}, H b = some o → exo a C none ≠ o → fstH H a C dx f y b = some o := fun {b o} hb ne => (fstH_far (at_ne ea hb ne) (ne_of_none hb ed)).trans hb
  have aw : ∀ {b : Addr}, H b = none → b ≠ a := fun {b} hb z => by
    rw [z, ea] at hb
    cases hb
  constructor
  · exact fun b o ob hb _ _ => Z.rest b o (aw hb) ob
  · exact fun b o ob hb _ _ => ⟨_, Z.rest b o (aw hb) ob⟩
  · exact fun b o ob hb _ => (fstH_far (aw hb) (Nat.ne_of_lt (Nat.lt_of_lt_of_le (Heap.lt_size ob) Z.new))).trans hb
  · intro b o ob _
    by_cases z : b = a
    · rw [z]
      exact ⟨_, Z.obj⟩
    · exact ⟨_, Z.rest b o z ob⟩
  · exact fun b xs hb => far hb exo_tup
  · exact fun b o w hb => far hb exo_frz
  · exact fun b ps hb => ⟨#[], by rw [far hb exo_tbl, Array.append_empty]⟩
theorem err_first (T : Err X.K C) (I : Inv X pins σ H s) (ea : H a = some (exo a C none)) (no : NoAttr X.K C f) (ry : RelV y u) (k : ∀ dx s', H dx = none → dx ≠ a → Inv X pins σ (fstH H a C dx f y) s' → Q () s') : wpAny (model X.prog X.w) A (setAttr (.ref a) f u) Q E s := by
  obtain ⟨t0, at_⟩ := exo_at I.hok ea
  refine PySem.W.set_plain I.kIn (od := none) ⟨at_, rfl, rfl, trivial⟩ T.sets (store_fst T I.kIn at_ no fun m' tk' dx Z => ?_)
  have ed : H dx = none := I.hok.fresh Z.new
  refine k dx _ ed Z.ne (I.un (t' := tk') (fst_un ea ed Z) fun b o hb => ?_)
  unfold fstH at hb
  by_cases z : b = a
  · subst z
    rw [upd_same] at hb
    cases hb
    exact exo_ok Z.obj
  rw [upd_ne z] at hb
  by_cases z2 : b = dx
  · subst z2
    rw [upd_same] at hb
    cases hb
    exact exd_ok Z.dict (relO_put (fs := []) ry fun _ => True.intro)
  rw [upd_ne z2] at hb
  have own : ∀ {c : Addr}, H c = some (.own b) → c ≠ a := fun hc => at_ne ea hc exo_own
  exact (I.hok b o hb).stay (fun c w hc => Z.rest c w (hc.elim (fun e => e ▸ z) own)) (fun c hc => (fstH_far (own hc) (ne_of_none hc ed)).trans hc) fun c xs hc => (fstH_far (at_ne ea hc exo_tup) (ne_of_none hc ed)).trans hc
theorem err_next (T : Err X.K C) (I : Inv X pins σ H s) (ea : H a = some (exo a C (some dx))) (ed : H dx = some (exd dx fs)) (few : fs.length ≤ 900) (no : NoAttr X.K C f) (ry : RelV y u) (k : ∀ s', Inv X pins σ (upd H dx (exd dx ((f, y) :: fs))) s' → Q () s') : wpAny (model X.prog X.w) A (setAttr (.ref a) f u) Q E s := by
  obtain ⟨t0, at_⟩ := exo_at I.hok ea
  obtain ⟨m0, ns0, r0⟩ := exd_at I.hok ed
  obtain ⟨od, _, _, atD, _⟩ := ns0.count (within_of r0)
  have few' : (fs.map (·.1)).length ≤ 1000 := by
    rw [List.length_map]
    exact Nat.le_trans few (by decide)
  refine PySem.W.set_plain I.kIn (od := some od) ⟨at_, rfl, rfl, atD⟩ T.sets (store_nxt T I.kIn at_ ns0 (within_of r0) few' no fun m' tk' Z => ?_)
  obtain ⟨o', _, _, at', _⟩ := id Z.dict
  have J := I.write (t' := tk') (x := dx) (e := dx) (o := exd dx ((f, y) :: fs)) (by rw [ed]; trivial) (.inl rfl) Z.rest ⟨o', at'⟩ (exd_ok Z.dict (relO_put ry r0))
  exact k _ J
end
/-- self.f = e in the __init__ of an error: the error at a, of a class C (its own or one over it); the fields so far -/
def sErr (K : PySem.W.Frag) (f : Str) (to te : TE) : TS := fun D σ H => te σ H fun y H1 => to σ H1 fun x H2 => ∃ a C : Addr, x = .ref a ∧ Err K C ∧ NoAttr K C f ∧
  ((H2 a = some (exo a C none) ∧ ∀ dx, H2 dx = none → dx ≠ a → D.nx σ (fstH H2 a C dx f y)) ∨ ∃ (dx : Addr) (fs : List (Str × V)), H2 a = some (exo a C (some dx)) ∧ H2 dx = some (exd dx fs) ∧ fs.length ≤ 900 ∧ D.nx σ (upd H2 dx (exd dx ((f, y) :: fs))))
section
variable {X : Cx} {o e : Expr} {es : List Expr} {to te : TE} {ta : TA} {f : Str} {p p' pos : Pos}
theorem ps_errF (ho : PE X o to) (he : PE X e te) (hs : swapsWith e (some (.Attribute o f p')) pos.line X.env = pure false := by rfl) : PS X (.Assign [.Attribute o f p'] e pos) (sErr X.K f to te) := by
  refine ⟨fun pins s σ H D I h => plainObj_wpAny_Assign_Attribute (thn (he.run pins s σ H _ I h) fun v s1 z1 => ?_) hs⟩
  obtain ⟨y, H1, I1, r1, q1⟩ := z1
  refine thn (ho.run pins s1 σ H1 _ I1 q1) fun u s2 z2 => ?_
  obtain ⟨x, H2, I2, r2, a, C, ex, T, no, q⟩ := z2
  subst ex
  cases r2
  match q with
  | .inl ⟨ea, q⟩ => exact err_first T I2 ea no r1 fun dx s' nd ne J => ⟨σ, _, J, q dx nd ne⟩
  | .inr ⟨dx, fs, ea, ed, few, q⟩ => exact err_next T I2 ea ed few no r1 fun s' J => ⟨σ, _, J, q⟩
/-- the class called x stands at C: an error whose __init__ keeps sp -/
def ErrAt (P : Program) (w : World) (K : PySem.W.Frag) (mg : Str → Option Value) (base : Heap) (k : Nat) (x : Str) (C : Addr) (ps : List Str) (sp : Sp) : Prop :=
  mg x = some (.ref C) ∧ Err K C ∧ ∃ f fd, PySem.W.findIn K (.ref C) "__init__" = some (some (.ref f)) ∧ PySem.W.typeIn K (.ref f) = some (.type "function") ∧ FnOk P w K mg base CX0 k f fd ps sp ∧ Binds K fd ps []
/-- what is asked of the __init__ where C is called: the error at a, its fields told by its dict -/
def askErr (C : Addr) (sp : Sp) (vs : List V) (H1 : Hp) (Q : XK) (a : Addr) : Prop := sp (.ref a :: vs) (upd H1 a (exo a C none)) (fun v H2 => v = .non ∧ ∃ (d : Addr) (fs : List (Str × V)), H2 a = some (exo a C (some d)) ∧ H2 d = some (exd d fs) ∧ H1 d = none ∧ Q (.ref C) (some d) (upd (del H2 a) d (.xd fs))) E0
theorem err_made {pins : List (Addr × Obj)} {σ : L2.St} {H1 : Hp} {s1 : Shared} {Q : XK} {vs : List V} {us : List Value} {x : Str} {C : Addr} {k j : Nat} {ps : List Str} {sp : Sp} (G : ErrAt X.prog X.w X.K X.mg X.base k x C ps sp) (hr : Room j X.A) (hk : k + 1 ≤ j)
    (I1 : Inv X pins σ H1 s1) (r1 : Vals vs us) (hz : vs.length ≤ 1000) (q1 : ∀ a, H1 a = none → askErr C sp vs H1 Q a) : wpAny (model X.prog X.w) X.A (call (.ref C) us) (MkP X pins σ Q) X.xe s1 := by
  obtain ⟨_, T, ini, fd, at_ini, is_fn, F1, bnd⟩ := G
  obtain ⟨m, gs, dr, tks, osS⟩ := s1
  obtain ⟨_, _, _, _, _, _, _, _, _, _, _, _, _, _, _, _, cC, cT⟩ := PySem.W.excInit_of I1.kIn T.ini
  -- two objects more: the tuple of what is handed in, and the error
  obtain ⟨a, ha⟩ : ∃ a, a = m.objs.size + 1 := ⟨_, rfl⟩
  obtain ⟨m2, hm2⟩ : ∃ m2, m2 = (m.push (PySem.W.kdv_tup us)).push (PySem.HandSPX.excO C m.objs.size) := ⟨_, rfl⟩
  have la : m.objs.size ≤ a := by rw [ha]; exact Nat.le_succ _
  have ask := q1 a (I1.hok.fresh la)
  have kept : ∀ b o, m.get? b = some o → m2.get? b = some o := fun b o ob => by
    subst hm2
    exact Heap.get?_push_of_some _ (Heap.get?_push_of_some _ ob)
  have there : m2.get? a = some (PySem.HandSPX.excO C m.objs.size) := by
    subst hm2 ha
    heap_get
  have J : Inv X pins σ (upd H1 a (exo a C none)) ⟨m2, gs, dr, tks, osS⟩ := I1.laid (t' := tks) kept la (exo_ok there)
  have rel : Vals (.ref a :: vs) (.ref a :: us) := .cons rfl r1
  have len : (Value.ref a :: us).length = ps.length := rel.length.symm.trans (F1.len _ _ _ _ ask)
  have bound := bnd ⟨m2, gs, dr, tks, osS⟩ (.ref a :: us) J.kIn (by rw [List.append_nil]; exact len)
  rw [List.append_nil] at bound
  have few : us.length ≤ sizeLine := Nat.le_trans (Nat.le_trans (Nat.le_of_eq (Paired.length r1).symm) hz) (by decide)
  refine wpAny_call (PySem.HandSPX.call_own F.excBase_Exception cT cC (PySem.W.looks_findIn I1.kIn at_ini) (fun self => PySem.W.bind_fn I1.kIn self is_fn) few ?_)
  rw [← hm2, ← ha]
  have run := F1.run _ X.stack _ _ ⟨.ref a :: us, []⟩ (.ref a :: us) _ _ E0 ((hr.mono hk).make C us []) (J.env0.make C us []) bound rel ask
  refine codeAny_mono run fun r s' got => ?_
  match r, got with
  | .error _, got => exact got.elim
  | .ok .next, got => exact got.elim
  | .ok .brk, got => exact got.elim
  | .ok .cont, got => exact got.elim
  | .ok (.ret _), ⟨_, _, o2, b2, n2, k2, rv, rfl, _, _, ea, ed, nd, q⟩ =>
    obtain ⟨_, _, _, _, _⟩ := s'
    exact ⟨rv, mk_end (raises_own T.isEx T.isTy) I1 la kept n2 k2 o2 b2 ea ed nd q⟩
end
end Lv
set_option Elab.async false
set_option linter.all false
set_option maxRecDepth 100000
set_option maxHeartbeats 4000000
/-! Errors told by what they hold. -/
namespace Lv
open PySem PySem.Spec PyProof.Rows L2
/-- the promise of an __init__ that gives the error just these fields -/
def spIni (K : PySem.W.Frag) (names : List Str) (n : Nat) (g : List V → List (Str × V)) : Sp := fun vs H Q _ => ∃ (a C : Addr) (ws : List V), vs = .ref a :: ws ∧ ws.length = n ∧ Err K C ∧ (∀ f ∈ names, NoAttr K C f) ∧ H a = some (exo a C none) ∧
  ∀ (d : Addr) (H' : Hp), H d = none → d ≠ a → H' a = some (exo a C (some d)) → H' d = some (exd d (g ws)) → (∀ b, b ≠ a → b ≠ d → H' b = H b) → Q .non H'
/-- the class called x stands at C: made with n values it holds g of them -/
def Raiser (P : Program) (w : World) (K : PySem.W.Frag) (mg : Str → Option Value) (base : Heap) (k : Nat) (x : Str) (C : Addr) (n : Nat) (g : List V → List (Str × V)) : Prop :=
  ∃ ps names, ErrAt P w K mg base k x C ps (spIni K names n g) ∧ ∀ f ∈ names, NoAttr K C f
def tRz (C : Addr) (n : Nat) (g : List V → List (Str × V)) (ta : TA) : L2.St → Hp → XK → Prop := fun σ H Q => ta σ H fun vs H1 => vs.length = n ∧ n ≤ 1000 ∧ ∀ d, H1 d = none → Q (.ref C) (some d) (upd H1 d (.xd (g vs)))
theorem rz_ok {P : Program} {w : World} {K : PySem.W.Frag} {mg : Str → Option Value} {base : Heap} {k : Nat} {x : Str} {C : Addr} {n : Nat} {g : List V → List (Str × V)} {ps names : List Str} (G : ErrAt P w K mg base k x C ps (spIni K names n g)) (hn : ∀ f ∈ names, NoAttr K C f)
    {vs : List V} {H1 : Hp} {Q : XK} (hl : vs.length = n) (q : ∀ d, H1 d = none → Q (.ref C) (some d) (upd H1 d (.xd (g vs)))) (a : Addr) (ha : H1 a = none) : spIni K names n g (.ref a :: vs) (upd H1 a (exo a C none))
      (fun v H2 => v = .non ∧ ∃ (d : Addr) (fs : List (Str × V)), H2 a = some (exo a C (some d)) ∧ H2 d = some (exd d fs) ∧ H1 d = none ∧ Q (.ref C) (some d) (upd (del H2 a) d (.xd fs))) E0 := by
  refine ⟨a, C, vs, rfl, hl, G.2.1, hn, upd_same, fun d H' nd ne ea ed rest => ⟨rfl, d, g vs, ea, ed, ?_, ?_⟩⟩
  · rw [upd_ne ne] at nd
    exact nd
  · have nd' : H1 d = none := by
      rw [upd_ne ne] at nd
      exact nd
    have e : upd (del H' a) d (.xd (g vs)) = upd H1 d (.xd (g vs)) := by
      funext b
      by_cases hb : b = d
      · subst hb
        rw [upd_same, upd_same]
      · rw [upd_ne hb, upd_ne hb]
        by_cases hba : b = a
        · subst hba
          rw [del_same, ha]
        · rw [del_ne hba, rest b hba hb, upd_ne hba]
    rw [e]
    exact q d nd'
section
variable {X : Cx} {e o : Expr} {es : List Expr} {ta : TA} {te : TE} {p pos apos p1 : Pos} {x : Str} {C : Addr} {k j n : Nat} {g : List V → List (Str × V)}
theorem pmk_rz (G : Raiser X.prog X.w X.K X.mg X.base k x C n g) (hr : Room j X.A) (hk : k + 1 ≤ j) (ha : PA X (e :: es) ta) (hg : Gl X x := by rfl)
    (hdb : (x == ("__debug__" : Str)) = false := by decide) (he : starEach (e :: es) X.env = (false, eval e X.env) :: starEach es X.env := by rfl) (hpl : (backTo pos (starEach es X.env)).any (·.1) = false := by rfl) :
    PMk X (.Call (.Name x p) (e :: es) [] pos) (tRz C n g ta) := by
  obtain ⟨ps, names, G, hn⟩ := G
  intro pins s σ H Q I h
  have G' := G
  obtain ⟨hm, T, _⟩ := G'
  refine wpAny_Call_Name_kw (ld_glob I hg hm ?_ hdb)
  refine PySem.W.callWith_K (h₀ := X.base) I.ok.mod.kin T.held (thn (ha.run pos pins s σ H _ I h) fun us s1 z => ?_) he hpl
  obtain ⟨vs, H1, I1, r1, hl, hz, q1⟩ := z
  exact ⟨I1.kIn, err_made G hr hk I1 r1 (by omega) fun a na => rz_ok G hn hl q1 a na⟩
theorem pmk_rz0 (G : Raiser X.prog X.w X.K X.mg X.base k x C 0 g) (hr : Room j X.A) (hk : k + 1 ≤ j) (hg : Gl X x := by rfl) (hdb : (x == ("__debug__" : Str)) = false := by decide) :
    PMk X (.Call (.Name x p) [] [] pos) (fun _ H Q => ∀ d, H d = none → Q (.ref C) (some d) (upd H d (.xd (g [])))) := by
  obtain ⟨ps, names, G, hn⟩ := G
  intro pins s σ H Q I h
  have G' := G
  obtain ⟨hm, T, _⟩ := G'
  refine wpAny_Call_Name_kw (ld_glob I hg hm ?_ hdb)
  exact PySem.W.callWith_K0 I.kIn T.held (err_made G hr hk I .nil (Nat.zero_le _) fun a na => rz_ok G hn rfl h a na)
/-- B.__init__(self, ..), B a class of the program's own -/
structure BaseIni (K : PySem.W.Frag) (mg : Str → Option Value) (x : Str) (C f : Addr) : Prop where
  gC : mg x = some (.ref C)
  rd : PySem.W.readsIn K C (.type "type") = true
  ga : PySem.W.specialIn K (.ref C) "__getattribute__" = some (some (.builtin "type.__getattribute__"))
  fc : PySem.W.findCls K (.ref C) (.type "type") "__init__" = some (.val (.ref f))
  kf : PySem.W.keepIn K (.ref f) = true
def BaseAt (P : Program) (w : World) (K : PySem.W.Frag) (mg : Str → Option Value) (base : Heap) (k : Nat) (x : Str) (ps : List Str) (sp : Sp) : Prop :=
  ∃ C f fd, BaseIni K mg x C f ∧ FnOk P w K mg base CX0 k f fd ps sp ∧ Binds K fd ps []
theorem pe_base {pl : Sem Bool} {ps : List Str} {sp : Sp} (G : BaseAt X.prog X.w X.K X.mg X.base k x ps sp) (hr : Room j X.A) (hk : k ≤ j) (ha : PA X (e :: es) ta) (hg : Gl X x := by rfl) (hdb : (x == ("__debug__" : Str)) = false := by decide)
    (hc : eval (.Call (.Attribute (.Name x p1) "__init__" apos) (e :: es) [] pos) X.env = (do
      let ov ← eval (.Name x p1) X.env
      standAt apos.atName
      let (f, first) ← holding [ov] (getMethod ov "__init__" pl)
      callWith pos f first (backTo pos (starEach (e :: es) X.env)) (backToKw pos (keywordEach [] X.env))) := by rfl)
    (he : starEach (e :: es) X.env = (false, eval e X.env) :: starEach es X.env := by rfl) (hpl : (backTo pos (starEach es X.env)).any (·.1) = false := by rfl) :
    PE X (.Call (.Attribute (.Name x p1) "__init__" apos) (e :: es) [] pos) (tFn sp (fun _ => E0) ta) := by
  obtain ⟨C, f, fd, B, F, hb⟩ := G
  refine ⟨fun pins s σ H Q I h => PySem.W.methodCall_KW (pl := pl) (ld_glob I hg B.gC ?_ hdb) hc⟩
  refine PySem.W.method_cls I.kIn B.ga (PySem.W.cls_value I.kIn B.rd B.fc rfl ?_)
  refine PySem.W.callWith_K (first := []) (h₀ := X.base) I.ok.mod.kin B.kf (thn (ha.run pos pins _ σ H _ (I.tok _) h) fun us s1 z => ?_) he hpl
  obtain ⟨vs, H1, I1, r1, q1⟩ := z
  exact ⟨I1.kIn, run_fnS (E := fun _ => E0) F (hr.mono hk) hb (pass00 σ) I1 r1 q1⟩
/-- fault.f, fault the error that the suite holds -/
def tErrG (K : PySem.W.Frag) (f : Str) (a : Addr) (cls : Value) (d : Option Addr) (te : TE) : TE := fun σ H Q => te σ H fun x H1 => x = .ref a ∧ ∃ (C dd : Addr) (fs : List (Str × V)) (v : V), cls = .ref C ∧ d = some dd ∧ Err K C ∧ NoAttr K C f ∧ H1 dd = some (.xd fs) ∧ fs.lookup f = some v ∧ Q v H1
theorem pe_errG {f : Str} {a : Addr} {oe : Obj} {cls : Value} {d : Option Addr} {pn : List (Addr × Obj)} (hz : Zc cls d oe) (hf : ∃ vs, oe.data = .fields vs) (he : PE (X.suite a ((a, oe) :: pn)) e te) (hb : attributeBase e f X.env (eval e X.env) = eval e X.env := by rfl) :
    PE (X.suite a ((a, oe) :: pn)) (.Attribute e f pos) (tErrG X.K f a cls d te) := by
  refine ⟨fun pins s σ H Q I h => attr_of hb (thn (he.run pins s σ H _ I h) fun u s1 z => ?_)⟩
  obtain ⟨x, H1, I1, rx, ex, C, dd, fs, v, ec, ed, T, na, ea, l, q⟩ := z
  subst ex ec ed
  obtain rfl : u = Value.ref a := rx
  obtain ⟨ha, _⟩ := I1.pin (a, oe) (List.mem_append_left _ List.mem_cons_self)
  obtain ⟨vs, hd⟩ := hf
  obtain ⟨mA, hns, hr⟩ := (show ObjOk X.prog X.w H1 s1.heap dd (.xd fs) from I1.hok dd _ ea)
  obtain ⟨od, ho, hl⟩ := lookIn_ns hns
  obtain ⟨u, hu, ru⟩ := RelO.some_of (v := v) (o := mA f) (by rw [← l]; exact hr f)
  have J : PySem.W.InstAt s1.heap a oe C (some od) := ⟨ha, hz.1, by unfold PySem.W.notCls; rw [hd] <;> rfl, by rw [hz.2]; exact ho⟩
  exact HandSPX.exc_get I1.kIn J T.gets T.more T.isEx (PySem.W.findObj_own T.hasD na rfl (by rw [hl, hu])) (handed_of ru) ⟨v, H1, I1.tok _, ru, q⟩
end
end Lv
set_option Elab.async false
set_option linter.all false
set_option maxRecDepth 100000
set_option maxHeartbeats 4000000
/-! A dict of the top with whole numbers for keys. -/
namespace Lv
open PySem PySem.Spec PyProof.Rows L2
/-- an entry of the dict and what it stands for -/
def EntI (p : Int × V) (e : DictEntry) : Prop := (∃ t, e.key = .int p.1 t) ∧ e.hash = hashInt p.1 ∧ RelV p.2 e.val
structure IntDict (K : PySem.W.Frag) (d : Addr) (kvs : List (Int × V)) : Prop where
  ex : ∃ (es : List DictEntry) (n : Nat), K.lookup d = some ⟨.type "dict", none, .dict es.toArray n, #[]⟩ ∧ Paired EntI kvs es
  low : (d == sysModules) = false
theorem ki_find {kvs : List (Int × V)} {es : List DictEntry} (h : Paired EntI kvs es) (k : Int) : RelO (kvs.lookup k) (findBy Value.isInt es.toArray k) := by
  induction h with
  | nil => exact True.intro
  | @cons p e ps es hp hr ih =>
    obtain ⟨⟨t, hk⟩, _, rv⟩ := hp
    obtain ⟨i, v⟩ := p
    unfold findBy at ih ⊢
    rw [List.find?_toArray] at ih ⊢
    by_cases c : k = i
    · subst c
      have e1 : Value.isInt k e.key = true := by rw [hk]; simp [Value.isInt]
      have e2 : List.lookup k ((k, v) :: ps) = some v := by simp [List.lookup]
      rw [List.find?_cons_of_pos (p := fun e : DictEntry => Value.isInt k e.key) e1, e2]
      exact rv
    · have e1 : ¬ Value.isInt k e.key = true := by
        rw [hk]
        simp [Value.isInt, c, Ne.symm c]
      have e2 : List.lookup k ((i, v) :: ps) = List.lookup k ps := by
        have : (k == i) = false := by simpa using c
        simp [List.lookup, this]
      rw [List.find?_cons_of_neg (p := fun e : DictEntry => Value.isInt k e.key) e1, e2]
      exact ih
theorem ki_map {P : Program} {w : World} {K : PySem.W.Frag} {h : Heap} {d : Addr} {kvs : List (Int × V)} (D : IntDict K d kvs) (X : K.In h) : ∃ f, h.MapOf (intKind P w) d f ∧ ∀ k, RelO (kvs.lookup k) (f k) := by
  obtain ⟨es, n, hl, hp⟩ := D.ex
  refine ⟨fun k => findBy Value.isInt es.toArray k, ⟨_, es.toArray, n, X _ _ hl, ⟨rfl, rfl, rfl⟩, rfl, fun e he => ?_, fun _ => rfl⟩, ki_find hp⟩
  have he' : e ∈ es := by simpa using he
  clear hl he D
  induction hp with
  | nil => cases he'
  | @cons p e0 ps es hp hr ih =>
    rcases List.mem_cons.mp he' with z | z
    · subst z
      obtain ⟨⟨t, hk⟩, hh, _⟩ := hp
      exact ⟨p.1, by rw [hk]; exact intKind_is P w p.1 t, hh⟩
    · exact ih z
section
variable {X : Cx} {d : Addr} {kvs : List (Int × V)} {a b : Expr} {ta tb : TE} {pos : Pos}
theorem op_in_ki (D : IntDict X.K d kvs) : OpR X (compareOp .In) (fun x y H Q => ∃ i : Int, x = .int i ∧ y = .ref d ∧ Q (.bl (kvs.lookup i).isSome) H) := by
  intro pins s σ H x y v u Q I rx ry h
  obtain ⟨i, rfl, rfl, q⟩ := h
  obtain ⟨t, rfl⟩ := rx
  cases ry
  obtain ⟨f, hm, hf⟩ := ki_map (P := X.prog) (w := X.w) D I.kIn
  refine wpAny_in_of (intKind_is X.prog X.w i t) D.low hm ?_
  refine ⟨.bl (kvs.lookup i).isSome, H, I.tok _, ?_, q⟩
  have z := hf i
  cases e1 : kvs.lookup i <;> cases e2 : f i <;> rw [e1, e2] at z <;> first | rfl | exact z.elim
theorem pe_kiget (D : IntDict X.K d kvs) (ha : PE X a ta) (hb : PE X b tb) (hs : PlainIx b := by exact fun _ _ => rfl) : PE X (.Subscript a b pos) (tOp (fun x y H Q => ∃ (i : Int) (z : V), x = .ref d ∧ y = .int i ∧ kvs.lookup i = some z ∧ Q z H) ta tb) := by
  refine pe_ix ?_ ha hb hs
  intro value slice pins s σ H x y v u Q I rx ry h hs
  obtain ⟨i, z, rfl, rfl, e, q⟩ := h
  obtain rfl : v = Value.ref d := rx
  obtain ⟨t, rfl⟩ := ry
  obtain ⟨f, hm, hf⟩ := ki_map (P := X.prog) (w := X.w) D I.kIn
  obtain ⟨u0, hu, ru⟩ := RelO.some_of (v := z) (o := f i) (by rw [← e]; exact hf i)
  exact tail_any hm.typeIs slot_dict_getitem.lookup (wpAny_getItem_of (intKind_is X.prog X.w i t) hm hu ⟨z, H, I.tok _, ru, q⟩) hs
end
end Lv
set_option Elab.async false
set_option linter.all false
set_option maxRecDepth 100000
set_option maxHeartbeats 4000000
/-! The text's defs, by their places; what the top leaves. -/
namespace Lv
open PySem PySem.Spec PyProof.Rows L2
def top (i : Nat) : Stmt := PySem.Challenge.pw_leafvalues_s01_answers.main.body.getD i (.Pass ⟨0, 0, 0, 0⟩)
abbrev s_Fault_init : Stmt := inClass (top 10) 0
theorem sc_Fault_init : FnScope ["self", "code", "place"] ["self", "code", "place"] (defScope s_Fault_init) := ⟨rfl, rfl, rfl, by decide +kernel, rfl, by decide +kernel, by decide +kernel⟩
abbrev s_Refusal_init : Stmt := inClass (top 11) 0
theorem sc_Refusal_init : FnScope ["self", "answer"] ["self", "answer"] (defScope s_Refusal_init) := ⟨rfl, rfl, rfl, by decide +kernel, rfl, by decide +kernel, by decide +kernel⟩
abbrev s_NoRecords_init : Stmt := inClass (top 12) 0
theorem sc_NoRecords_init : FnScope ["self"] ["self"] (defScope s_NoRecords_init) := ⟨rfl, rfl, rfl, by decide +kernel, rfl, by decide +kernel, by decide +kernel⟩
abbrev s_NoSuchRecord_init : Stmt := inClass (top 13) 0
theorem sc_NoSuchRecord_init : FnScope ["self"] ["self"] (defScope s_NoSuchRecord_init) := ⟨rfl, rfl, rfl, by decide +kernel, rfl, by decide +kernel, by decide +kernel⟩
abbrev s_NoSuchLeafOrValue_init : Stmt := inClass (top 14) 0
theorem sc_NoSuchLeafOrValue_init : FnScope ["self"] ["self"] (defScope s_NoSuchLeafOrValue_init) := ⟨rfl, rfl, rfl, by decide +kernel, rfl, by decide +kernel, by decide +kernel⟩
abbrev s_NoValue_init : Stmt := inClass (top 15) 0
theorem sc_NoValue_init : FnScope ["self"] ["self"] (defScope s_NoValue_init) := ⟨rfl, rfl, rfl, by decide +kernel, rfl, by decide +kernel, by decide +kernel⟩
abbrev s_TooManyValues_init : Stmt := inClass (top 16) 0
theorem sc_TooManyValues_init : FnScope ["self"] ["self"] (defScope s_TooManyValues_init) := ⟨rfl, rfl, rfl, by decide +kernel, rfl, by decide +kernel, by decide +kernel⟩
abbrev s_UnknownCall_init : Stmt := inClass (top 17) 0
theorem sc_UnknownCall_init : FnScope ["self", "call"] ["self", "call"] (defScope s_UnknownCall_init) := ⟨rfl, rfl, rfl, by decide +kernel, rfl, by decide +kernel, by decide +kernel⟩
abbrev s_is_there : Stmt := top 19
theorem sc_is_there : FnScope ["leaf", "codes", "tag", "code"] ["leaf", "codes"] (defScope s_is_there) := ⟨rfl, rfl, rfl, by decide +kernel, rfl, by decide +kernel, by decide +kernel⟩
abbrev s_codes_of : Stmt := top 20
theorem sc_codes_of : FnScope ["leaves", "value", "codes", "used", "leaf"] ["leaves", "value"] (defScope s_codes_of) := ⟨rfl, rfl, rfl, by decide +kernel, rfl, by decide +kernel, by decide +kernel⟩
abbrev s_value_of : Stmt := top 21
theorem sc_value_of : FnScope ["leaves", "codes", "value", "leaf", "code"] ["leaves", "codes"] (defScope s_value_of) := ⟨rfl, rfl, rfl, by decide +kernel, rfl, by decide +kernel, by decide +kernel⟩
abbrev s_width_for : Stmt := top 23
theorem sc_width_for : FnScope ["greatest"] ["greatest"] (defScope s_width_for) := ⟨rfl, rfl, rfl, by decide +kernel, rfl, by decide +kernel, by decide +kernel⟩
abbrev s_count_row : Stmt := top 24
theorem sc_count_row : FnScope ["parts", "count", "part"] ["parts"] (defScope s_count_row) := ⟨rfl, rfl, rfl, by decide +kernel, rfl, by decide +kernel, by decide +kernel⟩
abbrev s_tell_row : Stmt := top 25
theorem sc_tell_row : FnScope ["parts", "number", "told", "weight", "part"] ["parts", "number", "told"] (defScope s_tell_row) := ⟨rfl, rfl, rfl, by decide +kernel, rfl, by decide +kernel, by decide +kernel⟩
abbrev s_number_row : Stmt := top 26
theorem sc_number_row : FnScope ["parts", "codes", "start", "number", "part"] ["parts", "codes", "start"] (defScope s_number_row) := ⟨rfl, rfl, rfl, by decide +kernel, rfl, by decide +kernel, by decide +kernel⟩
abbrev s_Leaf_init : Stmt := inClass (top 31) 0
theorem sc_Leaf_init : FnScope ["self", "name", "least", "greatest", "kind", "aligned", "hot", "guards"] ["self", "name", "least", "greatest", "kind", "aligned", "hot", "guards"] (defScope s_Leaf_init) := ⟨rfl, rfl, rfl, by decide +kernel, rfl, by decide +kernel, by decide +kernel⟩
abbrev s_Leaf_width : Stmt := inClass (top 31) 1
theorem sc_Leaf_width : FnScope ["self"] ["self"] (defScope s_Leaf_width) := ⟨rfl, rfl, rfl, by decide +kernel, rfl, by decide +kernel, by decide +kernel⟩
abbrev s_Leaf_greatest_code : Stmt := inClass (top 31) 2
theorem sc_Leaf_greatest_code : FnScope ["self"] ["self"] (defScope s_Leaf_greatest_code) := ⟨rfl, rfl, rfl, by decide +kernel, rfl, by decide +kernel, by decide +kernel⟩
abbrev s_Leaf_within : Stmt := inClass (top 31) 3
theorem sc_Leaf_within : FnScope ["self", "name", "hot", "guards", "start", "moved", "tag", "code"] ["self", "name", "hot", "guards", "start"] (defScope s_Leaf_within) := ⟨rfl, rfl, rfl, by decide +kernel, rfl, by decide +kernel, by decide +kernel⟩
abbrev s_Number_init : Stmt := inClass (top 32) 0
theorem sc_Number_init : FnScope ["self", "first", "last", "aligned"] ["self", "first", "last", "aligned"] (defScope s_Number_init) := ⟨rfl, rfl, rfl, by decide +kernel, rfl, by decide +kernel, by decide +kernel⟩
abbrev s_Number_leaf_count : Stmt := inClass (top 32) 1
theorem sc_Number_leaf_count : FnScope ["self"] ["self"] (defScope s_Number_leaf_count) := ⟨rfl, rfl, rfl, by decide +kernel, rfl, by decide +kernel, by decide +kernel⟩
abbrev s_Number_form : Stmt := inClass (top 32) 2
theorem sc_Number_form : FnScope ["self", "told"] ["self"] (defScope s_Number_form) := ⟨rfl, rfl, rfl, by decide +kernel, rfl, by decide +kernel, by decide +kernel⟩
abbrev s_Number_lay : Stmt := inClass (top 32) 3
theorem sc_Number_lay : FnScope ["self", "found", "name", "hot", "guards"] ["self", "found", "name", "hot", "guards"] (defScope s_Number_lay) := ⟨rfl, rfl, rfl, by decide +kernel, rfl, by decide +kernel, by decide +kernel⟩
abbrev s_Number_value_count : Stmt := inClass (top 32) 4
theorem sc_Number_value_count : FnScope ["self"] ["self"] (defScope s_Number_value_count) := ⟨rfl, rfl, rfl, by decide +kernel, rfl, by decide +kernel, by decide +kernel⟩
abbrev s_Number_tell : Stmt := inClass (top 32) 5
theorem sc_Number_tell : FnScope ["self", "number", "told"] ["self", "number", "told"] (defScope s_Number_tell) := ⟨rfl, rfl, rfl, by decide +kernel, rfl, by decide +kernel, by decide +kernel⟩
abbrev s_Number_number_of : Stmt := inClass (top 32) 6
theorem sc_Number_number_of : FnScope ["self", "codes", "start"] ["self", "codes", "start"] (defScope s_Number_number_of) := ⟨rfl, rfl, rfl, by decide +kernel, rfl, by decide +kernel, by decide +kernel⟩
abbrev s_Maybe_init : Stmt := inClass (top 33) 0
theorem sc_Maybe_init : FnScope ["self", "inner"] ["self", "inner"] (defScope s_Maybe_init) := ⟨rfl, rfl, rfl, by decide +kernel, rfl, by decide +kernel, by decide +kernel⟩
abbrev s_Maybe_leaf_count : Stmt := inClass (top 33) 1
theorem sc_Maybe_leaf_count : FnScope ["self"] ["self"] (defScope s_Maybe_leaf_count) := ⟨rfl, rfl, rfl, by decide +kernel, rfl, by decide +kernel, by decide +kernel⟩
abbrev s_Maybe_form : Stmt := inClass (top 33) 2
theorem sc_Maybe_form : FnScope ["self"] ["self"] (defScope s_Maybe_form) := ⟨rfl, rfl, rfl, by decide +kernel, rfl, by decide +kernel, by decide +kernel⟩
abbrev s_Maybe_lay : Stmt := inClass (top 33) 3
theorem sc_Maybe_lay : FnScope ["self", "found", "name", "hot", "guards", "tag"] ["self", "found", "name", "hot", "guards"] (defScope s_Maybe_lay) := ⟨rfl, rfl, rfl, by decide +kernel, rfl, by decide +kernel, by decide +kernel⟩
abbrev s_Maybe_value_count : Stmt := inClass (top 33) 4
theorem sc_Maybe_value_count : FnScope ["self"] ["self"] (defScope s_Maybe_value_count) := ⟨rfl, rfl, rfl, by decide +kernel, rfl, by decide +kernel, by decide +kernel⟩
abbrev s_Maybe_tell : Stmt := inClass (top 33) 5
theorem sc_Maybe_tell : FnScope ["self", "number", "told"] ["self", "number", "told"] (defScope s_Maybe_tell) := ⟨rfl, rfl, rfl, by decide +kernel, rfl, by decide +kernel, by decide +kernel⟩
abbrev s_Maybe_number_of : Stmt := inClass (top 33) 6
theorem sc_Maybe_number_of : FnScope ["self", "codes", "start"] ["self", "codes", "start"] (defScope s_Maybe_number_of) := ⟨rfl, rfl, rfl, by decide +kernel, rfl, by decide +kernel, by decide +kernel⟩
abbrev s_Many_init : Stmt := inClass (top 34) 0
theorem sc_Many_init : FnScope ["self", "times", "inner"] ["self", "times", "inner"] (defScope s_Many_init) := ⟨rfl, rfl, rfl, by decide +kernel, rfl, by decide +kernel, by decide +kernel⟩
abbrev s_Many_leaf_count : Stmt := inClass (top 34) 1
theorem sc_Many_leaf_count : FnScope ["self"] ["self"] (defScope s_Many_leaf_count) := ⟨rfl, rfl, rfl, by decide +kernel, rfl, by decide +kernel, by decide +kernel⟩
abbrev s_Many_form : Stmt := inClass (top 34) 2
theorem sc_Many_form : FnScope ["self"] ["self"] (defScope s_Many_form) := ⟨rfl, rfl, rfl, by decide +kernel, rfl, by decide +kernel, by decide +kernel⟩
abbrev s_Many_lay : Stmt := inClass (top 34) 3
theorem sc_Many_lay : FnScope ["self", "found", "name", "hot", "guards", "number"] ["self", "found", "name", "hot", "guards"] (defScope s_Many_lay) := ⟨rfl, rfl, rfl, by decide +kernel, rfl, by decide +kernel, by decide +kernel⟩
abbrev s_Many_row : Stmt := inClass (top 34) 4
theorem sc_Many_row : FnScope ["self"] ["self"] (defScope s_Many_row) := ⟨rfl, rfl, rfl, by decide +kernel, rfl, by decide +kernel, by decide +kernel⟩
abbrev s_Many_value_count : Stmt := inClass (top 34) 5
theorem sc_Many_value_count : FnScope ["self"] ["self"] (defScope s_Many_value_count) := ⟨rfl, rfl, rfl, by decide +kernel, rfl, by decide +kernel, by decide +kernel⟩
abbrev s_Many_tell : Stmt := inClass (top 34) 6
theorem sc_Many_tell : FnScope ["self", "number", "told"] ["self", "number", "told"] (defScope s_Many_tell) := ⟨rfl, rfl, rfl, by decide +kernel, rfl, by decide +kernel, by decide +kernel⟩
abbrev s_Many_number_of : Stmt := inClass (top 34) 7
theorem sc_Many_number_of : FnScope ["self", "codes", "start"] ["self", "codes", "start"] (defScope s_Many_number_of) := ⟨rfl, rfl, rfl, by decide +kernel, rfl, by decide +kernel, by decide +kernel⟩
abbrev s_Alternative_init : Stmt := inClass (top 35) 0
theorem sc_Alternative_init : FnScope ["self", "name", "inner"] ["self", "name", "inner"] (defScope s_Alternative_init) := ⟨rfl, rfl, rfl, by decide +kernel, rfl, by decide +kernel, by decide +kernel⟩
abbrev s_One_init : Stmt := inClass (top 36) 0
theorem sc_One_init : FnScope ["self", "alternatives"] ["self", "alternatives"] (defScope s_One_init) := ⟨rfl, rfl, rfl, by decide +kernel, rfl, by decide +kernel, by decide +kernel⟩
abbrev s_One_leaf_count : Stmt := inClass (top 36) 1
theorem sc_One_leaf_count : FnScope ["self", "alternative"] ["self"] (defScope s_One_leaf_count) := ⟨rfl, rfl, rfl, by decide +kernel, rfl, by decide +kernel, by decide +kernel⟩
abbrev s_One_form : Stmt := inClass (top 36) 2
theorem sc_One_form : FnScope ["self", "rows", "alternative"] ["self"] (defScope s_One_form) := ⟨rfl, rfl, rfl, by decide +kernel, rfl, by decide +kernel, by decide +kernel⟩
abbrev s_One_lay : Stmt := inClass (top 36) 3
theorem sc_One_lay : FnScope ["self", "found", "name", "hot", "guards", "tag", "number", "alternative"] ["self", "found", "name", "hot", "guards"] (defScope s_One_lay) := ⟨rfl, rfl, rfl, by decide +kernel, rfl, by decide +kernel, by decide +kernel⟩
abbrev s_One_value_count : Stmt := inClass (top 36) 4
theorem sc_One_value_count : FnScope ["self", "alternative"] ["self"] (defScope s_One_value_count) := ⟨rfl, rfl, rfl, by decide +kernel, rfl, by decide +kernel, by decide +kernel⟩
abbrev s_One_tell : Stmt := inClass (top 36) 5
theorem sc_One_tell : FnScope ["self", "number", "told", "chosen"] ["self", "number", "told"] (defScope s_One_tell) := ⟨rfl, rfl, rfl, by decide +kernel, rfl, by decide +kernel, by decide +kernel⟩
abbrev s_One_number_of : Stmt := inClass (top 36) 6
theorem sc_One_number_of : FnScope ["self", "codes", "start", "chosen", "ahead", "chosen_start", "number", "alternative", "inner"] ["self", "codes", "start"] (defScope s_One_number_of) := ⟨rfl, rfl, rfl, by decide +kernel, rfl, by decide +kernel, by decide +kernel⟩
abbrev s_Named_init : Stmt := inClass (top 37) 0
theorem sc_Named_init : FnScope ["self", "record"] ["self", "record"] (defScope s_Named_init) := ⟨rfl, rfl, rfl, by decide +kernel, rfl, by decide +kernel, by decide +kernel⟩
abbrev s_Named_leaf_count : Stmt := inClass (top 37) 1
theorem sc_Named_leaf_count : FnScope ["self"] ["self"] (defScope s_Named_leaf_count) := ⟨rfl, rfl, rfl, by decide +kernel, rfl, by decide +kernel, by decide +kernel⟩
abbrev s_Named_form : Stmt := inClass (top 37) 2
theorem sc_Named_form : FnScope ["self"] ["self"] (defScope s_Named_form) := ⟨rfl, rfl, rfl, by decide +kernel, rfl, by decide +kernel, by decide +kernel⟩
abbrev s_Named_lay : Stmt := inClass (top 37) 3
theorem sc_Named_lay : FnScope ["self", "found", "name", "hot", "guards", "start", "leaf"] ["self", "found", "name", "hot", "guards"] (defScope s_Named_lay) := ⟨rfl, rfl, rfl, by decide +kernel, rfl, by decide +kernel, by decide +kernel⟩
abbrev s_Named_value_count : Stmt := inClass (top 37) 4
theorem sc_Named_value_count : FnScope ["self"] ["self"] (defScope s_Named_value_count) := ⟨rfl, rfl, rfl, by decide +kernel, rfl, by decide +kernel, by decide +kernel⟩
abbrev s_Named_tell : Stmt := inClass (top 37) 5
theorem sc_Named_tell : FnScope ["self", "number", "told"] ["self", "number", "told"] (defScope s_Named_tell) := ⟨rfl, rfl, rfl, by decide +kernel, rfl, by decide +kernel, by decide +kernel⟩
abbrev s_Named_number_of : Stmt := inClass (top 37) 6
theorem sc_Named_number_of : FnScope ["self", "codes", "start"] ["self", "codes", "start"] (defScope s_Named_number_of) := ⟨rfl, rfl, rfl, by decide +kernel, rfl, by decide +kernel, by decide +kernel⟩
abbrev s_Field_init : Stmt := inClass (top 38) 0
theorem sc_Field_init : FnScope ["self", "name", "inner", "hot"] ["self", "name", "inner", "hot"] (defScope s_Field_init) := ⟨rfl, rfl, rfl, by decide +kernel, rfl, by decide +kernel, by decide +kernel⟩
abbrev s_Field_form : Stmt := inClass (top 38) 1
theorem sc_Field_form : FnScope ["self", "told"] ["self"] (defScope s_Field_form) := ⟨rfl, rfl, rfl, by decide +kernel, rfl, by decide +kernel, by decide +kernel⟩
abbrev s_Record_init : Stmt := inClass (top 39) 0
theorem sc_Record_init : FnScope ["self", "name", "fields", "field"] ["self", "name", "fields"] (defScope s_Record_init) := ⟨rfl, rfl, rfl, by decide +kernel, rfl, by decide +kernel, by decide +kernel⟩
abbrev s_Record_form : Stmt := inClass (top 39) 1
theorem sc_Record_form : FnScope ["self", "rows", "field", "row"] ["self"] (defScope s_Record_form) := ⟨rfl, rfl, rfl, by decide +kernel, rfl, by decide +kernel, by decide +kernel⟩
abbrev s_Record_value_at : Stmt := inClass (top 39) 2
theorem sc_Record_value_at : FnScope ["self", "number", "told"] ["self", "number"] (defScope s_Record_value_at) := ⟨rfl, rfl, rfl, by decide +kernel, rfl, by decide +kernel, by decide +kernel⟩
abbrev s_Record_number_at : Stmt := inClass (top 39) 3
theorem sc_Record_number_at : FnScope ["self", "codes"] ["self", "codes"] (defScope s_Record_number_at) := ⟨rfl, rfl, rfl, by decide +kernel, rfl, by decide +kernel, by decide +kernel⟩
abbrev s_count_leaves : Stmt := top 40
theorem sc_count_leaves : FnScope ["fields", "field"] ["fields"] (defScope s_count_leaves) := ⟨rfl, rfl, rfl, by decide +kernel, rfl, by decide +kernel, by decide +kernel⟩
abbrev s_laid_out : Stmt := top 41
theorem sc_laid_out : FnScope ["fields", "found", "field"] ["fields"] (defScope s_laid_out) := ⟨rfl, rfl, rfl, by decide +kernel, rfl, by decide +kernel, by decide +kernel⟩
abbrev s_one_form : Stmt := top 42
theorem sc_one_form : FnScope ["records", "record"] ["records"] (defScope s_one_form) := ⟨rfl, rfl, rfl, by decide +kernel, rfl, by decide +kernel, by decide +kernel⟩
abbrev s_Token_init : Stmt := inClass (top 57) 0
theorem sc_Token_init : FnScope ["self", "kind", "told", "place"] ["self", "kind", "told", "place"] (defScope s_Token_init) := ⟨rfl, rfl, rfl, by decide +kernel, rfl, by decide +kernel, by decide +kernel⟩
abbrev s_is_digit : Stmt := top 58
theorem sc_is_digit : FnScope ["byte"] ["byte"] (defScope s_is_digit) := ⟨rfl, rfl, rfl, by decide +kernel, rfl, by decide +kernel, by decide +kernel⟩
abbrev s_is_letter : Stmt := top 59
theorem sc_is_letter : FnScope ["byte"] ["byte"] (defScope s_is_letter) := ⟨rfl, rfl, rfl, by decide +kernel, rfl, by decide +kernel, by decide +kernel⟩
abbrev s_sign_of : Stmt := top 60
theorem sc_sign_of : FnScope ["byte"] ["byte"] (defScope s_sign_of) := ⟨rfl, rfl, rfl, by decide +kernel, rfl, by decide +kernel, by decide +kernel⟩
abbrev s_behind_remark : Stmt := top 61
theorem sc_behind_remark : FnScope ["text", "place"] ["text", "place"] (defScope s_behind_remark) := ⟨rfl, rfl, rfl, by decide +kernel, rfl, by decide +kernel, by decide +kernel⟩
abbrev s_behind_blanks : Stmt := top 62
theorem sc_behind_blanks : FnScope ["text", "place"] ["text", "place"] (defScope s_behind_blanks) := ⟨rfl, rfl, rfl, by decide +kernel, rfl, by decide +kernel, by decide +kernel⟩
abbrev s_behind_word : Stmt := top 63
theorem sc_behind_word : FnScope ["text", "place"] ["text", "place"] (defScope s_behind_word) := ⟨rfl, rfl, rfl, by decide +kernel, rfl, by decide +kernel, by decide +kernel⟩
abbrev s_behind_digits : Stmt := top 64
theorem sc_behind_digits : FnScope ["text", "place"] ["text", "place"] (defScope s_behind_digits) := ⟨rfl, rfl, rfl, by decide +kernel, rfl, by decide +kernel, by decide +kernel⟩
abbrev s_behind_token : Stmt := top 65
theorem sc_behind_token : FnScope ["text", "place"] ["text", "place"] (defScope s_behind_token) := ⟨rfl, rfl, rfl, by decide +kernel, rfl, by decide +kernel, by decide +kernel⟩
abbrev s_word_token : Stmt := top 66
theorem sc_word_token : FnScope ["part", "place", "word", "byte"] ["part", "place"] (defScope s_word_token) := ⟨rfl, rfl, rfl, by decide +kernel, rfl, by decide +kernel, by decide +kernel⟩
abbrev s_number_token : Stmt := top 67
theorem sc_number_token : FnScope ["part", "place", "needless_zero", "number", "byte"] ["part", "place"] (defScope s_number_token) := ⟨rfl, rfl, rfl, by decide +kernel, rfl, by decide +kernel, by decide +kernel⟩
abbrev s_token_of : Stmt := top 68
theorem sc_token_of : FnScope ["part", "place", "first"] ["part", "place"] (defScope s_token_of) := ⟨rfl, rfl, rfl, by decide +kernel, rfl, by decide +kernel, by decide +kernel⟩
abbrev s_tokens_of : Stmt := top 69
theorem sc_tokens_of : FnScope ["text", "tokens", "place", "behind"] ["text"] (defScope s_tokens_of) := ⟨rfl, rfl, rfl, by decide +kernel, rfl, by decide +kernel, by decide +kernel⟩
abbrev s_Reader_init : Stmt := inClass (top 80) 0
theorem sc_Reader_init : FnScope ["self", "tokens"] ["self", "tokens"] (defScope s_Reader_init) := ⟨rfl, rfl, rfl, by decide +kernel, rfl, by decide +kernel, by decide +kernel⟩
abbrev s_Reader_head : Stmt := inClass (top 80) 1
theorem sc_Reader_head : FnScope ["self"] ["self"] (defScope s_Reader_head) := ⟨rfl, rfl, rfl, by decide +kernel, rfl, by decide +kernel, by decide +kernel⟩
abbrev s_Reader_take : Stmt := inClass (top 80) 2
theorem sc_Reader_take : FnScope ["self", "kind", "token"] ["self", "kind"] (defScope s_Reader_take) := ⟨rfl, rfl, rfl, by decide +kernel, rfl, by decide +kernel, by decide +kernel⟩
abbrev s_Reader_takes : Stmt := inClass (top 80) 3
theorem sc_Reader_takes : FnScope ["self", "kind"] ["self", "kind"] (defScope s_Reader_takes) := ⟨rfl, rfl, rfl, by decide +kernel, rfl, by decide +kernel, by decide +kernel⟩
abbrev s_Reader_take_new_name : Stmt := inClass (top 80) 4
theorem sc_Reader_take_new_name : FnScope ["self", "told_before", "token"] ["self", "told_before"] (defScope s_Reader_take_new_name) := ⟨rfl, rfl, rfl, by decide +kernel, rfl, by decide +kernel, by decide +kernel⟩
abbrev s_Reader_take_number : Stmt := inClass (top 80) 5
theorem sc_Reader_take_number : FnScope ["self", "least", "greatest", "token"] ["self", "least", "greatest"] (defScope s_Reader_take_number) := ⟨rfl, rfl, rfl, by decide +kernel, rfl, by decide +kernel, by decide +kernel⟩
abbrev s_read_value : Stmt := top 81
theorem sc_read_value : FnScope ["reader", "least", "negative", "token", "value"] ["reader", "least"] (defScope s_read_value) := ⟨rfl, rfl, rfl, by decide +kernel, rfl, by decide +kernel, by decide +kernel⟩
abbrev s_read_alignment : Stmt := top 82
theorem sc_read_alignment : FnScope ["reader", "token"] ["reader"] (defScope s_read_alignment) := ⟨rfl, rfl, rfl, by decide +kernel, rfl, by decide +kernel, by decide +kernel⟩
abbrev s_read_number : Stmt := top 83
theorem sc_read_number : FnScope ["reader", "first", "last"] ["reader"] (defScope s_read_number) := ⟨rfl, rfl, rfl, by decide +kernel, rfl, by decide +kernel, by decide +kernel⟩
abbrev s_read_one : Stmt := top 84
theorem sc_read_one : FnScope ["reader", "depth", "alternatives", "names", "name"] ["reader", "depth"] (defScope s_read_one) := ⟨rfl, rfl, rfl, by decide +kernel, rfl, by decide +kernel, by decide +kernel⟩
abbrev s_read_named : Stmt := top 85
theorem sc_read_named : FnScope ["reader", "token"] ["reader"] (defScope s_read_named) := ⟨rfl, rfl, rfl, by decide +kernel, rfl, by decide +kernel, by decide +kernel⟩
abbrev s_read_shape : Stmt := top 86
theorem sc_read_shape : FnScope ["reader", "depth", "times"] ["reader", "depth"] (defScope s_read_shape) := ⟨rfl, rfl, rfl, by decide +kernel, rfl, by decide +kernel, by decide +kernel⟩
abbrev s_read_field : Stmt := top 87
theorem sc_read_field : FnScope ["reader", "names", "name", "inner", "hot"] ["reader", "names"] (defScope s_read_field) := ⟨rfl, rfl, rfl, by decide +kernel, rfl, by decide +kernel, by decide +kernel⟩
abbrev s_read_fields : Stmt := top 88
theorem sc_read_fields : FnScope ["reader", "fields", "names", "field"] ["reader"] (defScope s_read_fields) := ⟨rfl, rfl, rfl, by decide +kernel, rfl, by decide +kernel, by decide +kernel⟩
abbrev s_read_record : Stmt := top 89
theorem sc_read_record : FnScope ["reader", "start", "name", "fields"] ["reader"] (defScope s_read_record) := ⟨rfl, rfl, rfl, by decide +kernel, rfl, by decide +kernel, by decide +kernel⟩
abbrev s_read_records : Stmt := top 90
theorem sc_read_records : FnScope ["text", "reader", "records"] ["text"] (defScope s_read_records) := ⟨rfl, rfl, rfl, by decide +kernel, rfl, by decide +kernel, by decide +kernel⟩
abbrev s_Line_init : Stmt := inClass (top 102) 0
theorem sc_Line_init : FnScope ["self", "numbers"] ["self", "numbers"] (defScope s_Line_init) := ⟨rfl, rfl, rfl, by decide +kernel, rfl, by decide +kernel, by decide +kernel⟩
abbrev s_Line_ended : Stmt := inClass (top 102) 1
theorem sc_Line_ended : FnScope ["self"] ["self"] (defScope s_Line_ended) := ⟨rfl, rfl, rfl, by decide +kernel, rfl, by decide +kernel, by decide +kernel⟩
abbrev s_Line_take_whole : Stmt := inClass (top 102) 2
theorem sc_Line_take_whole : FnScope ["self"] ["self"] (defScope s_Line_take_whole) := ⟨rfl, rfl, rfl, by decide +kernel, rfl, by decide +kernel, by decide +kernel⟩
abbrev s_Line_take_row : Stmt := inClass (top 102) 3
theorem sc_Line_take_row : FnScope ["self", "start"] ["self"] (defScope s_Line_take_row) := ⟨rfl, rfl, rfl, by decide +kernel, rfl, by decide +kernel, by decide +kernel⟩
abbrev s_Holder_init : Stmt := inClass (top 103) 0
theorem sc_Holder_init : FnScope ["self"] ["self"] (defScope s_Holder_init) := ⟨rfl, rfl, rfl, by decide +kernel, rfl, by decide +kernel, by decide +kernel⟩
abbrev s_Holder_hold : Stmt := inClass (top 103) 1
theorem sc_Holder_hold : FnScope ["self", "records"] ["self", "records"] (defScope s_Holder_hold) := ⟨rfl, rfl, rfl, by decide +kernel, rfl, by decide +kernel, by decide +kernel⟩
abbrev s_Holder_all_records : Stmt := inClass (top 103) 2
theorem sc_Holder_all_records : FnScope ["self"] ["self"] (defScope s_Holder_all_records) := ⟨rfl, rfl, rfl, by decide +kernel, rfl, by decide +kernel, by decide +kernel⟩
abbrev s_Holder_record_at : Stmt := inClass (top 103) 3
theorem sc_Holder_record_at : FnScope ["self", "number", "records"] ["self", "number"] (defScope s_Holder_record_at) := ⟨rfl, rfl, rfl, by decide +kernel, rfl, by decide +kernel, by decide +kernel⟩
abbrev s_Holder_leaves_of : Stmt := inClass (top 103) 4
theorem sc_Holder_leaves_of : FnScope ["self", "number"] ["self", "number"] (defScope s_Holder_leaves_of) := ⟨rfl, rfl, rfl, by decide +kernel, rfl, by decide +kernel, by decide +kernel⟩
abbrev s_Holder_numbered_record_at : Stmt := inClass (top 103) 5
theorem sc_Holder_numbered_record_at : FnScope ["self", "number", "record"] ["self", "number"] (defScope s_Holder_numbered_record_at) := ⟨rfl, rfl, rfl, by decide +kernel, rfl, by decide +kernel, by decide +kernel⟩
abbrev s_bytes_of : Stmt := top 104
theorem sc_bytes_of : FnScope ["text", "sign"] ["text"] (defScope s_bytes_of) := ⟨rfl, rfl, rfl, by decide +kernel, rfl, by decide +kernel, by decide +kernel⟩
abbrev s_load : Stmt := top 105
theorem sc_load : FnScope ["holder", "text", "records", "fault", "record"] ["holder", "text"] (defScope s_load) := ⟨rfl, rfl, rfl, by decide +kernel, rfl, by decide +kernel, by decide +kernel⟩
abbrev s_shown : Stmt := top 106
theorem sc_shown : FnScope ["holder", "told"] ["holder"] (defScope s_shown) := ⟨rfl, rfl, rfl, by decide +kernel, rfl, by decide +kernel, by decide +kernel⟩
abbrev s_tell_leaves : Stmt := top 107
theorem sc_tell_leaves : FnScope ["holder", "record", "widths", "leaf"] ["holder", "record"] (defScope s_tell_leaves) := ⟨rfl, rfl, rfl, by decide +kernel, rfl, by decide +kernel, by decide +kernel⟩
abbrev s_tell_leaf : Stmt := top 108
theorem sc_tell_leaf : FnScope ["holder", "record", "number", "found", "leaf", "name", "told", "tag", "code"] ["holder", "record", "number"] (defScope s_tell_leaf) := ⟨rfl, rfl, rfl, by decide +kernel, rfl, by decide +kernel, by decide +kernel⟩
abbrev s_tell_codes : Stmt := top 109
theorem sc_tell_codes : FnScope ["holder", "record", "value", "codes"] ["holder", "record", "value"] (defScope s_tell_codes) := ⟨rfl, rfl, rfl, by decide +kernel, rfl, by decide +kernel, by decide +kernel⟩
abbrev s_tell_value : Stmt := top 110
theorem sc_tell_value : FnScope ["holder", "record", "codes", "value"] ["holder", "record", "codes"] (defScope s_tell_value) := ⟨rfl, rfl, rfl, by decide +kernel, rfl, by decide +kernel, by decide +kernel⟩
abbrev s_tell_count : Stmt := top 111
theorem sc_tell_count : FnScope ["holder", "record", "total"] ["holder", "record"] (defScope s_tell_count) := ⟨rfl, rfl, rfl, by decide +kernel, rfl, by decide +kernel, by decide +kernel⟩
abbrev s_tell_nth : Stmt := top 112
theorem sc_tell_nth : FnScope ["holder", "record", "number", "found", "value"] ["holder", "record", "number"] (defScope s_tell_nth) := ⟨rfl, rfl, rfl, by decide +kernel, rfl, by decide +kernel, by decide +kernel⟩
abbrev s_tell_index : Stmt := top 113
theorem sc_tell_index : FnScope ["holder", "record", "value", "found"] ["holder", "record", "value"] (defScope s_tell_index) := ⟨rfl, rfl, rfl, by decide +kernel, rfl, by decide +kernel, by decide +kernel⟩
abbrev s_answer_of : Stmt := top 114
theorem sc_answer_of : FnScope ["holder", "line", "call", "record"] ["holder", "line"] (defScope s_answer_of) := ⟨rfl, rfl, rfl, by decide +kernel, rfl, by decide +kernel, by decide +kernel⟩
abbrev s_answers : Stmt := top 115
theorem sc_answers : FnScope ["calls", "holder", "line", "told", "answer", "refusal"] ["calls"] (defScope s_answers) := ⟨rfl, rfl, rfl, by decide +kernel, rfl, by decide +kernel, by decide +kernel⟩
/-- a def of the top, a method, a class that is made -/
def HasDef (K : PySem.W.Frag) (mg : Str → Option Value) (x : Str) (st : Stmt) (ps : List Str) : Prop := ∃ f fd, mg x = some (.ref f) ∧ Fun K x x st f fd ∧ Binds K fd ps []
def HasMeth (K : PySem.W.Frag) (C : Addr) (m qual : Str) (st : Stmt) (ps : List Str) : Prop := ∃ f fd, Cls K C ∧ Meth K C m f ∧ Fun K m qual st f fd ∧ Binds K fd ps []
def HasInit (K : PySem.W.Frag) (mg : Str → Option Value) (x : Str) (C : Addr) (qual : Str) (st : Stmt) (ps : List Str) : Prop := mg x = some (.ref C) ∧ ∃ f fd, Mk K C f ∧ Fun K "__init__" qual st f fd ∧ Binds K fd ps []
def HasErr (K : PySem.W.Frag) (mg : Str → Option Value) (x : Str) (C : Addr) (qual : Str) (st : Stmt) (ps : List Str) : Prop := ∃ f fd, BaseIni K mg x C f ∧ PySem.W.findIn K (.ref C) "__init__" = some (some (.ref f)) ∧ PySem.W.typeIn K (.ref f) = some (.type "function") ∧ Fun K "__init__" qual st f fd ∧ Binds K fd ps []
section
variable {P : Program} {w : World} {K : PySem.W.Frag} {mg : Str → Option Value} {base : Heap} {x qual m : Str} {st : Stmt} {N ps : List Str} {k : Nat} {sp : Sp} {C : Addr}
/-- what a body has to show: no error leaves it | one may -/
def Body (P : Program) (w : World) (K : PySem.W.Frag) (mg : Str → Option Value) (base : Heap) (N : List Str) (qual : Str) (st : Stmt) (k : Nat) (sp : Sp) : Prop :=
  ∀ (f : Addr) (cdv : Value) (A : Around) (outer : List Env) (s : Shared) (H : Hp) (vs : List V) (Q : VK) (E : XK), Room k (A.deeper (envOfC qual (defScope st) s.heap.objs.size f cdv)) → sp vs H Q E →
    ∃ t, PSs (cxOf CX0 P w K mg base N qual (defScope st) f cdv A outer s H E).nox (defBody st) t ∧ t { nx := fun _ H' => Q .non H', rt := Q } (start N vs) H
def BodyX (P : Program) (w : World) (K : PySem.W.Frag) (mg : Str → Option Value) (base : Heap) (N : List Str) (qual : Str) (st : Stmt) (k : Nat) (sp : Sp) : Prop :=
  ∀ (f : Addr) (cdv : Value) (A : Around) (outer : List Env) (s : Shared) (H : Hp) (vs : List V) (Q : VK) (E : XK), Room k (A.deeper (envOfC qual (defScope st) s.heap.objs.size f cdv)) → sp vs H Q E →
    Takes (cxOf (L2.CX P w) P w K mg base N qual (defScope st) f cdv A outer s H E) (fun cls d _ H => E cls d H) →
    ∃ t, PSs (cxOf (L2.CX P w) P w K mg base N qual (defScope st) f cdv A outer s H E) (defBody st) t ∧ t { nx := fun _ H' => Q .non H', rt := Q } (start N vs) H
abbrev Len (sp : Sp) (ps : List Str) : Prop := ∀ vs H Q E, sp vs H Q E → vs.length = ps.length
theorem HasDef.ok (D : HasDef K mg x st ps) (S : FnScope N ps (defScope st)) (len : Len sp ps) (b : Body P w K mg base N x st k sp) : FnAt P w K mg base CX0 (k + 1) x ps sp := by
  obtain ⟨f, fd, hm, F, hb⟩ := D
  exact ⟨f, fd, hm, F.ok S len (fun cdv A outer s H vs Q E hr h => b f cdv A outer s H vs Q E hr h), hb, F.kp⟩
theorem HasDef.okX (D : HasDef K mg x st ps) (S : FnScope N ps (defScope st)) (len : Len sp ps) (b : BodyX P w K mg base N x st k sp) : FnAt P w K mg base (L2.CX P w) (k + 1) x ps sp := by
  obtain ⟨f, fd, hm, F, hb⟩ := D
  exact ⟨f, fd, hm, F.okX S len (fun cdv A outer s H vs Q E hr h => b f cdv A outer s H vs Q E hr h (takes_of rfl rfl rfl rfl)), hb, F.kp⟩
theorem HasMeth.ok (D : HasMeth K C m qual st ps) (S : FnScope N ps (defScope st)) (len : Len sp ps) (b : Body P w K mg base N qual st k sp) : MeAt P w K mg base CX0 (k + 1) C m ps sp := by
  obtain ⟨f, fd, c, hm, F, hb⟩ := D
  exact ⟨f, fd, c, hm, F.ok S len (fun cdv A outer s H vs Q E hr h => b f cdv A outer s H vs Q E hr h), hb⟩
theorem HasMeth.okX (D : HasMeth K C m qual st ps) (S : FnScope N ps (defScope st)) (len : Len sp ps) (b : BodyX P w K mg base N qual st k sp) : MeAt P w K mg base (L2.CX P w) (k + 1) C m ps sp := by
  obtain ⟨f, fd, c, hm, F, hb⟩ := D
  exact ⟨f, fd, c, hm, F.okX S len (fun cdv A outer s H vs Q E hr h => b f cdv A outer s H vs Q E hr h (takes_of rfl rfl rfl rfl)), hb⟩
theorem HasErr.ok (D : HasErr K mg x C qual st ps) (T : Err K C) (S : FnScope N ps (defScope st)) (len : Len sp ps) (b : Body P w K mg base N qual st k sp) : ErrAt P w K mg base (k + 1) x C ps sp ∧ BaseAt P w K mg base (k + 1) x ps sp := by
  obtain ⟨f, fd, B, iC, tI, F, hb⟩ := D
  have G := F.ok S len (P := P) (w := w) (mg := mg) (base := base) (fun cdv A outer s H vs Q E hr h => b f cdv A outer s H vs Q E hr h)
  exact ⟨⟨B.gC, T, f, fd, iC, tI, G, hb⟩, C, f, fd, B, G, hb⟩
theorem HasInit.ok (D : HasInit K mg x C qual st ps) (S : FnScope N ps (defScope st)) (len : Len sp ps) (b : Body P w K mg base N qual st k sp) : MkAt P w K mg base (k + 1) x C ps sp := by
  obtain ⟨hm, f, fd, M, F, hb⟩ := D
  exact ⟨hm, f, fd, M, F.ok S len (fun cdv A outer s H vs Q E hr h => b f cdv A outer s H vs Q E hr h), hb⟩
end
structure Txt (K : PySem.W.Frag) (mg : Str → Option Value) : Prop where
  n_TEXT_TOO_LONG : NumAt mg "TEXT_TOO_LONG" 1
  n_NO_TOKEN : NumAt mg "NO_TOKEN" 2
  n_NOT_ALLOWED : NumAt mg "NOT_ALLOWED" 3
  n_TOO_MANY : NumAt mg "TOO_MANY" 4
  n_TOLD_TWICE : NumAt mg "TOLD_TWICE" 5
  n_NOT_TOLD_BEFORE : NumAt mg "NOT_TOLD_BEFORE" 6
  n_OUT_OF_BOUNDS : NumAt mg "OUT_OF_BOUNDS" 7
  n_TOO_MANY_LEAVES : NumAt mg "TOO_MANY_LEAVES" 15
  n_FORM_TOO_LONG : NumAt mg "FORM_TOO_LONG" 16
  n_NUMBER : NumAt mg "NUMBER" 0
  n_MAYBE_TAG : NumAt mg "MAYBE_TAG" 1
  n_ONE_TAG : NumAt mg "ONE_TAG" 2
  a_WORDS : mg "WORDS" = some (.ref (He.ga K "WORDS"))
  tup_WORDS : ∀ H : Hp, SqT K H (He.ga K "WORDS") [.str "record", .str "from", .str "to", .str "at", .str "maybe", .str "many", .str "one", .str "hot", .str "layout", .str "size", .str "of"]
  a_SIGNS : mg "SIGNS" = some (.ref (He.ga K "SIGNS"))
  d_SIGNS : IntDict K (He.ga K "SIGNS") [(123, .str "{"), (125, .str "}"), (44, .str ","), (59, .str ";"), (58, .str ":"), (45, .str "-"), (46, .str ".")]
  a_BLANKS : mg "BLANKS" = some (.ref (He.ga K "BLANKS"))
  tup_BLANKS : ∀ H : Hp, SqT K H (He.ga K "BLANKS") [.int 32, .int 9, .int 10]
  n_REMARK : NumAt mg "REMARK" 35
  n_LINE_END : NumAt mg "LINE_END" 10
  t_SMALL_LETTERS : TxtAt mg "SMALL_LETTERS" "abcdefghijklmnopqrstuvwxyz"
  t_LARGE_LETTERS : TxtAt mg "LARGE_LETTERS" "ABCDEFGHIJKLMNOPQRSTUVWXYZ"
  t_DIGITS : TxtAt mg "DIGITS" "0123456789"
  n_SMALL_A : NumAt mg "SMALL_A" 97
  n_LARGE_A : NumAt mg "LARGE_A" 65
  n_ZERO : NumAt mg "ZERO" 48
  n_LONGEST_NAME : NumAt mg "LONGEST_NAME" 16
  n_GREATEST_NUMBER : NumAt mg "GREATEST_NUMBER" 1000000000
  n_MOST_BYTES : NumAt mg "MOST_BYTES" 4096
  n_MOST_RECORDS : NumAt mg "MOST_RECORDS" 6
  n_MOST_LEAVES : NumAt mg "MOST_LEAVES" 24
  n_MOST_ALTERNATIVES : NumAt mg "MOST_ALTERNATIVES" 4
  n_MOST_TIMES : NumAt mg "MOST_TIMES" 8
  n_DEEPEST : NumAt mg "DEEPEST" 6
  n_HOTTEST : NumAt mg "HOTTEST" 1000
  n_FARTHEST : NumAt mg "FARTHEST" 1000000
  a_ALIGNMENTS : mg "ALIGNMENTS" = some (.ref (He.ga K "ALIGNMENTS"))
  tup_ALIGNMENTS : ∀ H : Hp, SqT K H (He.ga K "ALIGNMENTS") [.int 1, .int 2, .int 4, .int 8, .int 16, .int 32]
  n_LOAD : NumAt mg "LOAD" 0
  n_SHOWN : NumAt mg "SHOWN" 1
  n_LEAVES : NumAt mg "LEAVES" 2
  n_LEAF : NumAt mg "LEAF" 3
  n_CODES : NumAt mg "CODES" 4
  n_VALUE : NumAt mg "VALUE" 5
  n_COUNT : NumAt mg "COUNT" 6
  n_NTH : NumAt mg "NTH" 7
  n_INDEX : NumAt mg "INDEX" 8
  n_MOST_VALUES : NumAt mg "MOST_VALUES" 1000000000000000000
  f_all : mg "all" = none
  f_zip : mg "zip" = none
  f_max : mg "max" = none
  f_sum : mg "sum" = none
  f_list : mg "list" = none
  f_len : mg "len" = none
  f_tuple : mg "tuple" = none
  f_range : mg "range" = none
  f_enumerate : mg "enumerate" = none
  f_ord : mg "ord" = none
  f_str : mg "str" = none
  x_Fault : Err K (He.ga K "Fault")
  na_Fault_code : NoAttr K (He.ga K "Fault") "code"
  na_Fault_place : NoAttr K (He.ga K "Fault") "place"
  x_Refusal : Err K (He.ga K "Refusal")
  na_Refusal_answer : NoAttr K (He.ga K "Refusal") "answer"
  x_NoRecords : Err K (He.ga K "NoRecords")
  na_NoRecords_answer : NoAttr K (He.ga K "NoRecords") "answer"
  x_NoSuchRecord : Err K (He.ga K "NoSuchRecord")
  na_NoSuchRecord_answer : NoAttr K (He.ga K "NoSuchRecord") "answer"
  x_NoSuchLeafOrValue : Err K (He.ga K "NoSuchLeafOrValue")
  na_NoSuchLeafOrValue_answer : NoAttr K (He.ga K "NoSuchLeafOrValue") "answer"
  x_NoValue : Err K (He.ga K "NoValue")
  na_NoValue_answer : NoAttr K (He.ga K "NoValue") "answer"
  x_TooManyValues : Err K (He.ga K "TooManyValues")
  na_TooManyValues_answer : NoAttr K (He.ga K "TooManyValues") "answer"
  x_UnknownCall : Err K (He.ga K "UnknownCall")
  na_UnknownCall_call : NoAttr K (He.ga K "UnknownCall") "call"
  c_Leaf : Cls K (He.ga K "Leaf")
  na_Leaf_name : NoAttr K (He.ga K "Leaf") "name"
  na_Leaf_least : NoAttr K (He.ga K "Leaf") "least"
  na_Leaf_greatest : NoAttr K (He.ga K "Leaf") "greatest"
  na_Leaf_kind : NoAttr K (He.ga K "Leaf") "kind"
  na_Leaf_aligned : NoAttr K (He.ga K "Leaf") "aligned"
  na_Leaf_hot : NoAttr K (He.ga K "Leaf") "hot"
  na_Leaf_guards : NoAttr K (He.ga K "Leaf") "guards"
  c_Number : Cls K (He.ga K "Number")
  na_Number_first : NoAttr K (He.ga K "Number") "first"
  na_Number_last : NoAttr K (He.ga K "Number") "last"
  na_Number_aligned : NoAttr K (He.ga K "Number") "aligned"
  c_Maybe : Cls K (He.ga K "Maybe")
  na_Maybe_inner : NoAttr K (He.ga K "Maybe") "inner"
  c_Many : Cls K (He.ga K "Many")
  na_Many_times : NoAttr K (He.ga K "Many") "times"
  na_Many_inner : NoAttr K (He.ga K "Many") "inner"
  c_Alternative : Cls K (He.ga K "Alternative")
  na_Alternative_name : NoAttr K (He.ga K "Alternative") "name"
  na_Alternative_inner : NoAttr K (He.ga K "Alternative") "inner"
  c_One : Cls K (He.ga K "One")
  na_One_alternatives : NoAttr K (He.ga K "One") "alternatives"
  c_Named : Cls K (He.ga K "Named")
  na_Named_record : NoAttr K (He.ga K "Named") "record"
  c_Field : Cls K (He.ga K "Field")
  na_Field_name : NoAttr K (He.ga K "Field") "name"
  na_Field_inner : NoAttr K (He.ga K "Field") "inner"
  na_Field_hot : NoAttr K (He.ga K "Field") "hot"
  c_Record : Cls K (He.ga K "Record")
  na_Record_name : NoAttr K (He.ga K "Record") "name"
  na_Record_fields : NoAttr K (He.ga K "Record") "fields"
  na_Record_leaves : NoAttr K (He.ga K "Record") "leaves"
  na_Record_parts : NoAttr K (He.ga K "Record") "parts"
  na_Record_total : NoAttr K (He.ga K "Record") "total"
  c_Token : Cls K (He.ga K "Token")
  na_Token_kind : NoAttr K (He.ga K "Token") "kind"
  na_Token_told : NoAttr K (He.ga K "Token") "told"
  na_Token_place : NoAttr K (He.ga K "Token") "place"
  c_Reader : Cls K (He.ga K "Reader")
  na_Reader_tokens : NoAttr K (He.ga K "Reader") "tokens"
  na_Reader_reached : NoAttr K (He.ga K "Reader") "reached"
  na_Reader_records : NoAttr K (He.ga K "Reader") "records"
  c_Line : Cls K (He.ga K "Line")
  na_Line_numbers : NoAttr K (He.ga K "Line") "numbers"
  na_Line_reached : NoAttr K (He.ga K "Line") "reached"
  c_Holder : Cls K (He.ga K "Holder")
  na_Holder_records : NoAttr K (He.ga K "Holder") "records"
  e_Fault : HasErr K mg "Fault" (He.ga K "Fault") "Fault.__init__" s_Fault_init ["self", "code", "place"]
  e_Refusal : HasErr K mg "Refusal" (He.ga K "Refusal") "Refusal.__init__" s_Refusal_init ["self", "answer"]
  e_NoRecords : HasErr K mg "NoRecords" (He.ga K "NoRecords") "NoRecords.__init__" s_NoRecords_init ["self"]
  e_NoSuchRecord : HasErr K mg "NoSuchRecord" (He.ga K "NoSuchRecord") "NoSuchRecord.__init__" s_NoSuchRecord_init ["self"]
  e_NoSuchLeafOrValue : HasErr K mg "NoSuchLeafOrValue" (He.ga K "NoSuchLeafOrValue") "NoSuchLeafOrValue.__init__" s_NoSuchLeafOrValue_init ["self"]
  e_NoValue : HasErr K mg "NoValue" (He.ga K "NoValue") "NoValue.__init__" s_NoValue_init ["self"]
  e_TooManyValues : HasErr K mg "TooManyValues" (He.ga K "TooManyValues") "TooManyValues.__init__" s_TooManyValues_init ["self"]
  e_UnknownCall : HasErr K mg "UnknownCall" (He.ga K "UnknownCall") "UnknownCall.__init__" s_UnknownCall_init ["self", "call"]
  d_is_there : HasDef K mg "is_there" s_is_there ["leaf", "codes"]
  d_codes_of : HasDef K mg "codes_of" s_codes_of ["leaves", "value"]
  d_value_of : HasDef K mg "value_of" s_value_of ["leaves", "codes"]
  d_width_for : HasDef K mg "width_for" s_width_for ["greatest"]
  d_count_row : HasDef K mg "count_row" s_count_row ["parts"]
  d_tell_row : HasDef K mg "tell_row" s_tell_row ["parts", "number", "told"]
  d_number_row : HasDef K mg "number_row" s_number_row ["parts", "codes", "start"]
  i_Leaf : HasInit K mg "Leaf" (He.ga K "Leaf") "Leaf.__init__" s_Leaf_init ["self", "name", "least", "greatest", "kind", "aligned", "hot", "guards"]
  m_Leaf_width : HasMeth K (He.ga K "Leaf") "width" "Leaf.width" s_Leaf_width ["self"]
  m_Leaf_greatest_code : HasMeth K (He.ga K "Leaf") "greatest_code" "Leaf.greatest_code" s_Leaf_greatest_code ["self"]
  m_Leaf_within : HasMeth K (He.ga K "Leaf") "within" "Leaf.within" s_Leaf_within ["self", "name", "hot", "guards", "start"]
  i_Number : HasInit K mg "Number" (He.ga K "Number") "Number.__init__" s_Number_init ["self", "first", "last", "aligned"]
  m_Number_leaf_count : HasMeth K (He.ga K "Number") "leaf_count" "Number.leaf_count" s_Number_leaf_count ["self"]
  m_Number_form : HasMeth K (He.ga K "Number") "form" "Number.form" s_Number_form ["self"]
  m_Number_lay : HasMeth K (He.ga K "Number") "lay" "Number.lay" s_Number_lay ["self", "found", "name", "hot", "guards"]
  m_Number_value_count : HasMeth K (He.ga K "Number") "value_count" "Number.value_count" s_Number_value_count ["self"]
  m_Number_tell : HasMeth K (He.ga K "Number") "tell" "Number.tell" s_Number_tell ["self", "number", "told"]
  m_Number_number_of : HasMeth K (He.ga K "Number") "number_of" "Number.number_of" s_Number_number_of ["self", "codes", "start"]
  i_Maybe : HasInit K mg "Maybe" (He.ga K "Maybe") "Maybe.__init__" s_Maybe_init ["self", "inner"]
  m_Maybe_leaf_count : HasMeth K (He.ga K "Maybe") "leaf_count" "Maybe.leaf_count" s_Maybe_leaf_count ["self"]
  m_Maybe_form : HasMeth K (He.ga K "Maybe") "form" "Maybe.form" s_Maybe_form ["self"]
  m_Maybe_lay : HasMeth K (He.ga K "Maybe") "lay" "Maybe.lay" s_Maybe_lay ["self", "found", "name", "hot", "guards"]
  m_Maybe_value_count : HasMeth K (He.ga K "Maybe") "value_count" "Maybe.value_count" s_Maybe_value_count ["self"]
  m_Maybe_tell : HasMeth K (He.ga K "Maybe") "tell" "Maybe.tell" s_Maybe_tell ["self", "number", "told"]
  m_Maybe_number_of : HasMeth K (He.ga K "Maybe") "number_of" "Maybe.number_of" s_Maybe_number_of ["self", "codes", "start"]
  i_Many : HasInit K mg "Many" (He.ga K "Many") "Many.__init__" s_Many_init ["self", "times", "inner"]
  m_Many_leaf_count : HasMeth K (He.ga K "Many") "leaf_count" "Many.leaf_count" s_Many_leaf_count ["self"]
  m_Many_form : HasMeth K (He.ga K "Many") "form" "Many.form" s_Many_form ["self"]
  m_Many_lay : HasMeth K (He.ga K "Many") "lay" "Many.lay" s_Many_lay ["self", "found", "name", "hot", "guards"]
  m_Many_row : HasMeth K (He.ga K "Many") "row" "Many.row" s_Many_row ["self"]
  m_Many_value_count : HasMeth K (He.ga K "Many") "value_count" "Many.value_count" s_Many_value_count ["self"]
  m_Many_tell : HasMeth K (He.ga K "Many") "tell" "Many.tell" s_Many_tell ["self", "number", "told"]
  m_Many_number_of : HasMeth K (He.ga K "Many") "number_of" "Many.number_of" s_Many_number_of ["self", "codes", "start"]
  i_Alternative : HasInit K mg "Alternative" (He.ga K "Alternative") "Alternative.__init__" s_Alternative_init ["self", "name", "inner"]
  i_One : HasInit K mg "One" (He.ga K "One") "One.__init__" s_One_init ["self", "alternatives"]
  m_One_leaf_count : HasMeth K (He.ga K "One") "leaf_count" "One.leaf_count" s_One_leaf_count ["self"]
  m_One_form : HasMeth K (He.ga K "One") "form" "One.form" s_One_form ["self"]
  m_One_lay : HasMeth K (He.ga K "One") "lay" "One.lay" s_One_lay ["self", "found", "name", "hot", "guards"]
  m_One_value_count : HasMeth K (He.ga K "One") "value_count" "One.value_count" s_One_value_count ["self"]
  m_One_tell : HasMeth K (He.ga K "One") "tell" "One.tell" s_One_tell ["self", "number", "told"]
  m_One_number_of : HasMeth K (He.ga K "One") "number_of" "One.number_of" s_One_number_of ["self", "codes", "start"]
  i_Named : HasInit K mg "Named" (He.ga K "Named") "Named.__init__" s_Named_init ["self", "record"]
  m_Named_leaf_count : HasMeth K (He.ga K "Named") "leaf_count" "Named.leaf_count" s_Named_leaf_count ["self"]
  m_Named_form : HasMeth K (He.ga K "Named") "form" "Named.form" s_Named_form ["self"]
  m_Named_lay : HasMeth K (He.ga K "Named") "lay" "Named.lay" s_Named_lay ["self", "found", "name", "hot", "guards"]
  m_Named_value_count : HasMeth K (He.ga K "Named") "value_count" "Named.value_count" s_Named_value_count ["self"]
  m_Named_tell : HasMeth K (He.ga K "Named") "tell" "Named.tell" s_Named_tell ["self", "number", "told"]
  m_Named_number_of : HasMeth K (He.ga K "Named") "number_of" "Named.number_of" s_Named_number_of ["self", "codes", "start"]
  i_Field : HasInit K mg "Field" (He.ga K "Field") "Field.__init__" s_Field_init ["self", "name", "inner", "hot"]
  m_Field_form : HasMeth K (He.ga K "Field") "form" "Field.form" s_Field_form ["self"]
  i_Record : HasInit K mg "Record" (He.ga K "Record") "Record.__init__" s_Record_init ["self", "name", "fields"]
  m_Record_form : HasMeth K (He.ga K "Record") "form" "Record.form" s_Record_form ["self"]
  m_Record_value_at : HasMeth K (He.ga K "Record") "value_at" "Record.value_at" s_Record_value_at ["self", "number"]
  m_Record_number_at : HasMeth K (He.ga K "Record") "number_at" "Record.number_at" s_Record_number_at ["self", "codes"]
  d_count_leaves : HasDef K mg "count_leaves" s_count_leaves ["fields"]
  d_laid_out : HasDef K mg "laid_out" s_laid_out ["fields"]
  d_one_form : HasDef K mg "one_form" s_one_form ["records"]
  i_Token : HasInit K mg "Token" (He.ga K "Token") "Token.__init__" s_Token_init ["self", "kind", "told", "place"]
  d_is_digit : HasDef K mg "is_digit" s_is_digit ["byte"]
  d_is_letter : HasDef K mg "is_letter" s_is_letter ["byte"]
  d_sign_of : HasDef K mg "sign_of" s_sign_of ["byte"]
  d_behind_remark : HasDef K mg "behind_remark" s_behind_remark ["text", "place"]
  d_behind_blanks : HasDef K mg "behind_blanks" s_behind_blanks ["text", "place"]
  d_behind_word : HasDef K mg "behind_word" s_behind_word ["text", "place"]
  d_behind_digits : HasDef K mg "behind_digits" s_behind_digits ["text", "place"]
  d_behind_token : HasDef K mg "behind_token" s_behind_token ["text", "place"]
  d_word_token : HasDef K mg "word_token" s_word_token ["part", "place"]
  d_number_token : HasDef K mg "number_token" s_number_token ["part", "place"]
  d_token_of : HasDef K mg "token_of" s_token_of ["part", "place"]
  d_tokens_of : HasDef K mg "tokens_of" s_tokens_of ["text"]
  i_Reader : HasInit K mg "Reader" (He.ga K "Reader") "Reader.__init__" s_Reader_init ["self", "tokens"]
  m_Reader_head : HasMeth K (He.ga K "Reader") "head" "Reader.head" s_Reader_head ["self"]
  m_Reader_take : HasMeth K (He.ga K "Reader") "take" "Reader.take" s_Reader_take ["self", "kind"]
  m_Reader_takes : HasMeth K (He.ga K "Reader") "takes" "Reader.takes" s_Reader_takes ["self", "kind"]
  m_Reader_take_new_name : HasMeth K (He.ga K "Reader") "take_new_name" "Reader.take_new_name" s_Reader_take_new_name ["self", "told_before"]
  m_Reader_take_number : HasMeth K (He.ga K "Reader") "take_number" "Reader.take_number" s_Reader_take_number ["self", "least", "greatest"]
  d_read_value : HasDef K mg "read_value" s_read_value ["reader", "least"]
  d_read_alignment : HasDef K mg "read_alignment" s_read_alignment ["reader"]
  d_read_number : HasDef K mg "read_number" s_read_number ["reader"]
  d_read_one : HasDef K mg "read_one" s_read_one ["reader", "depth"]
  d_read_named : HasDef K mg "read_named" s_read_named ["reader"]
  d_read_shape : HasDef K mg "read_shape" s_read_shape ["reader", "depth"]
  d_read_field : HasDef K mg "read_field" s_read_field ["reader", "names"]
  d_read_fields : HasDef K mg "read_fields" s_read_fields ["reader"]
  d_read_record : HasDef K mg "read_record" s_read_record ["reader"]
  d_read_records : HasDef K mg "read_records" s_read_records ["text"]
  i_Line : HasInit K mg "Line" (He.ga K "Line") "Line.__init__" s_Line_init ["self", "numbers"]
  m_Line_ended : HasMeth K (He.ga K "Line") "ended" "Line.ended" s_Line_ended ["self"]
  m_Line_take_whole : HasMeth K (He.ga K "Line") "take_whole" "Line.take_whole" s_Line_take_whole ["self"]
  m_Line_take_row : HasMeth K (He.ga K "Line") "take_row" "Line.take_row" s_Line_take_row ["self"]
  i_Holder : HasInit K mg "Holder" (He.ga K "Holder") "Holder.__init__" s_Holder_init ["self"]
  m_Holder_hold : HasMeth K (He.ga K "Holder") "hold" "Holder.hold" s_Holder_hold ["self", "records"]
  m_Holder_all_records : HasMeth K (He.ga K "Holder") "all_records" "Holder.all_records" s_Holder_all_records ["self"]
  m_Holder_record_at : HasMeth K (He.ga K "Holder") "record_at" "Holder.record_at" s_Holder_record_at ["self", "number"]
  m_Holder_leaves_of : HasMeth K (He.ga K "Holder") "leaves_of" "Holder.leaves_of" s_Holder_leaves_of ["self", "number"]
  m_Holder_numbered_record_at : HasMeth K (He.ga K "Holder") "numbered_record_at" "Holder.numbered_record_at" s_Holder_numbered_record_at ["self", "number"]
  d_bytes_of : HasDef K mg "bytes_of" s_bytes_of ["text"]
  d_load : HasDef K mg "load" s_load ["holder", "text"]
  d_shown : HasDef K mg "shown" s_shown ["holder"]
  d_tell_leaves : HasDef K mg "tell_leaves" s_tell_leaves ["holder", "record"]
  d_tell_leaf : HasDef K mg "tell_leaf" s_tell_leaf ["holder", "record", "number"]
  d_tell_codes : HasDef K mg "tell_codes" s_tell_codes ["holder", "record", "value"]
  d_tell_value : HasDef K mg "tell_value" s_tell_value ["holder", "record", "codes"]
  d_tell_count : HasDef K mg "tell_count" s_tell_count ["holder", "record"]
  d_tell_nth : HasDef K mg "tell_nth" s_tell_nth ["holder", "record", "number"]
  d_tell_index : HasDef K mg "tell_index" s_tell_index ["holder", "record", "value"]
  d_answer_of : HasDef K mg "answer_of" s_answer_of ["holder", "line"]
  d_answers : HasDef K mg "answers" s_answers ["calls"]
end Lv
set_option Elab.async false
set_option linter.all false
set_option maxRecDepth 100000
set_option maxHeartbeats 4000000
/-! What the head has to show besides the library's facts, as Bools. -/
namespace Lv
open PySem PySem.Spec PyProof.Rows L2
section
variable {K : PySem.W.Frag} {mg : Str → Option Value}
def errB (K : PySem.W.Frag) (C : Addr) : Bool :=
  PySem.W.excInitIn K C overAll "Exception.__new__" && PySem.W.excOver K C overAll && PySem.W.hasDictIn K C && He.eqO (PySem.W.findIn K (.ref C) "__setattr__") (some (some (.builtin "object.__setattr__")))
    && decide (PySem.W.subIn K (.ref C) (.type "BaseException") = some true) && decide (PySem.W.typeIn K (.ref C) = some (.type "type")) && PySem.W.keepIn K (.ref C)
    && He.eqO (PySem.W.findIn K (.ref C) "__getattribute__") (some (some (.builtin "BaseException.__getattribute__"))) && He.eqO (PySem.W.findIn K (.ref C) "__getattr__") (some none)
theorem errB_ok {C : Addr} (h : errB K C = true) : Err K C := by
  unfold errB at h
  simp only [Bool.and_eq_true] at h
  obtain ⟨⟨⟨⟨⟨⟨⟨⟨h1, h2⟩, h3⟩, h4⟩, h5⟩, h6⟩, h7⟩, h8⟩, h9⟩ := h
  exact ⟨h1, h2, h3, He.eqO_ok h4, of_decide_eq_true h5, of_decide_eq_true h6, h7, He.eqO_ok h8, He.eqO_ok h9⟩
/-- a class of errors whose __init__ is f -/
def biniB (K : PySem.W.Frag) (C : Addr) : Bool :=
  PySem.W.readsIn K C (.type "type") && He.eqO (PySem.W.specialIn K (.ref C) "__getattribute__") (some (some (.builtin "type.__getattribute__")))
    && (match PySem.W.findCls K (.ref C) (.type "type") "__init__" with
      | some (.val v) => decide (v = .ref (He.ma K C "__init__"))
      | _ => false) && PySem.W.keepIn K (.ref (He.ma K C "__init__")) && He.eqO (PySem.W.findIn K (.ref C) "__init__") (some (some (.ref (He.ma K C "__init__"))))
    && decide (PySem.W.typeIn K (.ref (He.ma K C "__init__")) = some (.type "function"))
theorem biniB_ok {C : Addr} {x : Str} (hg : mg x = some (.ref C)) (h : biniB K C = true) : BaseIni K mg x C (He.ma K C "__init__") ∧ PySem.W.findIn K (.ref C) "__init__" = some (some (.ref (He.ma K C "__init__"))) ∧ PySem.W.typeIn K (.ref (He.ma K C "__init__")) = some (.type "function") := by
  unfold biniB at h
  simp only [Bool.and_eq_true] at h
  obtain ⟨⟨⟨⟨⟨h1, h2⟩, h3⟩, h4⟩, h5⟩, h6⟩ := h
  refine ⟨⟨hg, h1, He.eqO_ok h2, ?_, h4⟩, He.eqO_ok h5, of_decide_eq_true h6⟩
  revert h3
  cases PySem.W.findCls K (.ref C) (.type "type") "__init__" with
  | none => intro h3; cases h3
  | some c =>
    cases c with
    | val v => intro h3; rw [of_decide_eq_true h3]
    | _ => intro h3; cases h3
/-- a tuple of the top -/
def tupB (K : PySem.W.Frag) (a : Addr) (xs : List V) : Bool := match K.lookup a with
  | some ⟨c, _, .seq its _, _⟩ => decide (c = .type "tuple") && decide (its.size ≤ 1000) && decide (its.toList.map absV = xs.map some)
  | _ => false
theorem abs_rel {x : V} {u : Value} (h : absV u = some x) : RelV x u := by
  cases u <;> first | (cases h; first | rfl | exact ⟨_, rfl⟩) | cases h
theorem abs_vals : ∀ {us : List Value} {xs : List V}, us.map absV = xs.map some → Vals xs us
  | [], [], _ => .nil
  | [], _ :: _, h => by cases h
  | _ :: _, [], h => by cases h
  | u :: us, x :: xs, h => by
    rw [List.map_cons, List.map_cons] at h
    injection h with h1 h2
    exact .cons (abs_rel h1) (abs_vals h2)
theorem tupB_ok {a : Addr} {xs : List V} (h : tupB K a xs = true) : ∀ H : Hp, SqT K H a xs := by
  intro H
  unfold tupB at h
  cases e : K.lookup a with
  | none =>
    rw [e] at h
    cases h
  | some o =>
    obtain ⟨c, d, dt, sl⟩ := o
    rw [e] at h
    cases dt with
    | seq its n =>
      have h : (decide (c = .type "tuple") && decide (its.size ≤ 1000) && decide (its.toList.map absV = xs.map some)) = true := h
      simp only [Bool.and_eq_true] at h
      obtain ⟨⟨h1, h2⟩, h3⟩ := h
      refine .inr ⟨_, its, n, e, of_decide_eq_true h1, rfl, ?_, abs_vals (of_decide_eq_true h3)⟩
      have := of_decide_eq_true h2
      rw [sizeLine_eq]
      omega
    | _ => cases h
/-- a dict of the top, whole numbers its keys -/
def entB : List (Int × V) → List DictEntry → Bool
  | [], [] => true
  | p :: ps, e :: es => (match e.key with
    | .int i _ => decide (i = p.1)
    | _ => false) && decide (e.hash = hashInt p.1) && decide (absV e.val = some p.2) && entB ps es
  | _, _ => false
theorem entB_ok : ∀ {ps : List (Int × V)} {es : List DictEntry}, entB ps es = true → Paired EntI ps es
  | [], [], _ => .nil
  | [], _ :: _, h => by cases h
  | _ :: _, [], h => by cases h
  | p :: ps, e :: es, h => by
    have h : ((match e.key with
      | .int i _ => decide (i = p.1)
      | _ => false) && decide (e.hash = hashInt p.1) && decide (absV e.val = some p.2) && entB ps es) = true := h
    simp only [Bool.and_eq_true] at h
    obtain ⟨⟨⟨h1, h2⟩, h3⟩, h4⟩ := h
    refine .cons ⟨?_, of_decide_eq_true h2, abs_rel (of_decide_eq_true h3)⟩ (entB_ok h4)
    cases ek : e.key with
    | int i t =>
      rw [ek] at h1
      exact ⟨t, by rw [of_decide_eq_true h1]⟩
    | _ =>
      rw [ek] at h1
      cases h1
def dictB (K : PySem.W.Frag) (a : Addr) (kvs : List (Int × V)) : Bool := (match K.lookup a with
  | some ⟨c, none, .dict es _, sl⟩ => decide (c = .type "dict") && decide (sl = #[]) && entB kvs es.toList
  | _ => false) && !(a == sysModules)
theorem dictB_ok {a : Addr} {kvs : List (Int × V)} (h : dictB K a kvs = true) : IntDict K a kvs := by
  unfold dictB at h
  obtain ⟨h, hs⟩ := Bool.and_eq_true_iff.mp h
  refine ⟨?_, by simpa using hs⟩
  cases e : K.lookup a with
  | none =>
    rw [e] at h
    cases h
  | some o =>
    obtain ⟨c, d, dt, sl⟩ := o
    rw [e] at h
    cases dt with
    | dict es n =>
      cases d with
      | none =>
        have h : (decide (c = .type "dict") && decide (sl = #[]) && entB kvs es.toList) = true := h
        simp only [Bool.and_eq_true] at h
        obtain ⟨⟨h1, h2⟩, h3⟩ := h
        refine ⟨es.toList, n, ?_, entB_ok h3⟩
        rw [of_decide_eq_true h1, of_decide_eq_true h2, Array.toArray_toList]
      | some _ => cases h
    | _ => cases d <;> cases h
/-! ### the hook: the library's facts, and one Bool more -/
def hookE (as : List Addr) (fa : List He.Fa) (fn : List He.DefD) (ex : PySem.W.Frag → Bool) : PySem.W.Hook where
  α := Bool × He.AlD
  obs := fun s => (ex (He.frG s.heap.get? as), He.obsD fa fn (He.frG s.heap.get? as))
  val := fun _ => (true, He.valD fn)
  says := fun _ h => ∃ K : PySem.W.Frag, K.In h ∧ ex K = true ∧ He.SaysD fa fn K
  of := fun _ _ e => ⟨_, He.frG_in, congrArg Prod.fst e, congrArg Prod.snd e⟩
  keeps := fun _ _ _ z kp => z.elim fun K c => ⟨K, PySem.W.Frag.In.keeps c.1 kp, c.2⟩
end
end Lv
set_option Elab.async false
set_option linter.all false
set_option maxRecDepth 100000
set_option maxHeartbeats 4000000
/-! The facts of this text that the head shows. -/
namespace Lv
open PySem PySem.Spec PyProof.Rows L2
def hFa0 : List He.Fa := [.int "TEXT_TOO_LONG" 1,
  .int "NO_TOKEN" 2,
  .int "NOT_ALLOWED" 3,
  .int "TOO_MANY" 4,
  .int "TOLD_TWICE" 5,
  .int "NOT_TOLD_BEFORE" 6,
  .int "OUT_OF_BOUNDS" 7,
  .int "TOO_MANY_LEAVES" 15,
  .int "FORM_TOO_LONG" 16,
  .int "NUMBER" 0,
  .int "MAYBE_TAG" 1,
  .int "ONE_TAG" 2,
  .glo "WORDS",
  .glo "SIGNS",
  .glo "BLANKS",
  .int "REMARK" 35,
  .int "LINE_END" 10,
  .str "SMALL_LETTERS" "abcdefghijklmnopqrstuvwxyz",
  .str "LARGE_LETTERS" "ABCDEFGHIJKLMNOPQRSTUVWXYZ",
  .str "DIGITS" "0123456789",
  .int "SMALL_A" 97,
  .int "LARGE_A" 65,
  .int "ZERO" 48,
  .int "LONGEST_NAME" 16,
  .int "GREATEST_NUMBER" 1000000000,
  .int "MOST_BYTES" 4096,
  .int "MOST_RECORDS" 6,
  .int "MOST_LEAVES" 24,
  .int "MOST_ALTERNATIVES" 4,
  .int "MOST_TIMES" 8,
  .int "DEEPEST" 6,
  .int "HOTTEST" 1000,
  .int "FARTHEST" 1000000,
  .glo "ALIGNMENTS",
  .int "LOAD" 0,
  .int "SHOWN" 1,
  .int "LEAVES" 2,
  .int "LEAF" 3,
  .int "CODES" 4,
  .int "VALUE" 5]
def hFa1 : List He.Fa := [.int "COUNT" 6,
  .int "NTH" 7,
  .int "INDEX" 8,
  .int "MOST_VALUES" 1000000000000000000,
  .free "all",
  .free "zip",
  .free "max",
  .free "sum",
  .free "list",
  .free "len",
  .free "tuple",
  .free "range",
  .free "enumerate",
  .free "ord",
  .free "str",
  .noat "Fault" "code",
  .noat "Fault" "place",
  .noat "Refusal" "answer",
  .noat "NoRecords" "answer",
  .noat "NoSuchRecord" "answer",
  .noat "NoSuchLeafOrValue" "answer",
  .noat "NoValue" "answer",
  .noat "TooManyValues" "answer",
  .noat "UnknownCall" "call",
  .cls "Leaf",
  .noat "Leaf" "name",
  .noat "Leaf" "least",
  .noat "Leaf" "greatest",
  .noat "Leaf" "kind",
  .noat "Leaf" "aligned",
  .noat "Leaf" "hot",
  .noat "Leaf" "guards",
  .cls "Number",
  .noat "Number" "first",
  .noat "Number" "last",
  .noat "Number" "aligned",
  .cls "Maybe",
  .noat "Maybe" "inner",
  .cls "Many",
  .noat "Many" "times"]
def hFa2 : List He.Fa := [.noat "Many" "inner",
  .cls "Alternative",
  .noat "Alternative" "name",
  .noat "Alternative" "inner",
  .cls "One",
  .noat "One" "alternatives",
  .cls "Named",
  .noat "Named" "record",
  .cls "Field",
  .noat "Field" "name",
  .noat "Field" "inner",
  .noat "Field" "hot",
  .cls "Record",
  .noat "Record" "name",
  .noat "Record" "fields",
  .noat "Record" "leaves",
  .noat "Record" "parts",
  .noat "Record" "total",
  .cls "Token",
  .noat "Token" "kind",
  .noat "Token" "told",
  .noat "Token" "place",
  .cls "Reader",
  .noat "Reader" "tokens",
  .noat "Reader" "reached",
  .noat "Reader" "records",
  .cls "Line",
  .noat "Line" "numbers",
  .noat "Line" "reached",
  .cls "Holder",
  .noat "Holder" "records",
  .glo "Fault",
  .glo "Refusal",
  .glo "NoRecords",
  .glo "NoSuchRecord",
  .glo "NoSuchLeafOrValue",
  .glo "NoValue",
  .glo "TooManyValues",
  .glo "UnknownCall",
  .glo "is_there"]
def hFa3 : List He.Fa := [.glo "codes_of",
  .glo "value_of",
  .glo "width_for",
  .glo "count_row",
  .glo "tell_row",
  .glo "number_row",
  .glo "Leaf",
  .mkr "Leaf",
  .meth "Leaf" "width",
  .meth "Leaf" "greatest_code",
  .meth "Leaf" "within",
  .glo "Number",
  .mkr "Number",
  .meth "Number" "leaf_count",
  .meth "Number" "form",
  .meth "Number" "lay",
  .meth "Number" "value_count",
  .meth "Number" "tell",
  .meth "Number" "number_of",
  .glo "Maybe",
  .mkr "Maybe",
  .meth "Maybe" "leaf_count",
  .meth "Maybe" "form",
  .meth "Maybe" "lay",
  .meth "Maybe" "value_count",
  .meth "Maybe" "tell",
  .meth "Maybe" "number_of",
  .glo "Many",
  .mkr "Many",
  .meth "Many" "leaf_count",
  .meth "Many" "form",
  .meth "Many" "lay",
  .meth "Many" "row",
  .meth "Many" "value_count",
  .meth "Many" "tell",
  .meth "Many" "number_of",
  .glo "Alternative",
  .mkr "Alternative",
  .glo "One",
  .mkr "One"]
def hFa4 : List He.Fa := [.meth "One" "leaf_count",
  .meth "One" "form",
  .meth "One" "lay",
  .meth "One" "value_count",
  .meth "One" "tell",
  .meth "One" "number_of",
  .glo "Named",
  .mkr "Named",
  .meth "Named" "leaf_count",
  .meth "Named" "form",
  .meth "Named" "lay",
  .meth "Named" "value_count",
  .meth "Named" "tell",
  .meth "Named" "number_of",
  .glo "Field",
  .mkr "Field",
  .meth "Field" "form",
  .glo "Record",
  .mkr "Record",
  .meth "Record" "form",
  .meth "Record" "value_at",
  .meth "Record" "number_at",
  .glo "count_leaves",
  .glo "laid_out",
  .glo "one_form",
  .glo "Token",
  .mkr "Token",
  .glo "is_digit",
  .glo "is_letter",
  .glo "sign_of",
  .glo "behind_remark",
  .glo "behind_blanks",
  .glo "behind_word",
  .glo "behind_digits",
  .glo "behind_token",
  .glo "word_token",
  .glo "number_token",
  .glo "token_of",
  .glo "tokens_of",
  .glo "Reader"]
def hFa5 : List He.Fa := [.mkr "Reader",
  .meth "Reader" "head",
  .meth "Reader" "take",
  .meth "Reader" "takes",
  .meth "Reader" "take_new_name",
  .meth "Reader" "take_number",
  .glo "read_value",
  .glo "read_alignment",
  .glo "read_number",
  .glo "read_one",
  .glo "read_named",
  .glo "read_shape",
  .glo "read_field",
  .glo "read_fields",
  .glo "read_record",
  .glo "read_records",
  .glo "Line",
  .mkr "Line",
  .meth "Line" "ended",
  .meth "Line" "take_whole",
  .meth "Line" "take_row",
  .glo "Holder",
  .mkr "Holder",
  .meth "Holder" "hold",
  .meth "Holder" "all_records",
  .meth "Holder" "record_at",
  .meth "Holder" "leaves_of",
  .meth "Holder" "numbered_record_at",
  .glo "bytes_of",
  .glo "load",
  .glo "shown",
  .glo "tell_leaves",
  .glo "tell_leaf",
  .glo "tell_codes",
  .glo "tell_value",
  .glo "tell_count",
  .glo "tell_nth",
  .glo "tell_index",
  .glo "answer_of",
  .glo "answers"]
def hFa6 : List He.Fa := [.exm "Fault" "Fault" true,
  .exm "NoRecords" "Refusal" true,
  .exm "NoSuchRecord" "Refusal" true,
  .exm "NoSuchLeafOrValue" "Refusal" true,
  .exm "NoValue" "Refusal" true,
  .exm "TooManyValues" "Refusal" true]
def hFa : List He.Fa := hFa0 ++ hFa1 ++ hFa2 ++ hFa3 ++ hFa4 ++ hFa5 ++ hFa6
def hFn0 : List He.DefD := [⟨("Fault", some "__init__"), "__init__", "Fault.__init__", defArgs s_Fault_init, defBody s_Fault_init, defScope s_Fault_init, [], []⟩,
  ⟨("Refusal", some "__init__"), "__init__", "Refusal.__init__", defArgs s_Refusal_init, defBody s_Refusal_init, defScope s_Refusal_init, [], []⟩,
  ⟨("NoRecords", some "__init__"), "__init__", "NoRecords.__init__", defArgs s_NoRecords_init, defBody s_NoRecords_init, defScope s_NoRecords_init, [], []⟩,
  ⟨("NoSuchRecord", some "__init__"), "__init__", "NoSuchRecord.__init__", defArgs s_NoSuchRecord_init, defBody s_NoSuchRecord_init, defScope s_NoSuchRecord_init, [], []⟩,
  ⟨("NoSuchLeafOrValue", some "__init__"), "__init__", "NoSuchLeafOrValue.__init__", defArgs s_NoSuchLeafOrValue_init, defBody s_NoSuchLeafOrValue_init, defScope s_NoSuchLeafOrValue_init, [], []⟩,
  ⟨("NoValue", some "__init__"), "__init__", "NoValue.__init__", defArgs s_NoValue_init, defBody s_NoValue_init, defScope s_NoValue_init, [], []⟩,
  ⟨("TooManyValues", some "__init__"), "__init__", "TooManyValues.__init__", defArgs s_TooManyValues_init, defBody s_TooManyValues_init, defScope s_TooManyValues_init, [], []⟩,
  ⟨("UnknownCall", some "__init__"), "__init__", "UnknownCall.__init__", defArgs s_UnknownCall_init, defBody s_UnknownCall_init, defScope s_UnknownCall_init, [], []⟩,
  ⟨("is_there", none), "is_there", "is_there", defArgs s_is_there, defBody s_is_there, defScope s_is_there, [], []⟩,
  ⟨("codes_of", none), "codes_of", "codes_of", defArgs s_codes_of, defBody s_codes_of, defScope s_codes_of, [], []⟩,
  ⟨("value_of", none), "value_of", "value_of", defArgs s_value_of, defBody s_value_of, defScope s_value_of, [], []⟩,
  ⟨("width_for", none), "width_for", "width_for", defArgs s_width_for, defBody s_width_for, defScope s_width_for, [], []⟩,
  ⟨("count_row", none), "count_row", "count_row", defArgs s_count_row, defBody s_count_row, defScope s_count_row, [], []⟩,
  ⟨("tell_row", none), "tell_row", "tell_row", defArgs s_tell_row, defBody s_tell_row, defScope s_tell_row, [], []⟩,
  ⟨("number_row", none), "number_row", "number_row", defArgs s_number_row, defBody s_number_row, defScope s_number_row, [], []⟩,
  ⟨("Leaf", some "__init__"), "__init__", "Leaf.__init__", defArgs s_Leaf_init, defBody s_Leaf_init, defScope s_Leaf_init, [], []⟩,
  ⟨("Leaf", some "width"), "width", "Leaf.width", defArgs s_Leaf_width, defBody s_Leaf_width, defScope s_Leaf_width, [], []⟩,
  ⟨("Leaf", some "greatest_code"), "greatest_code", "Leaf.greatest_code", defArgs s_Leaf_greatest_code, defBody s_Leaf_greatest_code, defScope s_Leaf_greatest_code, [], []⟩,
  ⟨("Leaf", some "within"), "within", "Leaf.within", defArgs s_Leaf_within, defBody s_Leaf_within, defScope s_Leaf_within, [], []⟩,
  ⟨("Number", some "__init__"), "__init__", "Number.__init__", defArgs s_Number_init, defBody s_Number_init, defScope s_Number_init, [], []⟩,
  ⟨("Number", some "leaf_count"), "leaf_count", "Number.leaf_count", defArgs s_Number_leaf_count, defBody s_Number_leaf_count, defScope s_Number_leaf_count, [], []⟩,
  ⟨("Number", some "form"), "form", "Number.form", defArgs s_Number_form, defBody s_Number_form, defScope s_Number_form, [], []⟩,
  ⟨("Number", some "lay"), "lay", "Number.lay", defArgs s_Number_lay, defBody s_Number_lay, defScope s_Number_lay, [], []⟩,
  ⟨("Number", some "value_count"), "value_count", "Number.value_count", defArgs s_Number_value_count, defBody s_Number_value_count, defScope s_Number_value_count, [], []⟩,
  ⟨("Number", some "tell"), "tell", "Number.tell", defArgs s_Number_tell, defBody s_Number_tell, defScope s_Number_tell, [], []⟩,
  ⟨("Number", some "number_of"), "number_of", "Number.number_of", defArgs s_Number_number_of, defBody s_Number_number_of, defScope s_Number_number_of, [], []⟩,
  ⟨("Maybe", some "__init__"), "__init__", "Maybe.__init__", defArgs s_Maybe_init, defBody s_Maybe_init, defScope s_Maybe_init, [], []⟩,
  ⟨("Maybe", some "leaf_count"), "leaf_count", "Maybe.leaf_count", defArgs s_Maybe_leaf_count, defBody s_Maybe_leaf_count, defScope s_Maybe_leaf_count, [], []⟩,
  ⟨("Maybe", some "form"), "form", "Maybe.form", defArgs s_Maybe_form, defBody s_Maybe_form, defScope s_Maybe_form, [], []⟩,
  ⟨("Maybe", some "lay"), "lay", "Maybe.lay", defArgs s_Maybe_lay, defBody s_Maybe_lay, defScope s_Maybe_lay, [], []⟩,
  ⟨("Maybe", some "value_count"), "value_count", "Maybe.value_count", defArgs s_Maybe_value_count, defBody s_Maybe_value_count, defScope s_Maybe_value_count, [], []⟩,
  ⟨("Maybe", some "tell"), "tell", "Maybe.tell", defArgs s_Maybe_tell, defBody s_Maybe_tell, defScope s_Maybe_tell, [], []⟩,
  ⟨("Maybe", some "number_of"), "number_of", "Maybe.number_of", defArgs s_Maybe_number_of, defBody s_Maybe_number_of, defScope s_Maybe_number_of, [], []⟩,
  ⟨("Many", some "__init__"), "__init__", "Many.__init__", defArgs s_Many_init, defBody s_Many_init, defScope s_Many_init, [], []⟩,
  ⟨("Many", some "leaf_count"), "leaf_count", "Many.leaf_count", defArgs s_Many_leaf_count, defBody s_Many_leaf_count, defScope s_Many_leaf_count, [], []⟩,
  ⟨("Many", some "form"), "form", "Many.form", defArgs s_Many_form, defBody s_Many_form, defScope s_Many_form, [], []⟩,
  ⟨("Many", some "lay"), "lay", "Many.lay", defArgs s_Many_lay, defBody s_Many_lay, defScope s_Many_lay, [], []⟩,
  ⟨("Many", some "row"), "row", "Many.row", defArgs s_Many_row, defBody s_Many_row, defScope s_Many_row, [], []⟩,
  ⟨("Many", some "value_count"), "value_count", "Many.value_count", defArgs s_Many_value_count, defBody s_Many_value_count, defScope s_Many_value_count, [], []⟩,
  ⟨("Many", some "tell"), "tell", "Many.tell", defArgs s_Many_tell, defBody s_Many_tell, defScope s_Many_tell, [], []⟩]
def hFn1 : List He.DefD := [⟨("Many", some "number_of"), "number_of", "Many.number_of", defArgs s_Many_number_of, defBody s_Many_number_of, defScope s_Many_number_of, [], []⟩,
  ⟨("Alternative", some "__init__"), "__init__", "Alternative.__init__", defArgs s_Alternative_init, defBody s_Alternative_init, defScope s_Alternative_init, [], []⟩,
  ⟨("One", some "__init__"), "__init__", "One.__init__", defArgs s_One_init, defBody s_One_init, defScope s_One_init, [], []⟩,
  ⟨("One", some "leaf_count"), "leaf_count", "One.leaf_count", defArgs s_One_leaf_count, defBody s_One_leaf_count, defScope s_One_leaf_count, [], []⟩,
  ⟨("One", some "form"), "form", "One.form", defArgs s_One_form, defBody s_One_form, defScope s_One_form, [], []⟩,
  ⟨("One", some "lay"), "lay", "One.lay", defArgs s_One_lay, defBody s_One_lay, defScope s_One_lay, [], []⟩,
  ⟨("One", some "value_count"), "value_count", "One.value_count", defArgs s_One_value_count, defBody s_One_value_count, defScope s_One_value_count, [], []⟩,
  ⟨("One", some "tell"), "tell", "One.tell", defArgs s_One_tell, defBody s_One_tell, defScope s_One_tell, [], []⟩,
  ⟨("One", some "number_of"), "number_of", "One.number_of", defArgs s_One_number_of, defBody s_One_number_of, defScope s_One_number_of, [], []⟩,
  ⟨("Named", some "__init__"), "__init__", "Named.__init__", defArgs s_Named_init, defBody s_Named_init, defScope s_Named_init, [], []⟩,
  ⟨("Named", some "leaf_count"), "leaf_count", "Named.leaf_count", defArgs s_Named_leaf_count, defBody s_Named_leaf_count, defScope s_Named_leaf_count, [], []⟩,
  ⟨("Named", some "form"), "form", "Named.form", defArgs s_Named_form, defBody s_Named_form, defScope s_Named_form, [], []⟩,
  ⟨("Named", some "lay"), "lay", "Named.lay", defArgs s_Named_lay, defBody s_Named_lay, defScope s_Named_lay, [], []⟩,
  ⟨("Named", some "value_count"), "value_count", "Named.value_count", defArgs s_Named_value_count, defBody s_Named_value_count, defScope s_Named_value_count, [], []⟩,
  ⟨("Named", some "tell"), "tell", "Named.tell", defArgs s_Named_tell, defBody s_Named_tell, defScope s_Named_tell, [], []⟩,
  ⟨("Named", some "number_of"), "number_of", "Named.number_of", defArgs s_Named_number_of, defBody s_Named_number_of, defScope s_Named_number_of, [], []⟩,
  ⟨("Field", some "__init__"), "__init__", "Field.__init__", defArgs s_Field_init, defBody s_Field_init, defScope s_Field_init, [], []⟩,
  ⟨("Field", some "form"), "form", "Field.form", defArgs s_Field_form, defBody s_Field_form, defScope s_Field_form, [], []⟩,
  ⟨("Record", some "__init__"), "__init__", "Record.__init__", defArgs s_Record_init, defBody s_Record_init, defScope s_Record_init, [], []⟩,
  ⟨("Record", some "form"), "form", "Record.form", defArgs s_Record_form, defBody s_Record_form, defScope s_Record_form, [], []⟩,
  ⟨("Record", some "value_at"), "value_at", "Record.value_at", defArgs s_Record_value_at, defBody s_Record_value_at, defScope s_Record_value_at, [], []⟩,
  ⟨("Record", some "number_at"), "number_at", "Record.number_at", defArgs s_Record_number_at, defBody s_Record_number_at, defScope s_Record_number_at, [], []⟩,
  ⟨("count_leaves", none), "count_leaves", "count_leaves", defArgs s_count_leaves, defBody s_count_leaves, defScope s_count_leaves, [], []⟩,
  ⟨("laid_out", none), "laid_out", "laid_out", defArgs s_laid_out, defBody s_laid_out, defScope s_laid_out, [], []⟩,
  ⟨("one_form", none), "one_form", "one_form", defArgs s_one_form, defBody s_one_form, defScope s_one_form, [], []⟩,
  ⟨("Token", some "__init__"), "__init__", "Token.__init__", defArgs s_Token_init, defBody s_Token_init, defScope s_Token_init, [], []⟩,
  ⟨("is_digit", none), "is_digit", "is_digit", defArgs s_is_digit, defBody s_is_digit, defScope s_is_digit, [], []⟩,
  ⟨("is_letter", none), "is_letter", "is_letter", defArgs s_is_letter, defBody s_is_letter, defScope s_is_letter, [], []⟩,
  ⟨("sign_of", none), "sign_of", "sign_of", defArgs s_sign_of, defBody s_sign_of, defScope s_sign_of, [], []⟩,
  ⟨("behind_remark", none), "behind_remark", "behind_remark", defArgs s_behind_remark, defBody s_behind_remark, defScope s_behind_remark, [], []⟩,
  ⟨("behind_blanks", none), "behind_blanks", "behind_blanks", defArgs s_behind_blanks, defBody s_behind_blanks, defScope s_behind_blanks, [], []⟩,
  ⟨("behind_word", none), "behind_word", "behind_word", defArgs s_behind_word, defBody s_behind_word, defScope s_behind_word, [], []⟩,
  ⟨("behind_digits", none), "behind_digits", "behind_digits", defArgs s_behind_digits, defBody s_behind_digits, defScope s_behind_digits, [], []⟩,
  ⟨("behind_token", none), "behind_token", "behind_token", defArgs s_behind_token, defBody s_behind_token, defScope s_behind_token, [], []⟩,
  ⟨("word_token", none), "word_token", "word_token", defArgs s_word_token, defBody s_word_token, defScope s_word_token, [], []⟩,
  ⟨("number_token", none), "number_token", "number_token", defArgs s_number_token, defBody s_number_token, defScope s_number_token, [], []⟩,
  ⟨("token_of", none), "token_of", "token_of", defArgs s_token_of, defBody s_token_of, defScope s_token_of, [], []⟩,
  ⟨("tokens_of", none), "tokens_of", "tokens_of", defArgs s_tokens_of, defBody s_tokens_of, defScope s_tokens_of, [], []⟩,
  ⟨("Reader", some "__init__"), "__init__", "Reader.__init__", defArgs s_Reader_init, defBody s_Reader_init, defScope s_Reader_init, [], []⟩,
  ⟨("Reader", some "head"), "head", "Reader.head", defArgs s_Reader_head, defBody s_Reader_head, defScope s_Reader_head, [], []⟩]
def hFn2 : List He.DefD := [⟨("Reader", some "take"), "take", "Reader.take", defArgs s_Reader_take, defBody s_Reader_take, defScope s_Reader_take, [], []⟩,
  ⟨("Reader", some "takes"), "takes", "Reader.takes", defArgs s_Reader_takes, defBody s_Reader_takes, defScope s_Reader_takes, [], []⟩,
  ⟨("Reader", some "take_new_name"), "take_new_name", "Reader.take_new_name", defArgs s_Reader_take_new_name, defBody s_Reader_take_new_name, defScope s_Reader_take_new_name, [], []⟩,
  ⟨("Reader", some "take_number"), "take_number", "Reader.take_number", defArgs s_Reader_take_number, defBody s_Reader_take_number, defScope s_Reader_take_number, [], []⟩,
  ⟨("read_value", none), "read_value", "read_value", defArgs s_read_value, defBody s_read_value, defScope s_read_value, [], []⟩,
  ⟨("read_alignment", none), "read_alignment", "read_alignment", defArgs s_read_alignment, defBody s_read_alignment, defScope s_read_alignment, [], []⟩,
  ⟨("read_number", none), "read_number", "read_number", defArgs s_read_number, defBody s_read_number, defScope s_read_number, [], []⟩,
  ⟨("read_one", none), "read_one", "read_one", defArgs s_read_one, defBody s_read_one, defScope s_read_one, [], []⟩,
  ⟨("read_named", none), "read_named", "read_named", defArgs s_read_named, defBody s_read_named, defScope s_read_named, [], []⟩,
  ⟨("read_shape", none), "read_shape", "read_shape", defArgs s_read_shape, defBody s_read_shape, defScope s_read_shape, [], []⟩,
  ⟨("read_field", none), "read_field", "read_field", defArgs s_read_field, defBody s_read_field, defScope s_read_field, [], []⟩,
  ⟨("read_fields", none), "read_fields", "read_fields", defArgs s_read_fields, defBody s_read_fields, defScope s_read_fields, [], []⟩,
  ⟨("read_record", none), "read_record", "read_record", defArgs s_read_record, defBody s_read_record, defScope s_read_record, [], []⟩,
  ⟨("read_records", none), "read_records", "read_records", defArgs s_read_records, defBody s_read_records, defScope s_read_records, [], []⟩,
  ⟨("Line", some "__init__"), "__init__", "Line.__init__", defArgs s_Line_init, defBody s_Line_init, defScope s_Line_init, [], []⟩,
  ⟨("Line", some "ended"), "ended", "Line.ended", defArgs s_Line_ended, defBody s_Line_ended, defScope s_Line_ended, [], []⟩,
  ⟨("Line", some "take_whole"), "take_whole", "Line.take_whole", defArgs s_Line_take_whole, defBody s_Line_take_whole, defScope s_Line_take_whole, [], []⟩,
  ⟨("Line", some "take_row"), "take_row", "Line.take_row", defArgs s_Line_take_row, defBody s_Line_take_row, defScope s_Line_take_row, [], []⟩,
  ⟨("Holder", some "__init__"), "__init__", "Holder.__init__", defArgs s_Holder_init, defBody s_Holder_init, defScope s_Holder_init, [], []⟩,
  ⟨("Holder", some "hold"), "hold", "Holder.hold", defArgs s_Holder_hold, defBody s_Holder_hold, defScope s_Holder_hold, [], []⟩,
  ⟨("Holder", some "all_records"), "all_records", "Holder.all_records", defArgs s_Holder_all_records, defBody s_Holder_all_records, defScope s_Holder_all_records, [], []⟩,
  ⟨("Holder", some "record_at"), "record_at", "Holder.record_at", defArgs s_Holder_record_at, defBody s_Holder_record_at, defScope s_Holder_record_at, [], []⟩,
  ⟨("Holder", some "leaves_of"), "leaves_of", "Holder.leaves_of", defArgs s_Holder_leaves_of, defBody s_Holder_leaves_of, defScope s_Holder_leaves_of, [], []⟩,
  ⟨("Holder", some "numbered_record_at"), "numbered_record_at", "Holder.numbered_record_at", defArgs s_Holder_numbered_record_at, defBody s_Holder_numbered_record_at, defScope s_Holder_numbered_record_at, [], []⟩,
  ⟨("bytes_of", none), "bytes_of", "bytes_of", defArgs s_bytes_of, defBody s_bytes_of, defScope s_bytes_of, [], []⟩,
  ⟨("load", none), "load", "load", defArgs s_load, defBody s_load, defScope s_load, [], []⟩,
  ⟨("shown", none), "shown", "shown", defArgs s_shown, defBody s_shown, defScope s_shown, [], []⟩,
  ⟨("tell_leaves", none), "tell_leaves", "tell_leaves", defArgs s_tell_leaves, defBody s_tell_leaves, defScope s_tell_leaves, [], []⟩,
  ⟨("tell_leaf", none), "tell_leaf", "tell_leaf", defArgs s_tell_leaf, defBody s_tell_leaf, defScope s_tell_leaf, [], []⟩,
  ⟨("tell_codes", none), "tell_codes", "tell_codes", defArgs s_tell_codes, defBody s_tell_codes, defScope s_tell_codes, [], []⟩,
  ⟨("tell_value", none), "tell_value", "tell_value", defArgs s_tell_value, defBody s_tell_value, defScope s_tell_value, [], []⟩,
  ⟨("tell_count", none), "tell_count", "tell_count", defArgs s_tell_count, defBody s_tell_count, defScope s_tell_count, [], []⟩,
  ⟨("tell_nth", none), "tell_nth", "tell_nth", defArgs s_tell_nth, defBody s_tell_nth, defScope s_tell_nth, [], []⟩,
  ⟨("tell_index", none), "tell_index", "tell_index", defArgs s_tell_index, defBody s_tell_index, defScope s_tell_index, [], []⟩,
  ⟨("answer_of", none), "answer_of", "answer_of", defArgs s_answer_of, defBody s_answer_of, defScope s_answer_of, [], []⟩,
  ⟨("answers", none), "answers", "answers", defArgs s_answers, defBody s_answers, defScope s_answers, [], []⟩]
def hFn : List He.DefD := hFn0 ++ hFn1 ++ hFn2
def exl0 : List (PySem.W.Frag → Bool) := [fun K => tupB K (He.ga K "WORDS") [.str "record", .str "from", .str "to", .str "at", .str "maybe", .str "many", .str "one", .str "hot", .str "layout", .str "size", .str "of"],
  fun K => dictB K (He.ga K "SIGNS") [(123, .str "{"), (125, .str "}"), (44, .str ","), (59, .str ";"), (58, .str ":"), (45, .str "-"), (46, .str ".")],
  fun K => tupB K (He.ga K "BLANKS") [.int 32, .int 9, .int 10],
  fun K => tupB K (He.ga K "ALIGNMENTS") [.int 1, .int 2, .int 4, .int 8, .int 16, .int 32],
  fun K => errB K (He.ga K "Fault"),
  fun K => errB K (He.ga K "Refusal"),
  fun K => errB K (He.ga K "NoRecords"),
  fun K => errB K (He.ga K "NoSuchRecord"),
  fun K => errB K (He.ga K "NoSuchLeafOrValue"),
  fun K => errB K (He.ga K "NoValue"),
  fun K => errB K (He.ga K "TooManyValues"),
  fun K => errB K (He.ga K "UnknownCall"),
  fun K => biniB K (He.ga K "Fault"),
  fun K => biniB K (He.ga K "Refusal"),
  fun K => biniB K (He.ga K "NoRecords"),
  fun K => biniB K (He.ga K "NoSuchRecord"),
  fun K => biniB K (He.ga K "NoSuchLeafOrValue"),
  fun K => biniB K (He.ga K "NoValue"),
  fun K => biniB K (He.ga K "TooManyValues"),
  fun K => biniB K (He.ga K "UnknownCall")]
def exl : List (PySem.W.Frag → Bool) := exl0
def ex (K : PySem.W.Frag) : Bool := exl.all fun f => f K
end Lv
set_option Elab.async false
set_option linter.all false
set_option maxRecDepth 100000
set_option maxHeartbeats 0
namespace Lv
open PySem PySem.Spec PyProof.Rows L2
def loose0 : List PySem.Str := ["TEXT_TOO_LONG", "NO_TOKEN", "NOT_ALLOWED", "TOO_MANY", "TOLD_TWICE", "NOT_TOLD_BEFORE", "OUT_OF_BOUNDS", "TOO_MANY_LEAVES", "FORM_TOO_LONG", "Fault", "Refusal", "NoRecords", "NoSuchRecord", "NoSuchLeafOrValue", "NoValue", "TooManyValues", "UnknownCall", "is_there", "codes_of", "value_of", "width_for", "count_row", "tell_row", "number_row", "NUMBER", "MAYBE_TAG", "ONE_TAG", "Leaf", "Number", "Maybe"]
def loose1 : List PySem.Str := ["Many", "Alternative", "One", "Named", "Field", "Record", "count_leaves", "laid_out", "one_form", "WORDS", "SIGNS", "BLANKS", "REMARK", "LINE_END", "SMALL_LETTERS", "LARGE_LETTERS", "DIGITS", "SMALL_A", "LARGE_A", "ZERO", "LONGEST_NAME", "GREATEST_NUMBER", "Token", "is_digit", "is_letter", "sign_of", "behind_remark", "behind_blanks", "behind_word", "behind_digits"]
def loose2 : List PySem.Str := ["behind_token", "word_token", "number_token", "token_of", "tokens_of", "MOST_BYTES", "MOST_RECORDS", "MOST_LEAVES", "MOST_ALTERNATIVES", "MOST_TIMES", "DEEPEST", "HOTTEST", "FARTHEST", "ALIGNMENTS", "Reader", "read_value", "read_alignment", "read_number", "read_one", "read_named", "read_shape", "read_field", "read_fields", "read_record", "read_records", "LOAD", "SHOWN", "LEAVES", "LEAF", "CODES"]
def loose3 : List PySem.Str := ["VALUE", "COUNT", "NTH", "INDEX", "MOST_VALUES", "Line", "Holder", "bytes_of", "load", "shown", "tell_leaves", "tell_leaf", "tell_codes", "tell_value", "tell_count", "tell_nth", "tell_index", "answer_of"]

def loose : List PySem.Str := loose0 ++ loose1 ++ loose2 ++ loose3
/-- where the written part lies -/
def asL : List Addr := [2, 3, 31, 51, 71, 90, 109, 128, 147, 166, 174, 181, 188, 195, 202, 209, 216, 252, 315, 378, 448, 469, 524, 587, 615, 653, 662, 669, 674, 675,
  676, 677, 694, 705, 712, 719, 726, 733, 740, 747, 754, 759, 766, 773, 780, 781, 833, 844, 851, 858, 865, 872, 879, 886, 893, 900, 907, 945, 1001, 1010,
  1015, 1022, 1027, 1034, 1041, 1048, 1055, 1062, 1069, 1076, 1083, 30, 50, 70, 89, 108, 127, 146, 165, 173, 180, 187, 194, 201, 208, 215, 251, 314, 377, 447,
  468, 523, 586, 614, 652, 661, 668, 673, 693, 704, 711, 718, 725, 732, 739, 746, 753, 758, 765, 772, 779, 832, 843, 850, 857, 864, 871, 878, 885, 892,
  899, 906, 944, 1000, 1009, 1014, 1021, 1026, 1033, 1040, 1047, 1054, 1061, 1068, 1075, 1082, 28, 48, 68, 87, 106, 125, 144, 163, 230, 237, 244, 249, 270, 277,
  284, 291, 298, 305, 312, 333, 340, 347, 354, 361, 368, 375, 396, 403, 410, 417, 424, 431, 438, 445, 466, 487, 492, 497, 504, 509, 516, 521, 542, 549,
  556, 563, 570, 577, 584, 605, 612, 631, 636, 643, 650, 691, 795, 802, 809, 816, 823, 830, 921, 928, 935, 942, 963, 970, 977, 984, 991, 998, 27, 47,
  67, 86, 105, 124, 143, 162, 229, 236, 243, 248, 269, 276, 283, 290, 297, 304, 311, 332, 339, 346, 353, 360, 367, 374, 395, 402, 409, 416, 423, 430,
  437, 444, 465, 486, 491, 496, 503, 508, 515, 520, 541, 548, 555, 562, 569, 576, 583, 604, 611, 630, 635, 642, 649, 690, 794, 801, 808, 815, 822, 829,
  920, 927, 934, 941, 962, 969, 976, 983, 990, 997]
abbrev hkE : PySem.W.Hook := hookE asL hFa hFn ex
def obE (s : PySem.W.SharedT) : Bool × He.AlD := (ex (He.frG (HandSHeadRun.getT s) asL), He.obsD hFa hFn (He.frG (HandSHeadRun.getT s) asL))
theorem obE_eq (s : PySem.W.SharedT) : obE s = hkE.obs s.abs := by
  have e : HandSHeadRun.getT s = s.abs.heap.get? := funext (HandSHeadRun.getT_eq s)
  unfold obE
  rw [e]
  rfl
end Lv
set_option Elab.async false
set_option linter.all false
set_option maxRecDepth 100000
set_option maxHeartbeats 0
namespace Lv
open PySem PySem.Spec PyProof.Rows L2
/-- the top's run -/
noncomputable abbrev endR (b : Bool) (w : World) (os : OsState) : Option PySem.W.SharedT := HandSHeadRun.endF (HandSHeadRun.stepQ (HandSHeadRun.denQ HandSHeadRun.tabQ) R.prog (w.withFollow "special-get-raises" b)) 20000 R.prog (w.withFollow "special-get-raises" b) os
abbrev kR (s : PySem.W.SharedT) : PySem.W.Frag := He.frG (HandSHeadRun.getT s) asL
abbrev LooksR (b : Bool) : Prop := ∀ (w : World) (os : OsState), (endR b w os).map (fun s => (HandSHeadRun.looksF R.prog (PySem.W.boot_heap (w.withFollow "special-get-raises" b).params) s.abs, HandSHeadRun.seenQ (PySem.W.view R.prog [115]) loose (importedModules R.prog.main.body) (fun s => PySem.W.xlAt (PySem.W.view R.prog [115]) [] s && PySem.W.recOk [] s) s.abs)) = some (true, PySem.W.openGood (PySem.W.view R.prog [115]) loose)
abbrev FactsR (b : Bool) : Prop := ∀ (w : World) (os : OsState), (endR b w os).map (fun s => ex (kR s) && hFa.all fun f => f.ok (kR s)) = some true
abbrev DefsR (b : Bool) : Prop := ∀ (w : World) (os : OsState), (endR b w os).map (fun s => hFn.all fun d => d.ok (kR s)) = some true
abbrev TextsR (b : Bool) : Prop := ∀ (w : World) (os : OsState), (endR b w os).map (fun s => hFn.map fun d => He.fnW (kR s) d.at_) = some (hFn.map He.DefD.val)
theorem run_of {b : Bool} (h1 : LooksR b) (h2 : FactsR b) (h3 : DefsR b) (h4 : TextsR b) (w : World) : HandSHeadRun.RunEqS R (PySem.W.view R.prog [115]) hkE obE 20000 loose (w.withFollow "special-get-raises" b) := by
  intro os
  have a1 := h1 w os
  have a2 := h2 w os
  have a3 := h3 w os
  have a4 := h4 w os
  show (endR b w os).map _ = _
  generalize endR b w os = o at *
  cases o with
  | none => cases a1
  | some s =>
    rw [Option.map_some] at a1 a2 a3 a4 ⊢
    have b1 := Option.some.inj a1
    have b2 := Bool.and_eq_true_iff.mp (Option.some.inj a2)
    have b3 := Option.some.inj a3
    have b4 := Option.some.inj a4
    have c1 : obE s = (true, He.valD hFn) := by
      show (ex (kR s), ((hFa.all fun f => f.ok (kR s)) && hFn.all fun d => d.ok (kR s), hFn.map fun d => He.fnW (kR s) d.at_)) = (true, (true, hFn.map He.DefD.val))
      rw [b2.1, b2.2, b3, b4]
      rfl
    rw [c1, (Prod.mk.inj b1).1, (Prod.mk.inj b1).2]
    rfl
end Lv
set_option Elab.async false
set_option linter.all false
set_option maxRecDepth 100000
set_option maxHeartbeats 0
namespace Lv
open PySem PySem.Spec PyProof.Rows L2
theorem rLooksF : LooksR false := by
  intro w os
  kernel_rfl
end Lv
set_option Elab.async false
set_option linter.all false
set_option maxRecDepth 100000
set_option maxHeartbeats 0
namespace Lv
open PySem PySem.Spec PyProof.Rows L2
theorem rFactsF : FactsR false := by
  intro w os
  kernel_rfl
end Lv
set_option Elab.async false
set_option linter.all false
set_option maxRecDepth 100000
set_option maxHeartbeats 0
namespace Lv
open PySem PySem.Spec PyProof.Rows L2
theorem rDefsF : DefsR false := by
  intro w os
  kernel_rfl
end Lv
set_option Elab.async false
set_option linter.all false
set_option maxRecDepth 100000
set_option maxHeartbeats 0
namespace Lv
open PySem PySem.Spec PyProof.Rows L2
theorem rTextsF : TextsR false := by
  intro w os
  kernel_rfl
end Lv
set_option Elab.async false
set_option linter.all false
set_option maxRecDepth 100000
set_option maxHeartbeats 0
namespace Lv
open PySem PySem.Spec PyProof.Rows L2
theorem rLooksT : LooksR true := by
  intro w os
  kernel_rfl
end Lv
set_option Elab.async false
set_option linter.all false
set_option maxRecDepth 100000
set_option maxHeartbeats 0
namespace Lv
open PySem PySem.Spec PyProof.Rows L2
theorem rFactsT : FactsR true := by
  intro w os
  kernel_rfl
end Lv
set_option Elab.async false
set_option linter.all false
set_option maxRecDepth 100000
set_option maxHeartbeats 0
namespace Lv
open PySem PySem.Spec PyProof.Rows L2
theorem rDefsT : DefsR true := by
  intro w os
  kernel_rfl
end Lv
set_option Elab.async false
set_option linter.all false
set_option maxRecDepth 100000
set_option maxHeartbeats 0
namespace Lv
open PySem PySem.Spec PyProof.Rows L2
theorem rTextsT : TextsR true := by
  intro w os
  kernel_rfl
end Lv
set_option Elab.async false
set_option linter.all false
set_option maxRecDepth 100000
set_option maxHeartbeats 0
namespace Lv
open PySem PySem.Spec PyProof.Rows L2
theorem run_all (w : World) : HandSHeadRun.RunEqS R (PySem.W.view R.prog [115]) hkE obE 20000 loose w := PySem.W.byRow2 "special-get-raises" (run_of rLooksF rFactsF rDefsF rTextsF) (run_of rLooksT rFactsT rDefsT rTextsT) w
end Lv
set_option Elab.async false
set_option linter.all false
set_option maxRecDepth 100000
set_option maxHeartbeats 4000000
namespace Lv
open PySem PySem.Spec PyProof.Rows L2
/-! ### faults.py -/
section
variable {P : Program} {w : World} {K : PySem.W.Frag} {mg : Str → Option Value} {base : Heap}
def faultF (c p : V) : List (Str × V) := [("place", p), ("code", c)]
def gFault : List V → List (Str × V) := fun vs => faultF (vs.getD 0 .non) (vs.getD 1 .non)
theorem len_ini {names : List Str} {n : Nat} {g : List V → List (Str × V)} {ps : List Str} (h : ps.length = n + 1) : Len (spIni K names n g) ps := fun vs H Q E z => by
  obtain ⟨a, C, ws, rfl, hl, _⟩ := z
  rw [h, List.length_cons, hl]
theorem ok_Fault (T : Txt K mg) : Raiser P w K mg base 1 "Fault" (He.ga K "Fault") 2 gFault := by
  refine ⟨["self", "code", "place"], ["code", "place"], (T.e_Fault.ok T.x_Fault sc_Fault_init (len_ini rfl) fun f cdv A outer s H vs Q E hr h => ?_).1, ?_⟩
  · obtain ⟨a, C, ws, rfl, hl, X, na, ha, q⟩ := h
    match ws, hl with
    | [c, p], _ =>
      refine ⟨_, (pss_cons (ps_errF (pv 0) (pv 1))
  (pss_one (ps_errF (pv 0) (pv 2)))), ?_⟩
      refine ⟨_, rfl, _, rfl, a, C, rfl, X, na _ (by simp), .inl ⟨ha, fun d nd ne => ?_⟩⟩
      refine ⟨_, rfl, _, rfl, a, C, rfl, X, na _ (by simp), .inr ⟨d, _, upd_same, (upd_ne ne).trans upd_same, (by show 1 ≤ 900; decide), ?_⟩⟩
      refine q d _ nd ne ((upd_ne ne.symm).trans upd_same) upd_same fun b h1 h2 => ?_
      rw [upd_ne h2, fstH_far h1 h2]
  · intro f hf
    simp only [List.mem_cons, List.not_mem_nil, or_false] at hf
    rcases hf with rfl | rfl
    · exact T.na_Fault_code
    · exact T.na_Fault_place
def gAnswer : List V → List (Str × V) := fun vs => [("answer", vs.getD 0 .non)]
theorem ok_Refusal_init (T : Txt K mg) : BaseAt P w K mg base 1 "Refusal" ["self", "answer"] (spIni K ["answer"] 1 gAnswer) := by
  refine (T.e_Refusal.ok T.x_Refusal sc_Refusal_init (len_ini rfl) fun f cdv A outer s H vs Q E hr h => ?_).2
  obtain ⟨a, C, ws, rfl, hl, X, na, ha, q⟩ := h
  match ws, hl with
  | [c], _ =>
    refine ⟨_, (pss_one (ps_errF (pv 0) (pv 1))), ?_⟩
    refine ⟨_, rfl, _, rfl, a, C, rfl, X, na _ (by simp), .inl ⟨ha, fun d nd ne => ?_⟩⟩
    refine q d _ nd ne upd_same ((upd_ne ne).trans upd_same) fun b h1 h2 => ?_
    exact fstH_far h1 h2
/-- a refusal's number -/
def gNo (n : Int) : List V → List (Str × V) := fun _ => [("answer", .int n)]
theorem no_body {C0 : Addr} {x qual : Str} {st : Stmt} {n : Int} (D : HasErr K mg x C0 qual st ["self"]) (X : Err K C0) (na : NoAttr K C0 "answer") (S : FnScope ["self"] ["self"] (defScope st))
    (b : Body P w K mg base ["self"] qual st 1 (spIni K ["answer"] 0 (gNo n))) : Raiser P w K mg base 2 x C0 0 (gNo n) := by
  refine ⟨["self"], ["answer"], (D.ok X S (len_ini rfl) b).1, fun f hf => ?_⟩
  rw [List.mem_singleton.mp hf]
  exact na
theorem ok_NoRecords (T : Txt K mg) : Raiser P w K mg base 2 "NoRecords" (He.ga K "NoRecords") 0 (gNo (-1)) := by
  have G_Refusal_init := ok_Refusal_init (P := P) (w := w) (base := base) T
  refine no_body T.e_NoRecords T.x_NoRecords T.na_NoRecords_answer sc_NoRecords_init fun f cdv A outer s H vs Q E hr h => ?_
  obtain ⟨a, C, ws, rfl, hl, X, na, ha, q⟩ := h
  match ws, hl with
  | [], _ =>
    refine ⟨_, (pss_one (ps_expr (pe_base G_Refusal_init hr (by first | decide | omega) (pa_cons (pv 0) (pa_cons (pe_un un_neg pe_int) pa_nil))))), ?_⟩
    exact ⟨_, rfl, _, rfl, a, C, [.int (-1)], rfl, rfl, X, na, ha, fun d H' nd ne ea ed rest => q d H' nd ne ea ed rest⟩
theorem ok_NoSuchRecord (T : Txt K mg) : Raiser P w K mg base 2 "NoSuchRecord" (He.ga K "NoSuchRecord") 0 (gNo (-2)) := by
  have G_Refusal_init := ok_Refusal_init (P := P) (w := w) (base := base) T
  refine no_body T.e_NoSuchRecord T.x_NoSuchRecord T.na_NoSuchRecord_answer sc_NoSuchRecord_init fun f cdv A outer s H vs Q E hr h => ?_
  obtain ⟨a, C, ws, rfl, hl, X, na, ha, q⟩ := h
  match ws, hl with
  | [], _ =>
    refine ⟨_, (pss_one (ps_expr (pe_base G_Refusal_init hr (by first | decide | omega) (pa_cons (pv 0) (pa_cons (pe_un un_neg pe_int) pa_nil))))), ?_⟩
    exact ⟨_, rfl, _, rfl, a, C, [.int (-2)], rfl, rfl, X, na, ha, fun d H' nd ne ea ed rest => q d H' nd ne ea ed rest⟩
theorem ok_NoSuchLeafOrValue (T : Txt K mg) : Raiser P w K mg base 2 "NoSuchLeafOrValue" (He.ga K "NoSuchLeafOrValue") 0 (gNo (-3)) := by
  have G_Refusal_init := ok_Refusal_init (P := P) (w := w) (base := base) T
  refine no_body T.e_NoSuchLeafOrValue T.x_NoSuchLeafOrValue T.na_NoSuchLeafOrValue_answer sc_NoSuchLeafOrValue_init fun f cdv A outer s H vs Q E hr h => ?_
  obtain ⟨a, C, ws, rfl, hl, X, na, ha, q⟩ := h
  match ws, hl with
  | [], _ =>
    refine ⟨_, (pss_one (ps_expr (pe_base G_Refusal_init hr (by first | decide | omega) (pa_cons (pv 0) (pa_cons (pe_un un_neg pe_int) pa_nil))))), ?_⟩
    exact ⟨_, rfl, _, rfl, a, C, [.int (-3)], rfl, rfl, X, na, ha, fun d H' nd ne ea ed rest => q d H' nd ne ea ed rest⟩
theorem ok_NoValue (T : Txt K mg) : Raiser P w K mg base 2 "NoValue" (He.ga K "NoValue") 0 (gNo (-4)) := by
  have G_Refusal_init := ok_Refusal_init (P := P) (w := w) (base := base) T
  refine no_body T.e_NoValue T.x_NoValue T.na_NoValue_answer sc_NoValue_init fun f cdv A outer s H vs Q E hr h => ?_
  obtain ⟨a, C, ws, rfl, hl, X, na, ha, q⟩ := h
  match ws, hl with
  | [], _ =>
    refine ⟨_, (pss_one (ps_expr (pe_base G_Refusal_init hr (by first | decide | omega) (pa_cons (pv 0) (pa_cons (pe_un un_neg pe_int) pa_nil))))), ?_⟩
    exact ⟨_, rfl, _, rfl, a, C, [.int (-4)], rfl, rfl, X, na, ha, fun d H' nd ne ea ed rest => q d H' nd ne ea ed rest⟩
theorem ok_TooManyValues (T : Txt K mg) : Raiser P w K mg base 2 "TooManyValues" (He.ga K "TooManyValues") 0 (gNo (-6)) := by
  have G_Refusal_init := ok_Refusal_init (P := P) (w := w) (base := base) T
  refine no_body T.e_TooManyValues T.x_TooManyValues T.na_TooManyValues_answer sc_TooManyValues_init fun f cdv A outer s H vs Q E hr h => ?_
  obtain ⟨a, C, ws, rfl, hl, X, na, ha, q⟩ := h
  match ws, hl with
  | [], _ =>
    refine ⟨_, (pss_one (ps_expr (pe_base G_Refusal_init hr (by first | decide | omega) (pa_cons (pv 0) (pa_cons (pe_un un_neg pe_int) pa_nil))))), ?_⟩
    exact ⟨_, rfl, _, rfl, a, C, [.int (-6)], rfl, rfl, X, na, ha, fun d H' nd ne ea ed rest => q d H' nd ne ea ed rest⟩
end
end Lv
/-! Texts cut into tokens, by places, against the specification's own way. -/
namespace Lv
open ValayBase (Bytes PTok Tok Toks Fault)
/-! ### texts cut into tokens: the mathematics -/
def isDigitB (b : Int) : Bool := decide (48 ≤ b) && decide (b < 58)
def isLetterB (b : Int) : Bool := (decide (97 ≤ b) && decide (b < 123)) || (decide (65 ≤ b) && decide (b < 91))
def isWordB (b : Int) : Bool := isLetterB b || isDigitB b
def scan (p : Int → Bool) (ns : List Int) (j : Nat) : Nat := j + ((ns.drop j).takeWhile p).length
theorem scan_end {p : Int → Bool} {ns : List Int} {j : Nat} (h : ns.length ≤ j) : scan p ns j = j := by
  unfold scan
  rw [List.drop_eq_nil_of_le h]
  rfl
theorem drop_at {ns : List Int} {j : Nat} {x : Int} (h : ns[j]? = some x) : ns.drop j = x :: ns.drop (j + 1) := by
  obtain ⟨h1, h2⟩ := List.getElem?_eq_some_iff.mp h
  rw [List.drop_eq_getElem_cons h1, h2]
theorem scan_step {p : Int → Bool} {ns : List Int} {j : Nat} {x : Int} (h : ns[j]? = some x) (hp : p x = true) : scan p ns (j + 1) = scan p ns j := by
  unfold scan
  rw [drop_at h, List.takeWhile_cons_of_pos hp, List.length_cons]
  omega
theorem scan_stop {p : Int → Bool} {ns : List Int} {j : Nat} {x : Int} (h : ns[j]? = some x) (hp : p x = false) : scan p ns j = j := by
  unfold scan
  rw [drop_at h, List.takeWhile_cons_of_neg (by rw [hp]; decide)]
  rfl
theorem scan_le {p : Int → Bool} {ns : List Int} {j : Nat} (h : j ≤ ns.length) : scan p ns j ≤ ns.length := by
  unfold scan
  have := (List.takeWhile_prefix (p := p) (l := ns.drop j)).length_le
  rw [List.length_drop] at this
  omega
theorem get_at {ns : List Int} {j : Nat} (h : j < ns.length) : ∃ x, ns[j]? = some x := ⟨ns[j], by simp [h]⟩
def notEndB (b : Int) : Bool := !decide (b = 10)
/-! ### blanks and remarks -/
def blankB (b : Int) : Bool := decide (b = 32) || (decide (b = 9) || decide (b = 10))
/-- the first place from j on that is in no blank and no remark; so many looks -/
def skip (ns : List Int) : Nat → Nat → Nat
  | 0, j => j
  | n + 1, j => match ns[j]? with
    | none => j
    | some x => if blankB x = true then skip ns n (j + 1) else if x = 35 then skip ns n (scan notEndB ns j) else j
theorem scan_ge {p : Int → Bool} {ns : List Int} {j : Nat} : j ≤ scan p ns j := Nat.le_add_right _ _
theorem scan_gt {p : Int → Bool} {ns : List Int} {j : Nat} {x : Int} (h : ns[j]? = some x) (hp : p x = true) : j < scan p ns j := by
  rw [← scan_step h hp]
  exact scan_ge
theorem skip_enough {ns : List Int} : ∀ (n m j : Nat), ns.length < j + n → ns.length < j + m → skip ns n j = skip ns m j
  | 0, 0, _, _, _ => rfl
  | 0, m + 1, j, h, _ => by
    unfold skip
    rw [List.getElem?_eq_none (by omega)]
  | n + 1, 0, j, _, h => by
    unfold skip
    rw [List.getElem?_eq_none (by omega)]
  | n + 1, m + 1, j, h1, h2 => by
    unfold skip
    cases e : ns[j]? with
    | none => rfl
    | some x =>
      dsimp only
      by_cases c : blankB x = true
      · rw [if_pos c, if_pos c]
        exact skip_enough n m (j + 1) (by omega) (by omega)
      · rw [if_neg c, if_neg c]
        by_cases c2 : x = 35
        · rw [if_pos c2, if_pos c2]
          have := scan_gt (p := notEndB) e (by rw [c2]; rfl)
          exact skip_enough n m _ (by omega) (by omega)
        · rw [if_neg c2, if_neg c2]
/-- .. -/
def skipTo (ns : List Int) (j : Nat) : Nat := skip ns (ns.length + 1) j
theorem skipTo_end {ns : List Int} {j : Nat} (h : ns.length ≤ j) : skipTo ns j = j := by
  unfold skipTo skip
  rw [List.getElem?_eq_none h]
theorem skipTo_blank {ns : List Int} {j : Nat} {x : Int} (h : ns[j]? = some x) (c : blankB x = true) : skipTo ns (j + 1) = skipTo ns j := by
  have hj := (List.getElem?_eq_some_iff.mp h).1
  have e : skipTo ns j = skip ns ns.length (j + 1) := by
    unfold skipTo
    rw [skip, h]
    dsimp only
    rw [if_pos c]
  rw [e]
  exact skip_enough _ _ _ (by omega) (by omega)
theorem skipTo_remark {ns : List Int} {j : Nat} (h : ns[j]? = some 35) : skipTo ns (scan notEndB ns j) = skipTo ns j := by
  have hj := (List.getElem?_eq_some_iff.mp h).1
  have e : skipTo ns j = skip ns ns.length (scan notEndB ns j) := by
    unfold skipTo
    rw [skip, h]
    dsimp only
    rw [if_neg (by decide), if_pos rfl]
  have := scan_gt (p := notEndB) h rfl
  rw [e]
  exact skip_enough _ _ _ (by omega) (by omega)
theorem skipTo_stop {ns : List Int} {j : Nat} {x : Int} (h : ns[j]? = some x) (c : blankB x = false) (c2 : x ≠ 35) : skipTo ns j = j := by
  unfold skipTo
  rw [skip, h]
  dsimp only
  rw [if_neg (by rw [c]; decide), if_neg c2]

/-! ### numbers that are bytes -/
def toB (n : Int) : UInt8 := UInt8.ofNat n.toNat
def Byte (n : Int) : Prop := 0 ≤ n ∧ n ≤ 255
theorem toB_nat {n : Int} (h : Byte n) : (toB n).toNat = n.toNat := by
  unfold toB
  have := h.1
  have := h.2
  simp [UInt8.toNat_ofNat]
  omega
theorem digit_is {n : Int} (h : Byte n) : ValayBase.isDigit (toB n) = isDigitB n := by
  unfold ValayBase.isDigit isDigitB
  rw [toB_nat h, Bool.eq_iff_iff]
  have := h.1
  simp
  omega
theorem letter_is {n : Int} (h : Byte n) : ValayBase.isLetter (toB n) = isLetterB n := by
  unfold ValayBase.isLetter isLetterB
  rw [toB_nat h, Bool.eq_iff_iff]
  have := h.1
  simp
  omega
theorem toB_eq {n : Int} (h : Byte n) (k : Nat) (hk : k < 256) : (toB n == UInt8.ofNat k) = decide (n = (k : Int)) := by
  rw [Bool.eq_iff_iff, beq_iff_eq, decide_eq_true_eq, ← UInt8.toNat_inj, toB_nat h]
  have := h.1
  simp [UInt8.toNat_ofNat, Nat.mod_eq_of_lt hk]
  omega
theorem blank_is {n : Int} (h : Byte n) : ValayBase.isBlank (toB n) = blankB n := by
  unfold ValayBase.isBlank blankB
  have a := toB_eq h 32 (by decide)
  have b := toB_eq h 9 (by decide)
  have c := toB_eq h 10 (by decide)
  exact congr (congrArg or a) (congr (congrArg or b) c)
theorem remark_is {n : Int} (h : Byte n) : (toB n == 35) = decide (n = 35) := toB_eq h 35 (by decide)
theorem end_is {n : Int} (h : Byte n) : (toB n != 10) = notEndB n := by
  unfold notEndB
  have := toB_eq h 10 (by decide)
  exact congrArg not this
def Bytes_ (ns : List Int) : Prop := ∀ n ∈ ns, Byte n
theorem Bytes_.drop {ns : List Int} (h : Bytes_ ns) (j : Nat) : Bytes_ (ns.drop j) := fun n hn => h n (List.mem_of_mem_drop hn)
theorem tw_is {p : UInt8 → Bool} {q : Int → Bool} : ∀ {l : List Int}, (∀ n ∈ l, p (toB n) = q n) → (l.map toB).takeWhile p = (l.takeWhile q).map toB
  | [], _ => rfl
  | x :: l, h => by
    have hx := h x (List.mem_cons_self ..)
    rw [List.map_cons, List.takeWhile_cons, List.takeWhile_cons, hx]
    cases q x with
    | true =>
      simp only [if_true]
      rw [tw_is fun n hn => h n (List.mem_cons_of_mem _ hn), List.map_cons]
    | false => simp
theorem dw_is {p : UInt8 → Bool} {q : Int → Bool} : ∀ {l : List Int}, (∀ n ∈ l, p (toB n) = q n) → (l.map toB).dropWhile p = (l.dropWhile q).map toB
  | [], _ => rfl
  | x :: l, h => by
    have hx := h x (List.mem_cons_self ..)
    rw [List.map_cons, List.dropWhile_cons, List.dropWhile_cons, hx]
    cases q x with
    | true =>
      simp only [if_true]
      exact dw_is fun n hn => h n (List.mem_cons_of_mem _ hn)
    | false => simp
theorem dropWhile_eq (q : Int → Bool) : ∀ l : List Int, l.dropWhile q = l.drop (l.takeWhile q).length
  | [] => rfl
  | x :: l => by
    rw [List.dropWhile_cons, List.takeWhile_cons]
    cases q x with
    | true => simp [dropWhile_eq q l]
    | false => simp
theorem take_tw (q : Int → Bool) : ∀ l : List Int, l.take (l.takeWhile q).length = l.takeWhile q
  | [] => rfl
  | x :: l => by
    rw [List.takeWhile_cons]
    cases q x with
    | true => simp [take_tw q l]
    | false => simp
/-! ### a token -/
def behindTok (ns : List Int) (j : Nat) : Nat := match ns[j]? with
  | some x => if isLetterB x = true then scan isWordB ns j else if isDigitB x = true then scan isDigitB ns j else j + 1
  | none => j + 1
def partOf (ns : List Int) (j : Nat) : List Int := (ns.drop j).take (behindTok ns j - j)
def decI (l : List Int) : Int := l.foldl (fun n b => n * 10 + b - 48) 0
def signs : List Int := [123, 125, 44, 59, 58, 45, 46]
def tokenOf (part : List Int) (place : Nat) : Except Fault PTok := match part with
  | [] => .error ⟨2, place⟩
  | x :: r => if isLetterB x = true then (if 16 < (x :: r).length then .error ⟨2, place⟩ else .ok ⟨place, .name ((x :: r).map toB)⟩)
    else if isDigitB x = true then (if (1 < (x :: r).length ∧ x = 48) ∨ 1000000000 < decI (x :: r) then .error ⟨2, place⟩ else .ok ⟨place, .num (decI (x :: r)).toNat⟩)
    else if signs.contains x = true then .ok ⟨place, .sign x.toNat⟩ else .error ⟨2, place⟩
def AllDigits (l : List Int) : Prop := ∀ x ∈ l, isDigitB x = true
theorem dig {x : Int} (h : isDigitB x = true) : 48 ≤ x ∧ x < 58 := by
  unfold isDigitB at h
  simpa using h
theorem dec_from : ∀ (l : List Int) (n : Nat), AllDigits l → l.foldl (fun n b => n * 10 + b - 48) (n : Int) = ((l.map toB).foldl (fun n b => 10 * n + (b.toNat - 48)) n : Nat)
  | [], _, _ => rfl
  | x :: l, n, h => by
    have hx := dig (h x (List.mem_cons_self ..))
    have hb : (toB x).toNat = x.toNat := toB_nat ⟨by omega, by omega⟩
    rw [List.map_cons, List.foldl_cons, List.foldl_cons, hb, ← dec_from l _ fun y hy => h y (List.mem_cons_of_mem _ hy)]
    congr 1
    omega
theorem dec_is {l : List Int} (h : AllDigits l) : decI l = (ValayBase.decimal (l.map toB) : Nat) := dec_from l 0 h
theorem dec_grow : ∀ (l : List Int) (n : Int), AllDigits l → 0 ≤ n → n * 10 ^ l.length ≤ l.foldl (fun n b => n * 10 + b - 48) n
  | [], n, _, _ => by simp
  | x :: l, n, h, hn => by
    have hx := dig (h x (List.mem_cons_self ..))
    have ih := dec_grow l (n * 10 + x - 48) (fun y hy => h y (List.mem_cons_of_mem _ hy)) (by omega)
    rw [List.foldl_cons, List.length_cons]
    refine Int.le_trans ?_ ih
    have : n * 10 ^ (l.length + 1) = (n * 10) * 10 ^ l.length := by rw [Int.pow_succ, Int.mul_comm (10 ^ l.length) 10, ← Int.mul_assoc]
    rw [this]
    exact Int.mul_le_mul_of_nonneg_right (by omega) (Int.pow_nonneg (by omega))
/-- ten digits are enough -/
theorem dec_long {x : Int} {l : List Int} (h : AllDigits (x :: l)) (hx : x ≠ 48) (hl : 10 ≤ l.length) : 1000000000 < decI (x :: l) := by
  have hd := dig (h x (List.mem_cons_self ..))
  have g := dec_grow l (0 * 10 + x - 48) (fun y hy => h y (List.mem_cons_of_mem _ hy)) (by omega)
  have p : (10 : Int) ^ 10 ≤ 10 ^ l.length := by
    have z := Nat.pow_le_pow_right (n := 10) (by decide) hl
    exact_mod_cast z
  unfold decI
  rw [List.foldl_cons]
  have q : (1 : Int) * 10 ^ l.length ≤ (0 * 10 + x - 48) * 10 ^ l.length := Int.mul_le_mul_of_nonneg_right (by omega) (Int.pow_nonneg (by omega))
  have r : (10 : Int) ^ 10 = 10000000000 := by decide
  omega
theorem tw_all (q : Int → Bool) : ∀ (l : List Int), ∀ x ∈ l.takeWhile q, q x = true
  | [], x, h => by cases h
  | y :: l, x, h => by
    rw [List.takeWhile_cons] at h
    cases e : q y with
    | true =>
      rw [e] at h
      simp only [if_true, List.mem_cons] at h
      rcases h with rfl | h
      · exact e
      · exact tw_all q l x h
    | false =>
      rw [e] at h
      simp at h
theorem tok_is {ns : List Int} {j : Nat} {x : Int} (hB : Bytes_ ns) (hx : ns[j]? = some x) : match ValayBase.token ((ns.drop j).map toB) with
    | none => tokenOf (partOf ns j) j = .error ⟨2, j⟩
    | some t => tokenOf (partOf ns j) j = .ok ⟨j, t.1⟩ ∧ j + t.2 = behindTok ns j := by
  have hd := drop_at hx
  have hbx : Byte x := hB x (List.mem_of_getElem? hx)
  have hBd := hB.drop j
  unfold partOf behindTok
  rw [hx]
  dsimp only
  rw [hd, List.map_cons]
  unfold ValayBase.token
  dsimp only
  rw [letter_is hbx, digit_is hbx]
  by_cases c1 : isLetterB x = true
  · have cw : isWordB x = true := by unfold isWordB; rw [c1]; rfl
    have e : (fun c => ValayBase.isLetter c || ValayBase.isDigit c) = fun c => ValayBase.isLetter c || ValayBase.isDigit c := rfl
    have w : ((x :: ns.drop (j + 1)).map toB).takeWhile (fun c => ValayBase.isLetter c || ValayBase.isDigit c) = ((x :: ns.drop (j + 1)).takeWhile isWordB).map toB := tw_is fun n hn => by
      have hb : Byte n := hBd n (by rw [hd]; exact hn)
      rw [letter_is hb, digit_is hb]
      rfl
    rw [List.map_cons] at w
    have tp : (x :: ns.drop (j + 1)).takeWhile isWordB = x :: (ns.drop (j + 1)).takeWhile isWordB := List.takeWhile_cons_of_pos cw
    have sc : scan isWordB ns j - j = ((x :: ns.drop (j + 1)).takeWhile isWordB).length := by
      unfold scan
      rw [hd]
      omega
    rw [if_pos c1, if_pos c1, w, sc, take_tw, tp]
    unfold ValayBase.NAME tokenOf
    dsimp only
    rw [if_pos c1, List.length_map]
    by_cases c : 16 < (x :: (ns.drop (j + 1)).takeWhile isWordB).length
    · rw [if_pos c, if_pos c]
    · rw [if_neg c, if_neg c]
      refine ⟨rfl, ?_⟩
      dsimp only
      rw [← tp, ← sc]
      have := scan_ge (p := isWordB) (ns := ns) (j := j)
      omega
  · rw [if_neg c1, if_neg c1]
    by_cases c2 : isDigitB x = true
    · have w : ((x :: ns.drop (j + 1)).map toB).takeWhile ValayBase.isDigit = ((x :: ns.drop (j + 1)).takeWhile isDigitB).map toB := tw_is fun n hn => digit_is (hBd n (by rw [hd]; exact hn))
      rw [List.map_cons] at w
      have tp : (x :: ns.drop (j + 1)).takeWhile isDigitB = x :: (ns.drop (j + 1)).takeWhile isDigitB := List.takeWhile_cons_of_pos c2
      have sc : scan isDigitB ns j - j = ((x :: ns.drop (j + 1)).takeWhile isDigitB).length := by
        unfold scan
        rw [hd]
        omega
      have ad : AllDigits ((x :: ns.drop (j + 1)).takeWhile isDigitB) := tw_all isDigitB _
      rw [if_pos c2, if_pos c2, w, sc, take_tw]
      rw [tp] at ad ⊢
      generalize hg : (ns.drop (j + 1)).takeWhile isDigitB = r at *
      unfold tokenOf ValayBase.numberOf ValayBase.NUMBER
      dsimp only
      rw [if_neg c1, if_pos c2, ← Int.toNat_natCast (ValayBase.decimal ((x :: r).map toB)), ← dec_is ad, List.length_map]
      have hh : ((x :: r).map toB).head? = some 48 ↔ x = 48 := by
        rw [List.map_cons, List.head?_cons, Option.some.injEq]
        have := toB_eq hbx 48 (by decide)
        constructor
        · intro z
          have z' : (toB x == UInt8.ofNat 48) = true := beq_iff_eq.mpr z
          rw [this] at z'
          simpa using z'
        · intro z
          rw [z]
          rfl
      have hpos : 0 ≤ decI (x :: r) := by
        rw [dec_is ad]
        omega
      by_cases c : (1 < (x :: r).length ∧ x = 48) ∨ 1000000000 < decI (x :: r)
      · rw [if_pos c, if_pos]
        · rfl
        · rcases c with c | c
          · exact .inr (.inr (.inl ⟨c.1, hh.mpr c.2⟩))
          · exact .inr (.inr (.inr (by omega)))
      · rw [if_neg c, if_neg]
        · refine ⟨rfl, ?_⟩
          dsimp only
          rw [← tp, ← sc]
          have := scan_ge (p := isDigitB) (ns := ns) (j := j)
          omega
        · rintro (z | z | z | z)
          · simp at z
          · refine c (.inr ?_)
            by_cases hx48 : x = 48
            · exact absurd (.inl ⟨by omega, hx48⟩) c
            · exact dec_long ad hx48 (by rw [List.length_cons] at z; omega)
          · exact c (.inl ⟨z.1, hh.mp z.2⟩)
          · exact c (.inr (by omega))
    · rw [if_neg c2, if_neg c2]
      have e1 : j + 1 - j = 1 := by omega
      rw [e1]
      unfold tokenOf
      dsimp only [List.take]
      rw [if_neg c1, if_neg c2]
      have hs : ValayBase.SIGNS.contains (toB x) = signs.contains x := by
        have q := fun k hk => toB_eq hbx k hk
        unfold ValayBase.SIGNS signs
        rw [Bool.eq_iff_iff]
        simp only [List.contains_eq_mem, List.mem_cons, List.not_mem_nil, or_false, decide_eq_true_eq]
        have r : ∀ k : Nat, k < 256 → (toB x = UInt8.ofNat k ↔ x = (k : Int)) := fun k hk => by
          have := q k hk
          rw [Bool.eq_iff_iff, beq_iff_eq, decide_eq_true_eq] at this
          exact this
        have r1 := r 123 (by decide)
        have r2 := r 125 (by decide)
        have r3 := r 44 (by decide)
        have r4 := r 59 (by decide)
        have r5 := r 58 (by decide)
        have r6 := r 45 (by decide)
        have r7 := r 46 (by decide)
        exact or_congr r1 (or_congr r2 (or_congr r3 (or_congr r4 (or_congr r5 (or_congr r6 r7)))))
      rw [hs, toB_nat hbx]
      by_cases c : signs.contains x = true
      · rw [if_pos c, if_pos c]
        exact ⟨rfl, rfl⟩
      · rw [if_neg c, if_neg c]
theorem behind_gt {ns : List Int} {j : Nat} : j < behindTok ns j := by
  unfold behindTok
  split
  · rename_i x hx
    by_cases c1 : isLetterB x = true
    · rw [if_pos c1]
      exact scan_gt hx (by unfold isWordB; rw [c1]; rfl)
    · rw [if_neg c1]
      by_cases c2 : isDigitB x = true
      · rw [if_pos c2]
        exact scan_gt hx c2
      · rw [if_neg c2]
        omega
  · omega
theorem behind_le {ns : List Int} {j : Nat} (h : j < ns.length) : behindTok ns j ≤ ns.length := by
  unfold behindTok
  split
  · split
    · exact scan_le (by omega)
    · split
      · exact scan_le (by omega)
      · omega
  · omega
/-! ### all tokens -/
def lexFrom (ns : List Int) : Nat → Nat → Except Fault Toks
  | 0, _ => .ok [⟨ns.length, .last⟩]
  | n + 1, j => if j < ns.length then (tokenOf (partOf ns j) j).bind fun t => (lexFrom ns n (skipTo ns (behindTok ns j))).map fun l => t :: l else .ok [⟨ns.length, .last⟩]
theorem skip_ge {ns : List Int} : ∀ (n j : Nat), j ≤ skip ns n j
  | 0, j => Nat.le_refl _
  | n + 1, j => by
    unfold skip
    split
    · exact Nat.le_refl _
    · rename_i x hx
      split
      · exact Nat.le_trans (Nat.le_succ _) (skip_ge n (j + 1))
      · split
        · exact Nat.le_trans scan_ge (skip_ge n _)
        · exact Nat.le_refl _
theorem skip_le {ns : List Int} : ∀ (n j : Nat), j ≤ ns.length → skip ns n j ≤ ns.length
  | 0, j, h => h
  | n + 1, j, h => by
    unfold skip
    split
    · exact h
    · rename_i x hx
      have hj := (List.getElem?_eq_some_iff.mp hx).1
      split
      · exact skip_le n (j + 1) hj
      · split
        · exact skip_le n _ (scan_le h)
        · exact h
theorem skipTo_ge {ns : List Int} {j : Nat} : j ≤ skipTo ns j := skip_ge _ _
theorem skipTo_le {ns : List Int} {j : Nat} (h : j ≤ ns.length) : skipTo ns j ≤ ns.length := skip_le _ _ h
theorem lex_is {ns : List Int} (hB : Bytes_ ns) : ∀ (n m j : Nat), j ≤ ns.length → ns.length < j + n → ns.length < skipTo ns j + m → ValayBase.lex n j ((ns.drop j).map toB) = lexFrom ns m (skipTo ns j)
  | 0, m, j, h1, h2, _ => by omega
  | n + 1, m, j, h1, h2, h3 => by
    cases hx : ns[j]? with
    | none =>
      have hj : ns.length ≤ j := by
        rcases Nat.lt_or_ge j ns.length with z | z
        · rw [List.getElem?_eq_getElem z] at hx
          cases hx
        · exact z
      have ej : j = ns.length := by omega
      rw [skipTo_end hj, List.drop_eq_nil_of_le hj, List.map_nil, ValayBase.lex]
      cases m with
      | zero => rw [lexFrom, ej]
      | succ m => rw [lexFrom, if_neg (by omega), ej]
    | some x =>
      have hj := (List.getElem?_eq_some_iff.mp hx).1
      have hbx : Byte x := hB x (List.mem_of_getElem? hx)
      rw [drop_at hx, List.map_cons, ValayBase.lex, blank_is hbx]
      by_cases c1 : blankB x = true
      · rw [if_pos c1, ← skipTo_blank hx c1]
        exact lex_is hB n m (j + 1) (by omega) (by omega) (by rw [skipTo_blank hx c1]; exact h3)
      · rw [if_neg c1, remark_is hbx]
        by_cases c2 : x = 35
        · rw [if_pos (decide_eq_true c2)]
          subst c2
          have w1 : ((ns.drop (j + 1)).map toB).takeWhile (· != 10) = ((ns.drop (j + 1)).takeWhile notEndB).map toB := tw_is fun n hn => end_is (hB.drop _ n hn)
          have w2 : ((ns.drop (j + 1)).map toB).dropWhile (· != 10) = ((ns.drop (j + 1)).dropWhile notEndB).map toB := dw_is fun n hn => end_is (hB.drop _ n hn)
          rw [w1, w2, List.length_map, dropWhile_eq, List.drop_drop]
          have e : j + 1 + ((ns.drop (j + 1)).takeWhile notEndB).length = scan notEndB ns j := by
            rw [← scan_step hx (p := notEndB) rfl]
            rfl
          have g := scan_gt (p := notEndB) hx rfl
          have l := scan_le (p := notEndB) (ns := ns) (j := j) h1
          rw [e, ← skipTo_remark hx]
          exact lex_is hB n m _ l (by omega) (by rw [skipTo_remark hx]; exact h3)
        · rw [if_neg (by simp [c2])]
          have es := skipTo_stop hx (eq_false_of_ne_true c1) c2
          rw [es] at h3 ⊢
          have t := tok_is hB hx
          have hd := drop_at hx
          rw [hd, List.map_cons] at t
          cases m with
          | zero => omega
          | succ m =>
            rw [lexFrom, if_pos hj]
            cases et : ValayBase.token (toB x :: (ns.drop (j + 1)).map toB) with
            | none =>
              rw [et] at t
              dsimp only at t ⊢
              rw [t]
              rfl
            | some r =>
              rw [et] at t
              dsimp only at t ⊢
              obtain ⟨t1, t2⟩ := t
              rw [t1]
              have e : (toB x :: (ns.drop (j + 1)).map toB).drop r.2 = (ns.drop (behindTok ns j)).map toB := by
                rw [← List.map_cons, ← hd, ← List.map_drop, List.drop_drop, t2]
              have g := behind_gt (ns := ns) (j := j)
              have l := behind_le (ns := ns) hj
              have sg := skipTo_ge (ns := ns) (j := behindTok ns j)
              rw [e, t2, lex_is hB n m (behindTok ns j) l (by omega) (by omega)]
              rfl
theorem tokens_is {ns : List Int} (hB : Bytes_ ns) : ValayBase.tokens (ns.map toB) = if 4096 < ns.length then .error ⟨1, 4096⟩ else lexFrom ns (ns.length + 1) (skipTo ns 0) := by
  unfold ValayBase.tokens ValayBase.TEXT
  rw [List.length_map]
  have := lex_is hB (ns.length + 1) (ns.length + 1) 0 (Nat.zero_le _) (by omega) (by omega)
  rw [List.drop_zero] at this
  rw [this]
end Lv
/-! Leaves of a type: how many, and what a record's leaves become where it stands in another one. -/
namespace Lv
open ValayBase Valaya

theorem word_ne (a : Bytes) (b : Bytes) (h : b ≠ []) : dotted a b ≠ [] := by
  unfold dotted
  split
  · exact h
  · intro z
    have := congrArg List.length z
    simp [word] at this

theorem dotted_ne_left (a b : Bytes) (h : a ≠ []) : dotted a b ≠ [] := by
  unfold dotted
  split
  · rename_i z
    exact absurd (List.isEmpty_iff.mp z) h
  · intro z
    have := congrArg List.length z
    simp [word] at this

theorem dotted_assoc (x y z : Bytes) (hy : y ≠ []) : dotted (dotted x y) z = dotted x (dotted y z) := by
  have e1 : y.isEmpty = false := by cases y with | nil => exact absurd rfl hy | cons a r => rfl
  have e2 : (dotted x y).isEmpty = false := by
    have := word_ne x y hy
    cases h : dotted x y with
    | nil => exact absurd h this
    | cons a r => rfl
  unfold dotted at *
  by_cases hx : x.isEmpty = true
  · simp [hx, e1]
  · have hx' : x ≠ [] := fun z => hx (by rw [z]; rfl)
    simp [hx', e1]

/-- a leaf of a record, where the record stands in another one -/
def within (k : Nat) (x : Bytes) (h : Nat) (g : List (Nat × Nat)) (f : Leaf) : Leaf :=
  ⟨dotted x f.name, f.lo, f.hi, f.align, h * f.hot, f.kind, g ++ f.guards.map fun p => (k + p.1, p.2)⟩

def sh (k : Nat) (p : Nat × Nat) : Nat × Nat := (k + p.1, p.2)

theorem leavesBy_within (k h : Nat) (x : Bytes) (g : List (Nat × Nat)) : ∀ (t : Ty) (k0 : Nat) (y : Bytes) (h0 : Nat) (g0 : List (Nat × Nat)) (alt : Option (Nat × Nat)), y ≠ [] →
    leavesBy t (k + k0) (dotted x y) (h * h0) (g ++ g0.map (sh k)) (alt.map (sh k)) = (leavesBy t k0 y h0 g0 alt).map (within k x h g) := by
  intro t
  induction t with
  | num a b c =>
    intro k0 y h0 g0 alt hy
    rfl
  | maybe t ih =>
    intro k0 y h0 g0 alt hy
    have e := ih (k0 + 1) (dotted y (word "some")) h0 (g0 ++ [(k0, 1)]) none (dotted_ne_left _ _ hy)
    simp only [leavesBy, List.map_cons, ← e, dotted_assoc x y _ hy]
    simp [within, sh, dotted_assoc x y _ hy, Nat.add_assoc]
  | many n t ih =>
    intro k0 y h0 g0 alt hy
    simp only [leavesBy, List.map_flatMap]
    congr 1
    funext i
    rw [← ih (k0 + i * countLeaves t) (dotted y (showNat i)) h0 g0 none (dotted_ne_left _ _ hy)]
    simp [Nat.add_assoc, dotted_assoc x y _ hy]
  | rec_ fs ih =>
    intro k0 y h0 g0 alt hy
    simp only [leavesBy]
    exact ih k0 y h0 g0 none hy
  | named n t ih =>
    intro k0 y h0 g0 alt hy
    simp only [leavesBy]
    exact ih k0 y h0 g0 none hy
  | one_ fs ih =>
    intro k0 y h0 g0 alt hy
    have e := ih (k0 + 1) y h0 g0 (some (k0, 0)) hy
    simp only [leavesBy, List.map_cons, ← e]
    simp [within, sh, dotted_assoc x y _ hy, Nat.add_assoc]
  | nil =>
    intro k0 y h0 g0 alt hy
    rfl
  | field z f t r iht ihr =>
    intro k0 y h0 g0 alt hy
    cases alt with
    | none =>
      have e1 := iht k0 (dotted y z.name) (h0 * f) g0 none (dotted_ne_left _ _ hy)
      have e2 := ihr (k0 + countLeaves t) y h0 g0 none hy
      simp only [leavesBy, List.map_append, Option.map_none] at e1 e2 ⊢
      rw [← e1, ← e2]
      simp [Nat.add_assoc, dotted_assoc x y _ hy, Nat.mul_assoc]
    | some a =>
      have e1 := iht k0 (dotted y z.name) (h0 * f) (g0 ++ [a]) none (dotted_ne_left _ _ hy)
      have e2 := ihr (k0 + countLeaves t) y h0 g0 (some (a.1, a.2 + 1)) hy
      simp only [leavesBy, List.map_append, Option.map_none, Option.map_some] at e1 e2 ⊢
      rw [← e1, ← e2]
      simp [Nat.add_assoc, dotted_assoc x y _ hy, Nat.mul_assoc, sh]

/-- a row of fields or alternatives whose names are not empty -/
def Row : Ty → Prop
  | .field z _ _ r => z.name ≠ [] ∧ Row r
  | .nil => True
  | _ => False

theorem leavesBy_row (k h : Nat) (x : Bytes) (g : List (Nat × Nat)) : ∀ (t : Ty) (k0 h0 : Nat), Row t →
    leavesBy t (k + k0) x (h * h0) g none = (leavesBy t k0 [] h0 [] none).map (within k x h g) := by
  intro t
  induction t with
  | nil =>
    intros
    rfl
  | field z f t r iht ihr =>
    intro k0 h0 hn
    have e1 := leavesBy_within k h x g t k0 z.name (h0 * f) [] none hn.1
    have hd : dotted [] z.name = z.name := rfl
    have e2 := ihr (k0 + countLeaves t) h0 hn.2
    simp only [leavesBy, List.map_append, Option.map_none, hd] at e1 e2 ⊢
    rw [← e1, ← e2]
    simp [Nat.add_assoc, Nat.mul_assoc]
  | _ =>
    intro k0 h0 hk
    exact hk.elim

/-- the leaves of a record that stands in another one -/
theorem leaves_named (fs : Ty) (k h : Nat) (x : Bytes) (g : List (Nat × Nat)) (hr : Row fs) :
    leavesBy (.rec_ fs) k x h g none = (leavesOf (.rec_ fs)).map (within k x h g) := by
  have e := leavesBy_row k h x g fs 0 1 hr
  simpa [leavesBy, leavesOf] using e

/-- how many leaves -/
theorem leaves_length : ∀ (t : Ty) (k : Nat) (x : Bytes) (h : Nat) (g : List (Nat × Nat)) (alt : Option (Nat × Nat)), (leavesBy t k x h g alt).length = countLeaves t := by
  intro t
  induction t with
  | num a b c => intros; rfl
  | maybe t ih => intro k x h g alt; simp only [leavesBy, List.length_cons, ih, countLeaves]; omega
  | many n t ih =>
    intro k x h g alt
    simp only [leavesBy, List.length_flatMap, ih, countLeaves]
    have e : ∀ (m : Nat) (c : Nat), ((List.range m).map fun _ => c).sum = m * c := by
      intro m c
      induction m with
      | zero => simp
      | succ m ihm => rw [List.range_succ, List.map_append, List.sum_append, ihm]; simp [Nat.succ_mul]
    exact e n _
  | rec_ fs ih => intro k x h g alt; simp only [leavesBy, countLeaves]; exact ih ..
  | named n t ih => intro k x h g alt; simp only [leavesBy, countLeaves]; exact ih ..
  | one_ fs ih => intro k x h g alt; simp only [leavesBy, List.length_cons, ih, countLeaves]; omega
  | nil => intros; rfl
  | field z f t r iht ihr =>
    intro k x h g alt
    cases alt with
    | none => simp only [leavesBy, List.length_append, iht, ihr, countLeaves]
    | some a => simp only [leavesBy, List.length_append, iht, ihr, countLeaves]
end Lv
/-! Codes of a value, leaf by leaf, against the specification's own way. -/
namespace Lv
open ValayBase Valaya

/-- all guards are so -/
def holds (cs : List Int) (g : List (Nat × Nat)) : Bool := g.all fun p => decide (cs[p.1]? = some (p.2 : Int))
def codeStep (f : Leaf) (s : List Int × List Int) : Option (List Int × List Int) :=
  if holds s.1 f.guards = true then match s.2 with
    | v :: r => if f.lo ≤ v ∧ v ≤ f.hi then some (s.1 ++ [v - f.lo], r) else none
    | [] => none
  else some (s.1 ++ [-1], s.2)
def codeFold : List Leaf → List Int × List Int → Option (List Int × List Int)
  | [], s => some s
  | f :: r, s => (codeStep f s).bind (codeFold r)

theorem codeFold_append : ∀ (a b : List Leaf) (s : List Int × List Int), codeFold (a ++ b) s = (codeFold a s).bind (codeFold b)
  | [], b, s => rfl
  | f :: a, b, s => by
    show (codeStep f s).bind (codeFold (a ++ b)) = ((codeStep f s).bind (codeFold a)).bind (codeFold b)
    rw [Option.bind_assoc]
    congr 1
    funext s'
    exact codeFold_append a b s'

/-- tags of guards stand ahead -/
def Below (g : List (Nat × Nat)) (k : Nat) : Prop := ∀ p ∈ g, p.1 < k

theorem Below.mono {g : List (Nat × Nat)} {k k' : Nat} (h : Below g k) (hk : k ≤ k') : Below g k' := fun p hp => Nat.lt_of_lt_of_le (h p hp) hk
theorem Below.snoc {g : List (Nat × Nat)} {k : Nat} (h : Below g k) (i c : Nat) (hi : i < k) : Below (g ++ [(i, c)]) k := fun p hp => by
  rcases List.mem_append.mp hp with hp | hp
  · exact h p hp
  · rw [List.mem_singleton.mp hp]
    exact hi

theorem holds_more {cs ds : List Int} {g : List (Nat × Nat)} (hb : Below g cs.length) : holds (cs ++ ds) g = holds cs g := by
  unfold holds
  rw [Bool.eq_iff_iff, List.all_eq_true, List.all_eq_true]
  constructor
  · intro h p hp
    have := h p hp
    rwa [List.getElem?_append_left (hb p hp)] at this
  · intro h p hp
    rw [List.getElem?_append_left (hb p hp)]
    exact h p hp

theorem holds_append (cs : List Int) (g g' : List (Nat × Nat)) : holds cs (g ++ g') = (holds cs g && holds cs g') := by
  unfold holds
  rw [List.all_append]

/-- guards are from outside in -/
theorem guards_from : ∀ (t : Ty) (k : Nat) (x : Bytes) (h : Nat) (g : List (Nat × Nat)) (alt : Option (Nat × Nat)), ∀ f ∈ leavesBy t k x h g alt, ∃ g', f.guards = g ++ g' := by
  intro t
  induction t with
  | num a b c =>
    intro k x h g alt f hf
    simp only [leavesBy, List.mem_singleton] at hf
    subst hf
    exact ⟨[], by simp⟩
  | maybe t ih =>
    intro k x h g alt f hf
    simp only [leavesBy, List.mem_cons] at hf
    rcases hf with hf | hf
    · subst hf
      exact ⟨[], by simp⟩
    · obtain ⟨g', e⟩ := ih _ _ _ _ _ f hf
      exact ⟨[(k, 1)] ++ g', by rw [e, List.append_assoc]⟩
  | many n t ih =>
    intro k x h g alt f hf
    simp only [leavesBy, List.mem_flatMap] at hf
    obtain ⟨i, _, hf⟩ := hf
    exact ih _ _ _ _ _ f hf
  | rec_ fs ih => intro k x h g alt f hf; simp only [leavesBy] at hf; exact ih _ _ _ _ _ f hf
  | named n t ih => intro k x h g alt f hf; simp only [leavesBy] at hf; exact ih _ _ _ _ _ f hf
  | one_ fs ih =>
    intro k x h g alt f hf
    simp only [leavesBy, List.mem_cons] at hf
    rcases hf with hf | hf
    · subst hf
      exact ⟨[], by simp⟩
    · exact ih _ _ _ _ _ f hf
  | nil => intro k x h g alt f hf; simp [leavesBy] at hf
  | field z f t r iht ihr =>
    intro k x h g alt f hf
    cases alt with
    | none =>
      simp only [leavesBy, List.mem_append] at hf
      rcases hf with hf | hf
      · exact iht _ _ _ _ _ f hf
      · exact ihr _ _ _ _ _ f hf
    | some a =>
      simp only [leavesBy, List.mem_append] at hf
      rcases hf with hf | hf
      · obtain ⟨g', e⟩ := iht _ _ _ _ _ f hf
        exact ⟨[a] ++ g', by rw [e, List.append_assoc]⟩
      · exact ihr _ _ _ _ _ f hf

/-- where the guards are not so, nothing is there -/
theorem fold_absent (g : List (Nat × Nat)) (l : List Int) : ∀ (fs : List Leaf) (cs : List Int), Below g cs.length → holds cs g = false → (∀ f ∈ fs, ∃ g', f.guards = g ++ g') →
    codeFold fs (cs, l) = some (cs ++ List.replicate fs.length (-1), l)
  | [], cs, _, _, _ => by simp [codeFold]
  | f :: r, cs, hb, hh, hf => by
    obtain ⟨g', e⟩ := hf f (List.mem_cons_self ..)
    have hs : codeStep f (cs, l) = some (cs ++ [-1], l) := by
      unfold codeStep
      rw [if_neg]
      rw [e, holds_append, hh]
      simp
    have ih := fold_absent g l r (cs ++ [-1]) (hb.mono (by simp)) (by rw [holds_more hb]; exact hh) (fun f hf' => hf f (List.mem_cons_of_mem _ hf'))
    show (codeStep f (cs, l)).bind (codeFold r) = _
    rw [hs, Option.bind_some, ih, List.append_assoc]
    simp [List.replicate_succ]

theorem absent_by (t : Ty) (k : Nat) (x : Bytes) (h : Nat) (g : List (Nat × Nat)) (alt : Option (Nat × Nat)) (cs l : List Int) (hb : Below g cs.length) (hh : holds cs g = false) :
    codeFold (leavesBy t k x h g alt) (cs, l) = some (cs ++ List.replicate (countLeaves t) (-1), l) := by
  have := fold_absent g l (leavesBy t k x h g alt) cs hb hh (guards_from t k x h g alt)
  rwa [leaves_length] at this

/-- what a text's records are: rows where rows have to stand -/
def WF : Ty → Prop
  | .num a b _ => a ≤ b
  | .maybe t => WF t
  | .many _ t => WF t
  | .rec_ fs => Row fs ∧ WF fs
  | .named _ t => WF t
  | .one_ fs => Row fs ∧ WF fs
  | .nil => True
  | .field _ _ t r => WF t ∧ WF r

theorem codeRow_append (a b : List (Option Nat)) : codeRow (a ++ b) = codeRow a ++ codeRow b := by simp [codeRow]
theorem codeRow_absent (t : Ty) : codeRow (absent t) = List.replicate (countLeaves t) (-1) := by simp [codeRow, absent]

theorem take_length : ∀ (t : Ty) (k : Option Nat) (l : List Int) (c : List (Option Nat)) (r : List Int), takeValue t k l = some (c, r) → c.length = countLeaves t := by
  intro t
  induction t with
  | num a b c =>
    intro k l c r h
    cases l with
    | nil => simp [takeValue] at h
    | cons v l =>
      simp only [takeValue] at h
      split at h
      · cases h; rfl
      · cases h
  | maybe t ih =>
    intro k l c r h
    simp only [takeValue] at h
    split at h
    · cases h
      simp [absent, countLeaves]; omega
    · cases e : takeValue t none _ with
      | none => rw [e] at h; cases h
      | some y =>
        rw [e] at h
        cases h
        have := ih _ _ _ _ e
        simp [countLeaves, this]; omega
    · cases h
  | many n t ih =>
    intro k l c r h
    simp only [takeValue] at h
    have key : ∀ (n : Nat) (l : List Int) (c : List (Option Nat)) (r : List Int), takeMany (takeValue t none) n l = some (c, r) → c.length = n * countLeaves t := by
      intro n
      induction n with
      | zero => intro l c r h; cases h; simp
      | succ n ihn =>
        intro l c r h
        simp only [takeMany] at h
        cases e : takeValue t none l with
        | none => rw [e] at h; cases h
        | some y =>
          rw [e, Option.bind_some] at h
          cases e2 : takeMany (takeValue t none) n y.2 with
          | none => rw [e2] at h; cases h
          | some z =>
            rw [e2] at h
            cases h
            have h1 := ih _ _ _ _ e
            have h2 := ihn _ _ _ e2
            simp [h1, h2, Nat.succ_mul]; omega
    exact key n l c r h
  | rec_ fs ih => intro k l c r h; simp only [takeValue] at h; exact ih _ _ _ _ h
  | named n t ih => intro k l c r h; simp only [takeValue] at h; exact ih _ _ _ _ h
  | one_ fs ih =>
    intro k l c r h
    cases l with
    | nil => simp [takeValue] at h
    | cons v l =>
      simp only [takeValue] at h
      split at h
      · cases e : takeValue fs (some v.toNat) l with
        | none => rw [e] at h; cases h
        | some y =>
          rw [e] at h
          cases h
          have := ih _ _ _ _ e
          simp [countLeaves, this]; omega
      · cases h
  | nil => intro k l c r h; simp only [takeValue] at h; cases h; rfl
  | field z f t r iht ihr =>
    intro k l c s h
    match k with
    | none =>
      simp only [takeValue] at h
      cases e : takeValue t none l with
      | none => rw [e] at h; cases h
      | some y =>
        rw [e, Option.bind_some] at h
        cases e2 : takeValue r none y.2 with
        | none => rw [e2] at h; cases h
        | some w =>
          rw [e2] at h
          cases h
          simp [iht _ _ _ _ e, ihr _ _ _ _ e2, countLeaves]
    | some 0 =>
      simp only [takeValue] at h
      cases e : takeValue t none l with
      | none => rw [e] at h; cases h
      | some y =>
        rw [e] at h
        cases h
        simp [iht _ _ _ _ e, absent, countLeaves]
    | some (n + 1) =>
      simp only [takeValue] at h
      cases e : takeValue r (some n) l with
      | none => rw [e] at h; cases h
      | some y =>
        rw [e] at h
        cases h
        simp [ihr _ _ _ _ e, absent, countLeaves]

/-- a leaf that is there -/
theorem step_there (f : Leaf) (cs : List Int) (v : Int) (l : List Int) (hh : holds cs f.guards = true) : codeStep f (cs, v :: l) = if f.lo ≤ v ∧ v ≤ f.hi then some (cs ++ [v - f.lo], l) else none := by
  unfold codeStep
  rw [if_pos hh]
theorem step_short (f : Leaf) (cs : List Int) (hh : holds cs f.guards = true) : codeStep f (cs, []) = none := by
  unfold codeStep
  rw [if_pos hh]

def told (cs : List Int) (c : List (Option Nat) × List Int) : List Int × List Int := (cs ++ codeRow c.1, c.2)

theorem holds_snoc (cs : List Int) (g : List (Nat × Nat)) (v : Int) (c : Nat) (hb : Below g cs.length) : holds (cs ++ [v]) (g ++ [(cs.length, c)]) = (holds cs g && decide (v = (c : Int))) := by
  rw [holds_append, holds_more hb]
  congr 1
  simp [holds]

theorem there_by : ∀ (t : Ty), WF t →
    (∀ (x : Bytes) (h : Nat) (g : List (Nat × Nat)) (cs l : List Int), Below g cs.length → holds cs g = true →
      codeFold (leavesBy t cs.length x h g none) (cs, l) = (takeValue t none l).map (told cs)) ∧
    (Row t → ∀ (x : Bytes) (h : Nat) (g : List (Nat × Nat)) (cs l : List Int) (tag n v : Nat), Below g cs.length → holds cs g = true → cs[tag]? = some (v : Int) →
      codeFold (leavesBy t cs.length x h g (some (tag, n))) (cs, l) = if n ≤ v ∧ v < n + rowLength t then (takeValue t (some (v - n)) l).map (told cs) else some (cs ++ List.replicate (countLeaves t) (-1), l)) := by
  intro t
  induction t with
  | num a b c =>
    intro wf
    refine ⟨fun x h g cs l hb hh => ?_, fun hr => hr.elim⟩
    simp only [leavesBy, codeFold, takeValue]
    cases l with
    | nil => rw [step_short _ _ hh]; rfl
    | cons v l =>
      rw [step_there _ _ _ _ hh]
      dsimp only
      by_cases c : a ≤ v ∧ v ≤ b
      · rw [if_pos c, if_pos c]
        simp only [told, Option.bind_some, Option.map_some, codeRow, List.map_cons, List.map_nil]
        rw [Int.toNat_of_nonneg (by omega)]
      · rw [if_neg c, if_neg c]
        rfl
  | maybe t ih =>
    intro wf
    refine ⟨fun x h g cs l hb hh => ?_, fun hr => hr.elim⟩
    have ih := (ih wf).1
    simp only [leavesBy, codeFold, takeValue]
    match l with
    | [] => rw [step_short _ _ hh]; rfl
    | v :: l =>
      rw [step_there _ _ _ _ hh]
      by_cases c0 : v = 0
      · subst c0
        have e := absent_by t (cs.length + 1) (dotted x (word "some")) h (g ++ [(cs.length, 1)]) none (cs ++ [0]) l (fun p hp => by
          rcases List.mem_append.mp hp with hp | hp
          · have := hb p hp; simp; omega
          · rw [List.mem_singleton.mp hp]; simp) (by rw [holds_snoc cs g 0 1 hb]; simp)
        simp only [show (0:Int) ≤ 0 ∧ (0:Int) ≤ 1 from ⟨by omega, by omega⟩, and_self, if_true, Option.bind_some, Int.sub_zero, e]
        simp [told, codeRow, absent, List.append_assoc]
      · by_cases c1 : v = 1
        · subst c1
          have e := ih (dotted x (word "some")) h (g ++ [(cs.length, 1)]) (cs ++ [1]) l (fun p hp => by
            rcases List.mem_append.mp hp with hp | hp
            · have := hb p hp; simp; omega
            · rw [List.mem_singleton.mp hp]; simp) (by rw [holds_snoc cs g 1 1 hb, hh]; simp)
          simp only [List.length_append, List.length_singleton] at e
          simp only [show (0:Int) ≤ 1 ∧ (1:Int) ≤ 1 from ⟨by omega, by omega⟩, and_self, if_true, Option.bind_some, Int.sub_zero, e]
          cases takeValue t none l with
          | none => rfl
          | some y => simp [told, codeRow, List.append_assoc]
        · rw [if_neg (by simp only []; omega)]
          split
          · rename_i e; cases e; exact absurd rfl c0
          · rename_i e; cases e; exact absurd rfl c1
          · rfl
  | many n t ih =>
    intro wf
    refine ⟨fun x h g cs l hb hh => ?_, fun hr => hr.elim⟩
    have ih := (ih wf).1
    simp only [leavesBy, takeValue]
    have key : ∀ (n i0 : Nat) (cs' l : List Int), Below g cs'.length → holds cs' g = true → cs'.length = cs.length + i0 * countLeaves t →
        codeFold ((List.range' i0 n).flatMap fun i => leavesBy t (cs.length + i * countLeaves t) (dotted x (showNat i)) h g none) (cs', l) = (takeMany (takeValue t none) n l).map (told cs') := by
      intro n
      induction n with
      | zero => intro i0 cs' l _ _ _; simp [takeMany, codeFold, told, codeRow]
      | succ n ihn =>
        intro i0 cs' l hb' hh' hl
        rw [List.range'_succ, List.flatMap_cons, codeFold_append, ← hl, ih _ _ _ _ _ hb' hh']
        simp only [takeMany]
        cases e : takeValue t none l with
        | none => rfl
        | some y =>
          have hlen := take_length t none l y.1 y.2 e
          simp only [Option.map_some, Option.bind_some]
          have e2 := ihn (i0 + 1) (cs' ++ codeRow y.1) y.2 (hb'.mono (by simp)) (by rw [holds_more hb']; exact hh') (by simp [codeRow, hlen, hl, Nat.succ_mul]; omega)
          show codeFold _ (cs' ++ codeRow y.1, y.2) = _
          rw [e2]
          cases takeMany (takeValue t none) n y.2 with
          | none => rfl
          | some z => simp [told, codeRow_append, List.append_assoc]
    have := key n 0 cs l hb hh (by simp)
    rw [← List.range_eq_range'] at this
    exact this
  | rec_ fs ih =>
    intro wf
    refine ⟨fun x h g cs l hb hh => ?_, fun hr => hr.elim⟩
    simp only [leavesBy, takeValue]
    exact (ih wf.2).1 x h g cs l hb hh
  | named n t ih =>
    intro wf
    refine ⟨fun x h g cs l hb hh => ?_, fun hr => hr.elim⟩
    simp only [leavesBy, takeValue]
    exact (ih wf).1 x h g cs l hb hh
  | one_ fs ih =>
    intro wf
    refine ⟨fun x h g cs l hb hh => ?_, fun hr => hr.elim⟩
    have ih := (ih wf.2).2 wf.1
    simp only [leavesBy, codeFold, takeValue]
    match l with
    | [] => rw [step_short _ _ hh]; rfl
    | v :: l =>
      rw [step_there _ _ _ _ hh]
      dsimp only
      by_cases c : 0 ≤ v ∧ v < (rowLength fs : Int)
      · have e := ih x h g (cs ++ [v]) l cs.length 0 v.toNat (hb.mono (by simp)) (by rw [holds_more hb]; exact hh) (by
          rw [List.getElem?_append_right (Nat.le_refl _)]
          simp [Int.toNat_of_nonneg c.1])
        simp only [List.length_append, List.length_singleton] at e
        rw [if_pos (by omega), if_pos c]
        simp only [Option.bind_some, Int.sub_zero, e]
        rw [if_pos ⟨Nat.zero_le _, by omega⟩, Nat.sub_zero]
        cases takeValue fs (some v.toNat) l with
        | none => rfl
        | some y => simp [told, codeRow, List.append_assoc, Int.toNat_of_nonneg c.1]
      · rw [if_neg (by omega), if_neg c]
        rfl
  | nil =>
    intro wf
    refine ⟨fun x h g cs l hb hh => by simp [leavesBy, codeFold, takeValue, told, codeRow], fun _ x h g cs l tag n v hb hh hc => ?_⟩
    rw [if_neg (by simp only [rowLength]; omega)]
    simp [leavesBy, codeFold, countLeaves]
  | field z f t r iht ihr =>
    intro wf
    have iht := (iht wf.1).1
    have ihr1 := (ihr wf.2).1
    have ihr2 := (ihr wf.2).2
    refine ⟨fun x h g cs l hb hh => ?_, fun hr x h g cs l tag n v hb hh hc => ?_⟩
    · simp only [leavesBy, takeValue, codeFold_append]
      rw [iht _ _ _ _ _ hb hh]
      cases e : takeValue t none l with
      | none => rfl
      | some y =>
        have hlen := take_length t none l y.1 y.2 e
        simp only [Option.map_some, Option.bind_some]
        have e2 := ihr1 x h g (cs ++ codeRow y.1) y.2 (hb.mono (by simp)) (by rw [holds_more hb]; exact hh)
        have hl : (cs ++ codeRow y.1).length = cs.length + countLeaves t := by simp [codeRow, hlen]
        rw [hl] at e2
        show codeFold _ (cs ++ codeRow y.1, y.2) = _
        rw [e2]
        cases takeValue r none y.2 with
        | none => rfl
        | some w => simp [told, codeRow_append, List.append_assoc]
    · have htag : tag < cs.length := by
        rcases Nat.lt_or_ge tag cs.length with h | h
        · exact h
        · rw [List.getElem?_eq_none h] at hc; cases hc
      have hb' : Below (g ++ [(tag, n)]) cs.length := hb.snoc tag n htag
      have hh' : holds cs (g ++ [(tag, n)]) = decide (v = n) := by
        rw [holds_append, hh, Bool.true_and]
        simp only [holds, List.all_cons, List.all_nil, Bool.and_true, hc, Option.some.injEq]
        exact decide_eq_decide.mpr (by omega)
      simp only [leavesBy, codeFold_append]
      by_cases hv : v = n
      · subst hv
        rw [iht _ _ _ _ _ hb' (by rw [hh']; simp), if_pos (by simp only [rowLength]; omega)]
        simp only [Nat.sub_self, takeValue]
        cases e : takeValue t none l with
        | none => rfl
        | some y =>
          have hlen := take_length t none l y.1 y.2 e
          simp only [Option.map_some, Option.bind_some]
          have e2 := ihr2 hr.2 x h g (cs ++ codeRow y.1) y.2 tag (v + 1) v (hb.mono (by simp)) (by rw [holds_more hb]; exact hh) (by rw [List.getElem?_append_left htag]; exact hc)
          have hl : (cs ++ codeRow y.1).length = cs.length + countLeaves t := by simp [codeRow, hlen]
          rw [hl, if_neg (by omega)] at e2
          show codeFold _ (cs ++ codeRow y.1, y.2) = _
          rw [e2]
          simp [told, codeRow_append, codeRow_absent, List.append_assoc]
      · rw [absent_by t cs.length _ _ _ none cs l hb' (by rw [hh']; simp [hv])]
        simp only [Option.bind_some]
        have e2 := ihr2 hr.2 x h g (cs ++ List.replicate (countLeaves t) (-1)) l tag (n + 1) v (hb.mono (by simp)) (by rw [holds_more hb]; exact hh) (by rw [List.getElem?_append_left htag]; exact hc)
        have hl : (cs ++ List.replicate (countLeaves t) (-1)).length = cs.length + countLeaves t := by simp
        rw [hl] at e2
        rw [e2]
        by_cases c : n ≤ v ∧ v < n + (rowLength r + 1)
        · rw [if_pos (by omega), if_pos (by simp only [rowLength]; omega)]
          obtain ⟨m, rfl⟩ : ∃ m, v = n + 1 + m := ⟨v - (n + 1), by omega⟩
          rw [show n + 1 + m - (n + 1) = m by omega, show n + 1 + m - n = m + 1 by omega]
          simp only [takeValue]
          cases takeValue r (some m) l with
          | none => rfl
          | some y => simp [told, codeRow_append, codeRow_absent, List.append_assoc]
        · rw [if_neg (by omega), if_neg (by simp only [rowLength]; omega)]
          simp [countLeaves, List.append_assoc, List.replicate_append_replicate]

/-- **codes, leaf by leaf** -/
theorem codes_fold (t : Ty) (wf : WF t) (l : List Int) : ((codeFold (leavesOf t) ([], l)).bind fun s => if s.2.isEmpty = true then some s.1 else none) = (codesOf t l).map codeRow := by
  have e := (there_by t wf).1 [] 1 [] [] l (fun p hp => by cases hp) rfl
  unfold leavesOf codesOf
  simp only [List.length_nil] at e
  rw [e]
  cases takeValue t none l with
  | none => rfl
  | some y =>
    simp only [Option.map_some, Option.bind_some, told, List.nil_append]
    split <;> rfl
end Lv
/-! A value back from its codes: leaf by leaf, against the specification's own way. -/
namespace Lv
open ValayBase Valaya

theorem back_take : ∀ (t : Ty) (k : Option Nat) (l : List Int) (c : List (Option Nat)) (r : List Int), takeValue t k l = some (c, r) →
    ∃ u, l = u ++ r ∧ ∀ m, back t k (c ++ m) = some (u, m) := by
  intro t
  induction t with
  | num a b c =>
    intro k l c r h
    cases l with
    | nil => simp [takeValue] at h
    | cons v l =>
      simp only [takeValue] at h
      split at h
      · rename_i hv
        cases h
        refine ⟨[v], rfl, fun m => ?_⟩
        simp only [back, List.cons_append, List.nil_append]
        rw [Int.toNat_of_nonneg (by omega), if_pos (by omega)]
        simp; omega
      · cases h
  | maybe t ih =>
    intro k l c r h
    simp only [takeValue] at h
    split at h
    · cases h
      refine ⟨[0], rfl, fun m => ?_⟩
      simp [back, absent]
    · rename_i l'
      cases e : takeValue t none l' with
      | none => rw [e] at h; cases h
      | some y =>
        rw [e] at h
        cases h
        obtain ⟨u, e1, e2⟩ := ih _ _ _ _ e
        refine ⟨1 :: u, by rw [e1]; rfl, fun m => ?_⟩
        simp [back, e2]
    · cases h
  | many n t ih =>
    intro k l c r h
    simp only [takeValue] at h
    have key : ∀ (n : Nat) (l : List Int) (c : List (Option Nat)) (r : List Int), takeMany (takeValue t none) n l = some (c, r) → ∃ u, l = u ++ r ∧ ∀ m, backMany (back t none) n (c ++ m) = some (u, m) := by
      intro n
      induction n with
      | zero => intro l c r h; cases h; exact ⟨[], rfl, fun m => rfl⟩
      | succ n ihn =>
        intro l c r h
        simp only [takeMany] at h
        cases e : takeValue t none l with
        | none => rw [e] at h; cases h
        | some y =>
          rw [e, Option.bind_some] at h
          cases e2 : takeMany (takeValue t none) n y.2 with
          | none => rw [e2] at h; cases h
          | some z =>
            rw [e2] at h
            cases h
            obtain ⟨u, a1, a2⟩ := ih _ _ _ _ e
            obtain ⟨w, b1, b2⟩ := ihn _ _ _ e2
            refine ⟨u ++ w, by rw [a1, b1, List.append_assoc], fun m => ?_⟩
            simp [backMany, List.append_assoc, a2, b2]
    obtain ⟨u, a, b⟩ := key n l c r h
    exact ⟨u, a, fun m => by simp only [back]; exact b m⟩
  | rec_ fs ih => intro k l c r h; simp only [takeValue] at h; obtain ⟨u, a, b⟩ := ih _ _ _ _ h; exact ⟨u, a, fun m => by simp only [back]; exact b m⟩
  | named n t ih => intro k l c r h; simp only [takeValue] at h; obtain ⟨u, a, b⟩ := ih _ _ _ _ h; exact ⟨u, a, fun m => by simp only [back]; exact b m⟩
  | one_ fs ih =>
    intro k l c r h
    cases l with
    | nil => simp [takeValue] at h
    | cons v l =>
      simp only [takeValue] at h
      split at h
      · rename_i hv
        cases e : takeValue fs (some v.toNat) l with
        | none => rw [e] at h; cases h
        | some y =>
          rw [e] at h
          cases h
          obtain ⟨u, a, b⟩ := ih _ _ _ _ e
          refine ⟨v :: u, by rw [a]; rfl, fun m => ?_⟩
          simp only [back, List.cons_append, b]
          rw [if_pos (by omega)]
          simp [Int.toNat_of_nonneg hv.1]
      · cases h
  | nil => intro k l c r h; simp only [takeValue] at h; cases h; exact ⟨[], rfl, fun m => rfl⟩
  | field z f t r iht ihr =>
    intro k l c s h
    match k with
    | none =>
      simp only [takeValue] at h
      cases e : takeValue t none l with
      | none => rw [e] at h; cases h
      | some y =>
        rw [e, Option.bind_some] at h
        cases e2 : takeValue r none y.2 with
        | none => rw [e2] at h; cases h
        | some w =>
          rw [e2] at h
          cases h
          obtain ⟨u, a1, a2⟩ := iht _ _ _ _ e
          obtain ⟨w', b1, b2⟩ := ihr _ _ _ _ e2
          refine ⟨u ++ w', by rw [a1, b1, List.append_assoc], fun m => ?_⟩
          simp [back, List.append_assoc, a2, b2]
    | some 0 =>
      simp only [takeValue] at h
      cases e : takeValue t none l with
      | none => rw [e] at h; cases h
      | some y =>
        rw [e] at h
        cases h
        obtain ⟨u, a1, a2⟩ := iht _ _ _ _ e
        refine ⟨u, a1, fun m => ?_⟩
        simp [back, List.append_assoc, a2, absent]
    | some (n + 1) =>
      simp only [takeValue] at h
      cases e : takeValue r (some n) l with
      | none => rw [e] at h; cases h
      | some y =>
        rw [e] at h
        cases h
        obtain ⟨u, a1, a2⟩ := ihr _ _ _ _ e
        refine ⟨u, a1, fun m => ?_⟩
        simp [back, List.append_assoc, absent]
        exact a2 m

/-- codes are those of a value just if that value's codes are they: the value is known by it -/
theorem checked_iff (t : Ty) (c : List (Option Nat)) (v : List Int) : backChecked t c = some v ↔ codesOf t v = some c := by
  unfold backChecked
  constructor
  · intro h
    cases e : valueOf t c with
    | none => rw [e] at h; cases h
    | some u =>
      rw [e, Option.bind_some] at h
      split at h
      · cases h; assumption
      · cases h
  · intro h
    have h' := h
    unfold codesOf at h
    cases e : takeValue t none v with
    | none => rw [e] at h; cases h
    | some y =>
      rw [e, Option.bind_some] at h
      split at h
      · rename_i hy
        cases h
        obtain ⟨u, a, b⟩ := back_take t none v y.1 y.2 e
        have hy' : y.2 = [] := List.isEmpty_iff.mp hy
        have b0 := b []
        rw [List.append_nil] at b0
        unfold valueOf
        rw [b0]
        simp only [Option.map_some, Option.bind_some]
        rw [hy', List.append_nil] at a
        rw [← a, if_pos h']
      · cases h

/-- one leaf's code back -/
def backStep (f : Leaf) (c : Int) (s : List Int × List Int) : Option (List Int × List Int) :=
  if holds s.1 f.guards = true then (if 0 ≤ c ∧ c ≤ f.hi - f.lo then some (s.1 ++ [c], s.2 ++ [f.lo + c]) else none)
  else if c = -1 then some (s.1 ++ [-1], s.2) else none
def backFold : List Leaf → List Int → List Int × List Int → Option (List Int × List Int)
  | [], [], s => some s
  | f :: r, c :: cs, s => (backStep f c s).bind (backFold r cs)
  | _, _, _ => none

/-- what the leaves say is there is read back by them -/
theorem back_code : ∀ (fs : List Leaf) (cs : List Int) (c0 v0 : List Int) (s : List Int × List Int), backFold fs cs (c0, v0) = some s →
    s.1 = c0 ++ cs ∧ ∃ u, s.2 = v0 ++ u ∧ ∀ r, codeFold fs (c0, u ++ r) = some (c0 ++ cs, r)
  | [], [], c0, v0, s, h => by
    cases h
    exact ⟨by simp, [], by simp, fun r => by simp [codeFold]⟩
  | [], _ :: _, c0, v0, s, h => by cases h
  | _ :: _, [], c0, v0, s, h => by cases h
  | f :: fs, c :: cs, c0, v0, s, h => by
    simp only [backFold] at h
    unfold backStep at h
    dsimp only at h
    by_cases hh : holds c0 f.guards = true
    · rw [if_pos hh] at h
      by_cases hc : 0 ≤ c ∧ c ≤ f.hi - f.lo
      · rw [if_pos hc, Option.bind_some] at h
        obtain ⟨e1, u, e2, e3⟩ := back_code fs cs _ _ s h
        refine ⟨by rw [e1, List.append_assoc]; rfl, (f.lo + c) :: u, by rw [e2, List.append_assoc]; rfl, fun r => ?_⟩
        show (codeStep f (c0, (f.lo + c) :: (u ++ r))).bind (codeFold fs) = _
        rw [step_there _ _ _ _ hh, if_pos (by omega), Option.bind_some]
        rw [show f.lo + c - f.lo = c by omega, e3 r, List.append_assoc]
        rfl
      · rw [if_neg hc] at h; cases h
    · rw [if_neg hh] at h
      by_cases hc : c = -1
      · subst hc
        rw [if_pos rfl, Option.bind_some] at h
        obtain ⟨e1, u, e2, e3⟩ := back_code fs cs _ _ s h
        refine ⟨by rw [e1, List.append_assoc]; rfl, u, e2, fun r => ?_⟩
        show (codeStep f (c0, u ++ r)).bind (codeFold fs) = _
        unfold codeStep
        dsimp only
        rw [if_neg hh, Option.bind_some, e3 r, List.append_assoc]
        rfl
      · rw [if_neg hc] at h; cases h

theorem code_back : ∀ (fs : List Leaf) (c0 l v0 : List Int) (s : List Int × List Int), codeFold fs (c0, l) = some s →
    ∃ cs u, s.1 = c0 ++ cs ∧ l = u ++ s.2 ∧ backFold fs cs (c0, v0) = some (c0 ++ cs, v0 ++ u)
  | [], c0, l, v0, s, h => by
    cases h
    exact ⟨[], [], by simp, rfl, by simp [backFold]⟩
  | f :: fs, c0, l, v0, s, h => by
    simp only [codeFold] at h
    by_cases hh : holds c0 f.guards = true
    · cases l with
      | nil => rw [step_short _ _ hh] at h; cases h
      | cons v l =>
        rw [step_there _ _ _ _ hh] at h
        by_cases hc : f.lo ≤ v ∧ v ≤ f.hi
        · rw [if_pos hc, Option.bind_some] at h
          obtain ⟨cs, u, e1, e2, e3⟩ := code_back fs _ l (v0 ++ [v]) s h
          refine ⟨(v - f.lo) :: cs, v :: u, by rw [e1, List.append_assoc]; rfl, by rw [e2]; rfl, ?_⟩
          show (backStep f (v - f.lo) (c0, v0)).bind (backFold fs cs) = _
          unfold backStep
          dsimp only
          rw [if_pos hh, if_pos (by omega), Option.bind_some, show f.lo + (v - f.lo) = v by omega, e3, List.append_assoc, List.append_assoc]
          rfl
        · rw [if_neg hc] at h; cases h
    · have hs : codeStep f (c0, l) = some (c0 ++ [-1], l) := by
        unfold codeStep
        rw [if_neg hh]
      rw [hs, Option.bind_some] at h
      obtain ⟨cs, u, e1, e2, e3⟩ := code_back fs _ l v0 s h
      refine ⟨-1 :: cs, u, by rw [e1, List.append_assoc]; rfl, e2, ?_⟩
      show (backStep f (-1) (c0, v0)).bind (backFold fs cs) = _
      unfold backStep
      dsimp only
      rw [if_neg hh, if_pos rfl, Option.bind_some, e3, List.append_assoc]
      rfl

theorem codeRow_inj : ∀ {a b : List (Option Nat)}, codeRow a = codeRow b → a = b
  | [], [], _ => rfl
  | [], _ :: _, h => by cases h
  | _ :: _, [], h => by cases h
  | x :: a, y :: b, h => by
    have h1 := (List.cons.inj h).1
    have h2 := codeRow_inj (a := a) (b := b) (List.cons.inj h).2
    subst h2
    cases x <;> cases y <;> simp at h1 ⊢ <;> omega

theorem readCodes_row {l : List Int} {c : List (Option Nat)} (h : readCodes l = some c) : codeRow c = l := by
  unfold readCodes at h
  split at h
  · cases h
  · rename_i hn
    cases h
    have hn' : ∀ z ∈ l, ¬ z < -1 := by
      intro z hz c
      exact hn (List.any_eq_true.mpr ⟨z, hz, by simpa using c⟩)
    clear hn
    induction l with
    | nil => rfl
    | cons z l ih =>
      have hz := hn' z (List.mem_cons_self ..)
      show _ :: codeRow _ = _
      rw [ih fun y hy => hn' y (List.mem_cons_of_mem _ hy)]
      congr 1
      dsimp only
      by_cases c : z < 0
      · rw [if_pos c]
        dsimp only
        omega
      · rw [if_neg c]
        dsimp only
        omega

theorem row_readCodes (c : List (Option Nat)) : readCodes (codeRow c) = some c := by
  have e : (codeRow c).any (fun z => decide (z < -1)) = false := by
    rw [List.any_eq_false]
    intro z hz
    simp only [codeRow, List.mem_map] at hz
    obtain ⟨y, _, rfl⟩ := hz
    cases y <;> simp <;> omega
  unfold readCodes
  rw [e, if_neg Bool.false_ne_true]
  congr 1
  induction c with
  | nil => rfl
  | cons y c ih =>
    have e2 : (codeRow c).any (fun z => decide (z < -1)) = false := by
      simp only [codeRow, List.map_cons, List.any_cons, Bool.or_eq_false_iff] at e
      exact e.2
    refine congr (congrArg _ ?_) (ih e2)
    cases y with
    | none => rfl
    | some n => simp

/-- **values back, leaf by leaf** -/
theorem back_fold (t : Ty) (wf : WF t) (l : List Int) : (backFold (leavesOf t) l ([], [])).map (·.2) = (readCodes l).bind (backChecked t) := by
  have key := fun v => codes_fold t wf v
  cases e : backFold (leavesOf t) l ([], []) with
  | some s =>
    obtain ⟨e1, u, e2, e3⟩ := back_code _ _ _ _ _ e
    have e4 := e3 []
    simp only [List.append_nil, List.nil_append] at e4 e2 e1
    have k := key u
    rw [e4] at k
    simp only [Option.bind_some, List.isEmpty_nil, if_true] at k
    cases hc : codesOf t u with
    | none => rw [hc] at k; cases k
    | some c =>
      rw [hc] at k
      have k' : l = codeRow c := Option.some.inj k
      rw [k', row_readCodes, Option.bind_some, (checked_iff t c u).mpr hc, ← e2]
      rfl
  | none =>
    cases hr : readCodes l with
    | none => rfl
    | some c =>
      rw [Option.bind_some]
      cases hb : backChecked t c with
      | none => rfl
      | some v =>
        have hc := (checked_iff t c v).mp hb
        have k := key v
        rw [hc, Option.map_some, readCodes_row hr] at k
        cases hf : codeFold (leavesOf t) ([], v) with
        | none => rw [hf] at k; cases k
        | some s =>
          rw [hf, Option.bind_some] at k
          split at k
          · rename_i hs
            obtain ⟨cs, u, a1, a2, a3⟩ := code_back _ _ _ [] _ hf
            have hs' := List.isEmpty_iff.mp hs
            have k' := Option.some.inj k
            simp only [List.nil_append] at a1 a3
            rw [a1] at k'
            rw [k', e] at a3
            cases a3
          · cases k
end Lv
set_option Elab.async false
set_option linter.all false
set_option maxRecDepth 100000
set_option maxHeartbeats 4000000
namespace Lv
open PySem PySem.Spec PyProof.Rows L2
theorem map_at {ns : List Int} {j : Nat} {x : Int} (h : ns[j]? = some x) : atI (ns.map V.int) (j : Int) = some (V.int x) := atI_nat (by rw [List.getElem?_map, h]; rfl)


section
variable {P : Program} {w : World} {K : PySem.W.Frag} {mg : Str → Option Value} {base : Heap}
/-! ### single bytes -/
def spByte (p : Int → Bool) : Sp := fun vs H Q _ => ∃ b : Int, vs = [.int b] ∧ Q (.bl (p b)) H
theorem len_byte {p : Int → Bool} {x : Str} : Len (spByte p) [x] := fun vs H Q E h => by
  obtain ⟨b, rfl, _⟩ := h
  rfl
theorem ok_is_digit (T : Txt K mg) : FnAt P w K mg base CX0 1 "is_digit" ["byte"] (spByte isDigitB) := by
  refine T.d_is_digit.ok sc_is_digit len_byte fun f cdv A outer s H vs Q E hr h => ?_
  obtain ⟨b, rfl, q⟩ := h
  refine ⟨_, (pss_one (ps_ret (pe_chain op_le op_lt (pe_num T.n_ZERO) (pv 0) (pe_op op_add (pe_num T.n_ZERO) pe_int)))), ?_⟩
  refine ⟨_, rfl, _, _, rfl, rfl, _, rfl, ?_⟩
  by_cases c : (48 : Int) ≤ b
  · refine if_t (decide_eq_true c) ⟨_, _, rfl, rfl, _, _, rfl, rfl, ?_⟩
    have e : isDigitB b = decide (b < 48 + 10) := by unfold isDigitB; simp [c]
    show Q (.bl (decide (b < 48 + 10))) H
    rw [← e]
    exact q
  · refine if_f (decide_eq_false c) ?_
    have e : isDigitB b = false := by unfold isDigitB; simp [c]
    rw [← e]
    exact q
theorem ok_is_letter (T : Txt K mg) : FnAt P w K mg base CX0 1 "is_letter" ["byte"] (spByte isLetterB) := by
  refine T.d_is_letter.ok sc_is_letter len_byte fun f cdv A outer s H vs Q E hr h => ?_
  obtain ⟨b, rfl, q⟩ := h
  refine ⟨_, (pss_one (ps_ret (pe_or (pe_chain op_le op_lt (pe_num T.n_SMALL_A) (pv 0) (pe_op op_add (pe_num T.n_SMALL_A) pe_int)) (pe_one (pe_chain op_le op_lt (pe_num T.n_LARGE_A) (pv 0) (pe_op op_add (pe_num T.n_LARGE_A) pe_int)))))), ?_⟩
  refine ⟨_, rfl, _, _, rfl, rfl, _, rfl, ?_⟩
  have second : isLetterB b = (decide ((65 : Int) ≤ b) && decide (b < 91)) → tChain (rI0 fun i j => .bl (decide (i ≤ j))) (rI0 fun i j => .bl (decide (i < j))) (tC (.int 65)) (tVar 0) (tOp (rI0 fun i j => .int (i + j)) (tC (.int 65)) (tC (.int 26))) (start ["byte"] [.int b]) H Q := by
    intro e
    refine ⟨_, rfl, _, _, rfl, rfl, _, rfl, ?_⟩
    by_cases c : (65 : Int) ≤ b
    · refine if_t (decide_eq_true c) ⟨_, _, rfl, rfl, _, _, rfl, rfl, ?_⟩
      have e : isLetterB b = decide (b < 65 + 26) := by rw [e]; simp [c]
      show Q (.bl (decide (b < 65 + 26))) H
      rw [← e]
      exact q
    · refine if_f (decide_eq_false c) ?_
      have e : isLetterB b = false := by rw [e]; simp [c]
      rw [← e]
      exact q
  by_cases c : (97 : Int) ≤ b
  · refine if_t (decide_eq_true c) ⟨_, _, rfl, rfl, _, _, rfl, rfl, _, rfl, ?_⟩
    by_cases c2 : b < 97 + 26
    · refine if_t (decide_eq_true c2) ?_
      have e : isLetterB b = true := by unfold isLetterB; simp [c]; omega
      rw [← e]
      exact q
    · refine if_f (decide_eq_false c2) (second ?_)
      unfold isLetterB
      simp only [show decide (b < 123) = false from decide_eq_false (by omega), Bool.and_false, Bool.false_or]
  · refine if_f (decide_eq_false c) ⟨_, rfl, if_f rfl (second ?_)⟩
    unfold isLetterB
    simp only [show decide ((97 : Int) ≤ b) = false from decide_eq_false c, Bool.false_and, Bool.false_or]
/-! ### how far -/
def spScan (K : PySem.W.Frag) (p : Int → Bool) : Sp := fun vs H Q _ => ∃ (a : Addr) (ns : List Int) (j : Nat), vs = [.ref a, .int j] ∧ SqL K H a (ns.map V.int) ∧ j ≤ ns.length ∧ Q (.int (scan p ns j : Nat)) H
theorem len_scan {p : Int → Bool} {x y : Str} : Len (spScan K p) [x, y] := fun vs H Q E h => by
  obtain ⟨a, ns, j, rfl, _⟩ := h
  rfl
/-- a while that moves on as far as p goes: what is left of it behind the test -/
def mu2 (n : Nat) : L2.St → Hp → Nat := fun σ _ => match σ with
  | [_, some (.int i)] => n - i.toNat
  | _ => 0
theorem go2 {p : Int → Bool} {ns : List Int} {a : Addr} {H : Hp} {i j : Nat} {x : Int} (hx : ns[i]? = some x) (hp : p x = true) (e : scan p ns i = scan p ns j) :
    (H = H ∧ ∃ i' : Nat, ([some (.ref a), some (.int ((i : Int) + 1))] : L2.St) = [some (.ref a), some (.int i')] ∧ i' ≤ ns.length ∧ scan p ns i' = scan p ns j) ∧ mu2 ns.length [some (.ref a), some (.int ((i : Int) + 1))] H < mu2 ns.length [some (.ref a), some (.int (i : Int))] H := by
  have hi := (List.getElem?_eq_some_iff.mp hx).1
  refine ⟨⟨rfl, i + 1, rfl, hi, (scan_step hx hp).trans e⟩, ?_⟩
  show ns.length - ((i : Int) + 1).toNat < ns.length - ((i : Int)).toNat
  omega
theorem ok_behind_word (T : Txt K mg) : FnAt P w K mg base CX0 2 "behind_word" ["text", "place"] (spScan K isWordB) := by
  have G_is_letter := ok_is_letter (P := P) (w := w) (base := base) T
  have G_is_digit := ok_is_digit (P := P) (w := w) (base := base) T
  refine T.d_behind_word.ok sc_behind_word len_scan fun f cdv A outer s H vs Q E hr h => ?_
  obtain ⟨a, ns, j, rfl, hS, hj, q⟩ := h
  refine ⟨_, (pss_cons (ps_while PassesOwn.never (PW.pt (pw_and (pt_cmpR op_lt (pv 1) (pe_callB call_len_seq (by rfl) T.f_len PySem.boot_len (pa_cons (pv 0) pa_nil)) (nomark _)) (pw_and1 (PW.pt (pw_or (pt_val (pe_fn G_is_letter hr (by first | decide | omega) (pa_cons (pe_ix ix_list (pv 0) (pv 1) (fun _ _ => rfl)) pa_nil))) (pw_or1 (pt_val (pe_fn G_is_digit hr (by first | decide | omega) (pa_cons (pe_ix ix_list (pv 0) (pv 1) (fun _ _ => rfl)) pa_nil))))))))) (pss_one (ps_aug (i := 1) sc_behind_word.nd rfl (Or.inl rfl) pe_int ip_add)))
  (pss_one (ps_ret (pv 1)))), ?_⟩
  refine while_go (fun σ H' => H' = H ∧ ∃ i : Nat, σ = [some (.ref a), some (.int i)] ∧ i ≤ ns.length ∧ scan isWordB ns i = scan isWordB ns j) (mu2 ns.length) ⟨rfl, j, rfl, hj, rfl⟩ ?_
  rintro σ H' ⟨rfl, i, rfl, hi, e⟩
  refine ⟨_, rfl, _, rfl, a, _, rfl, .inl hS, _, _, rfl, rfl, _, rfl, ?_⟩
  rw [List.length_map]
  by_cases c : i < ns.length
  · refine if_t (decide_eq_true (by omega)) ?_
    obtain ⟨x, hx⟩ := get_at c
    refine ⟨_, rfl, _, rfl, a, _, _, _, rfl, rfl, hS, map_at hx, x, rfl, _, rfl, ?_⟩
    by_cases c1 : isLetterB x = true
    · refine if_t c1 (if_t rfl (turn_on ?_))
      exact ⟨_, rfl, _, _, rfl, rfl, go2 hx (by unfold isWordB; rw [c1]; rfl) e⟩
    · refine if_f (eq_false_of_ne_true c1) ?_
      refine ⟨_, rfl, _, rfl, a, _, _, _, rfl, rfl, hS, map_at hx, x, rfl, _, rfl, ?_⟩
      by_cases c2 : isDigitB x = true
      · refine if_t c2 (turn_on ?_)
        exact ⟨_, rfl, _, _, rfl, rfl, go2 hx (by unfold isWordB; rw [c2, Bool.or_true]) e⟩
      · refine if_f (eq_false_of_ne_true c2) ⟨_, rfl, ?_⟩
        rw [← e, scan_stop hx (by unfold isWordB; rw [eq_false_of_ne_true c1, eq_false_of_ne_true c2]; rfl)] at q
        exact q
  · refine if_f (decide_eq_false (by omega)) (if_f rfl ⟨_, rfl, ?_⟩)
    rw [← e, scan_end (by omega)] at q
    exact q
theorem ok_behind_digits (T : Txt K mg) : FnAt P w K mg base CX0 2 "behind_digits" ["text", "place"] (spScan K isDigitB) := by
  have G_is_digit := ok_is_digit (P := P) (w := w) (base := base) T
  refine T.d_behind_digits.ok sc_behind_digits len_scan fun f cdv A outer s H vs Q E hr h => ?_
  obtain ⟨a, ns, j, rfl, hS, hj, q⟩ := h
  refine ⟨_, (pss_cons (ps_while PassesOwn.never (PW.pt (pw_and (pt_cmpR op_lt (pv 1) (pe_callB call_len_seq (by rfl) T.f_len PySem.boot_len (pa_cons (pv 0) pa_nil)) (nomark _)) (pw_and1 (pt_val (pe_fn G_is_digit hr (by first | decide | omega) (pa_cons (pe_ix ix_list (pv 0) (pv 1) (fun _ _ => rfl)) pa_nil)))))) (pss_one (ps_aug (i := 1) sc_behind_digits.nd rfl (Or.inl rfl) pe_int ip_add)))
  (pss_one (ps_ret (pv 1)))), ?_⟩
  refine while_go (fun σ H' => H' = H ∧ ∃ i : Nat, σ = [some (.ref a), some (.int i)] ∧ i ≤ ns.length ∧ scan isDigitB ns i = scan isDigitB ns j) (mu2 ns.length) ⟨rfl, j, rfl, hj, rfl⟩ ?_
  rintro σ H' ⟨rfl, i, rfl, hi, e⟩
  refine ⟨_, rfl, _, rfl, a, _, rfl, .inl hS, _, _, rfl, rfl, _, rfl, ?_⟩
  rw [List.length_map]
  by_cases c : i < ns.length
  · refine if_t (decide_eq_true (by omega)) ?_
    obtain ⟨x, hx⟩ := get_at c
    refine ⟨_, rfl, _, rfl, a, _, _, _, rfl, rfl, hS, map_at hx, x, rfl, _, rfl, ?_⟩
    by_cases c2 : isDigitB x = true
    · refine if_t c2 (turn_on ?_)
      exact ⟨_, rfl, _, _, rfl, rfl, go2 hx c2 e⟩
    · refine if_f (eq_false_of_ne_true c2) ⟨_, rfl, ?_⟩
      rw [← e, scan_stop hx (eq_false_of_ne_true c2)] at q
      exact q
  · refine if_f (decide_eq_false (by omega)) (if_f rfl ⟨_, rfl, ?_⟩)
    rw [← e, scan_end (by omega)] at q
    exact q
theorem ok_behind_remark (T : Txt K mg) : FnAt P w K mg base CX0 1 "behind_remark" ["text", "place"] (spScan K notEndB) := by
  refine T.d_behind_remark.ok sc_behind_remark len_scan fun f cdv A outer s H vs Q E hr h => ?_
  obtain ⟨a, ns, j, rfl, hS, hj, q⟩ := h
  refine ⟨_, (pss_cons (ps_while PassesOwn.never (PW.pt (pw_and (pt_cmpR op_lt (pv 1) (pe_callB call_len_seq (by rfl) T.f_len PySem.boot_len (pa_cons (pv 0) pa_nil)) (nomark _)) (pw_and1 (pt_cmpR op_ne (pe_ix ix_list (pv 0) (pv 1) (fun _ _ => rfl)) (pe_num T.n_LINE_END) (nomark _))))) (pss_one (ps_aug (i := 1) sc_behind_remark.nd rfl (Or.inl rfl) pe_int ip_add)))
  (pss_one (ps_ret (pv 1)))), ?_⟩
  refine while_go (fun σ H' => H' = H ∧ ∃ i : Nat, σ = [some (.ref a), some (.int i)] ∧ i ≤ ns.length ∧ scan notEndB ns i = scan notEndB ns j) (mu2 ns.length) ⟨rfl, j, rfl, hj, rfl⟩ ?_
  rintro σ H' ⟨rfl, i, rfl, hi, e⟩
  refine ⟨_, rfl, _, rfl, a, _, rfl, .inl hS, _, _, rfl, rfl, _, rfl, ?_⟩
  rw [List.length_map]
  by_cases c : i < ns.length
  · refine if_t (decide_eq_true (by omega)) ?_
    obtain ⟨x, hx⟩ := get_at c
    refine ⟨_, rfl, _, rfl, a, _, _, _, rfl, rfl, hS, map_at hx, rfl, _, rfl, ?_⟩
    by_cases c2 : x = 10
    · refine if_f (by simp [c2]) ⟨_, rfl, ?_⟩
      rw [← e, scan_stop hx (by simp [notEndB, c2])] at q
      exact q
    · refine if_t (by simp [c2]) (turn_on ?_)
      exact ⟨_, rfl, _, _, rfl, rfl, go2 hx (by simp [notEndB, c2]) e⟩
  · refine if_f (decide_eq_false (by omega)) (if_f rfl ⟨_, rfl, ?_⟩)
    rw [← e, scan_end (by omega)] at q
    exact q
def spSkip (K : PySem.W.Frag) : Sp := fun vs H Q _ => ∃ (a : Addr) (ns : List Int) (j : Nat), vs = [.ref a, .int j] ∧ SqL K H a (ns.map V.int) ∧ j ≤ ns.length ∧ Q (.int (skipTo ns j : Nat)) H
theorem ok_behind_blanks (T : Txt K mg) : FnAt P w K mg base CX0 2 "behind_blanks" ["text", "place"] (spSkip K) := by
  have G_behind_remark := ok_behind_remark (P := P) (w := w) (base := base) T
  refine T.d_behind_blanks.ok sc_behind_blanks (fun vs H Q E h => by obtain ⟨a, ns, j, rfl, _⟩ := h; rfl) fun f cdv A outer s H vs Q E hr h => ?_
  obtain ⟨a, ns, j, rfl, hS, hj, q⟩ := h
  refine ⟨_, (pss_cons (ps_while PassesOwn.never (pt_cmpR op_lt (pv 1) (pe_callB call_len_seq (by rfl) T.f_len PySem.boot_len (pa_cons (pv 0) pa_nil)) (nomark _)) (pss_one (ps_if (pt_cmpR op_in_seq (pe_ix ix_list (pv 0) (pv 1) (fun _ _ => rfl)) (pe_adr T.a_BLANKS) (by rfl)) (pss_one (ps_aug (i := 1) sc_behind_blanks.nd rfl (Or.inl rfl) pe_int ip_add)) (pss_one (ps_if (pt_cmpR op_eq (pe_ix ix_list (pv 0) (pv 1) (fun _ _ => rfl)) (pe_num T.n_REMARK) (nomark _)) (pss_one (ps_set (i := 1) sc_behind_blanks.nd rfl (Or.inl rfl) (pe_fn G_behind_remark hr (by first | decide | omega) (pa_cons (pv 0) (pa_cons (pv 1) pa_nil))))) (pss_one ps_break))))))
  (pss_one (ps_ret (pv 1)))), ?_⟩
  refine while_go (fun σ H' => H' = H ∧ ∃ i : Nat, σ = [some (.ref a), some (.int i)] ∧ i ≤ ns.length ∧ skipTo ns i = skipTo ns j) (mu2 ns.length) ⟨rfl, j, rfl, hj, rfl⟩ ?_
  rintro σ H' ⟨rfl, i, rfl, hi, e⟩
  refine ⟨_, rfl, _, rfl, a, _, rfl, .inl hS, _, _, rfl, rfl, _, rfl, ?_⟩
  rw [List.length_map]
  by_cases c : i < ns.length
  · refine if_t (decide_eq_true (by omega)) (turn_on ?_)
    obtain ⟨x, hx⟩ := get_at c
    refine ⟨_, rfl, _, rfl, a, _, _, _, rfl, rfl, hS, map_at hx, _, _, rfl, .inr (T.tup_BLANKS _), rfl, rfl, _, rfl, ?_⟩
    have ib : inV (.int x) [.int 32, .int 9, .int 10] = blankB x := by
      show ((32 : Int) == x || ((9 : Int) == x || ((10 : Int) == x || false))) = _
      unfold blankB
      rw [Bool.eq_iff_iff]
      simp
      omega
    by_cases c2 : blankB x = true
    · refine if_t (ib.trans c2) ?_
      refine ⟨_, rfl, _, _, rfl, rfl, ⟨rfl, i + 1, rfl, c, (skipTo_blank hx c2).trans e⟩, ?_⟩
      show ns.length - ((i : Int) + 1).toNat < ns.length - ((i : Int)).toNat
      omega
    · refine if_f (ib.trans (eq_false_of_ne_true c2)) ?_
      refine ⟨_, rfl, _, rfl, a, _, _, _, rfl, rfl, hS, map_at hx, rfl, _, rfl, ?_⟩
      by_cases c3 : x = 35
      · subst c3
        refine if_t (decide_eq_true rfl) ?_
        refine ⟨_, rfl, _, rfl, a, ns, i, rfl, hS, hi, ⟨rfl, _, rfl, scan_le hi, (skipTo_remark hx).trans e⟩, ?_⟩
        have g := scan_gt (p := notEndB) hx rfl
        show ns.length - ((scan notEndB ns i : Nat) : Int).toNat < ns.length - ((i : Int)).toNat
        omega
      · refine if_f (decide_eq_false fun z => c3 (V.int.inj z)) ?_
        refine ⟨_, rfl, ?_⟩
        rw [← e, skipTo_stop hx (eq_false_of_ne_true c2) c3] at q
        exact q
  · refine if_f (decide_eq_false (by omega)) ⟨_, rfl, ?_⟩
    rw [← e, skipTo_end (by omega)] at q
    exact q
/-! ### one token -/
def spBehind (K : PySem.W.Frag) : Sp := fun vs H Q _ => ∃ (a : Addr) (ns : List Int) (j : Nat), vs = [.ref a, .int j] ∧ SqL K H a (ns.map V.int) ∧ j < ns.length ∧ Q (.int (behindTok ns j : Nat)) H
theorem ok_behind_token (T : Txt K mg) : FnAt P w K mg base CX0 3 "behind_token" ["text", "place"] (spBehind K) := by
  have G_is_letter := ok_is_letter (P := P) (w := w) (base := base) T
  have G_is_digit := ok_is_digit (P := P) (w := w) (base := base) T
  have G_behind_word := ok_behind_word (P := P) (w := w) (base := base) T
  have G_behind_digits := ok_behind_digits (P := P) (w := w) (base := base) T
  refine T.d_behind_token.ok sc_behind_token (fun vs H Q E h => by obtain ⟨a, ns, j, rfl, _⟩ := h; rfl) fun f cdv A outer s H vs Q E hr h => ?_
  obtain ⟨a, ns, j, rfl, hS, hj, q⟩ := h
  refine ⟨_, (pss_cons (ps_if (pt_val (pe_fn G_is_letter hr (by first | decide | omega) (pa_cons (pe_ix ix_list (pv 0) (pv 1) (fun _ _ => rfl)) pa_nil))) (pss_one (ps_ret (pe_fn G_behind_word hr (by first | decide | omega) (pa_cons (pv 0) (pa_cons (pv 1) pa_nil))))) pss_nil)
  (pss_cons (ps_if (pt_val (pe_fn G_is_digit hr (by first | decide | omega) (pa_cons (pe_ix ix_list (pv 0) (pv 1) (fun _ _ => rfl)) pa_nil))) (pss_one (ps_ret (pe_fn G_behind_digits hr (by first | decide | omega) (pa_cons (pv 0) (pa_cons (pv 1) pa_nil))))) pss_nil)
  (pss_one (ps_ret (pe_op op_add (pv 1) pe_int))))), ?_⟩
  obtain ⟨x, hx⟩ := get_at hj
  unfold behindTok at q
  rw [hx] at q
  dsimp only at q
  refine ⟨_, rfl, _, rfl, a, _, _, _, rfl, rfl, hS, map_at hx, x, rfl, _, rfl, ?_⟩
  by_cases c1 : isLetterB x = true
  · refine if_t c1 ⟨_, rfl, _, rfl, a, ns, j, rfl, hS, by omega, ?_⟩
    rw [if_pos c1] at q
    exact q
  · refine if_f (eq_false_of_ne_true c1) ?_
    rw [if_neg c1] at q
    refine ⟨_, rfl, _, rfl, a, _, _, _, rfl, rfl, hS, map_at hx, x, rfl, _, rfl, ?_⟩
    by_cases c2 : isDigitB x = true
    · refine if_t c2 ⟨_, rfl, _, rfl, a, ns, j, rfl, hS, by omega, ?_⟩
      rw [if_pos c2] at q
      exact q
    · refine if_f (eq_false_of_ne_true c2) ⟨_, rfl, _, _, rfl, rfl, ?_⟩
      rw [if_neg c2] at q
      exact q
/-- a text of one sign -/
def chr1 (n : Nat) : Str := ⟨#[n]⟩
def spSign : Sp := fun vs H Q _ => ∃ b : Int, vs = [.int b] ∧ isWordB b = true ∧ Q (.str (chr1 b.toNat)) H
theorem cps_small : ∀ i : Fin 26, (Str.ofString "abcdefghijklmnopqrstuvwxyz").cps[i.val]? = some (97 + i.val) := by decide +kernel
theorem cps_large : ∀ i : Fin 26, (Str.ofString "ABCDEFGHIJKLMNOPQRSTUVWXYZ").cps[i.val]? = some (65 + i.val) := by decide +kernel
theorem cps_digit : ∀ i : Fin 10, (Str.ofString "0123456789").cps[i.val]? = some (48 + i.val) := by decide +kernel
theorem ok_sign_of (T : Txt K mg) : FnAt P w K mg base CX0 1 "sign_of" ["byte"] spSign := by
  refine T.d_sign_of.ok sc_sign_of (fun vs H Q E h => by obtain ⟨b, rfl, _⟩ := h; rfl) fun f cdv A outer s H vs Q E hr h => ?_
  obtain ⟨b, rfl, hb, q⟩ := h
  refine ⟨_, (pss_cons (ps_if (pt_cmpR op_ge (pv 0) (pe_num T.n_SMALL_A) (nomark _)) (pss_one (ps_ret (pe_item_str (pe_txt T.t_SMALL_LETTERS) (pe_op op_sub (pv 0) (pe_num T.n_SMALL_A)) (fun _ _ => rfl)))) pss_nil)
  (pss_cons (ps_if (pt_cmpR op_ge (pv 0) (pe_num T.n_LARGE_A) (nomark _)) (pss_one (ps_ret (pe_item_str (pe_txt T.t_LARGE_LETTERS) (pe_op op_sub (pv 0) (pe_num T.n_LARGE_A)) (fun _ _ => rfl)))) pss_nil)
  (pss_one (ps_ret (pe_item_str (pe_txt T.t_DIGITS) (pe_op op_sub (pv 0) (pe_num T.n_ZERO)) (fun _ _ => rfl)))))), ?_⟩
  have hb' : ((97 ≤ b ∧ b < 123) ∨ (65 ≤ b ∧ b < 91)) ∨ (48 ≤ b ∧ b < 58) := by
    unfold isWordB isLetterB isDigitB at hb
    simpa using hb
  have one : ∀ (n : Nat), (n : Int) = b → Q (.str ⟨#[n]⟩) H := fun n e => by
    have z : n = b.toNat := by omega
    rw [z]
    exact q
  refine ⟨_, rfl, _, _, rfl, rfl, _, rfl, ?_⟩
  by_cases c1 : (97 : Int) ≤ b
  · refine if_t (decide_eq_true c1) ?_
    have l : (b - 97).toNat < 26 := by omega
    refine ⟨_, rfl, _, _, rfl, rfl, _, _, _, rfl, rfl, by omega, by omega, ?_, cps_small ⟨_, l⟩, one _ (by simp only []; omega)⟩
    show b - 97 < ((26 : Nat) : Int)
    omega
  · refine if_f (decide_eq_false c1) ?_
    refine ⟨_, rfl, _, _, rfl, rfl, _, rfl, ?_⟩
    by_cases c2 : (65 : Int) ≤ b
    · refine if_t (decide_eq_true c2) ?_
      have l : (b - 65).toNat < 26 := by omega
      refine ⟨_, rfl, _, _, rfl, rfl, _, _, _, rfl, rfl, by omega, by omega, ?_, cps_large ⟨_, l⟩, one _ (by simp only []; omega)⟩
      show b - 65 < ((26 : Nat) : Int)
      omega
    · refine if_f (decide_eq_false c2) ?_
      have l : (b - 48).toNat < 10 := by omega
      refine ⟨_, rfl, _, _, rfl, rfl, _, _, _, rfl, rfl, by omega, by omega, ?_, cps_digit ⟨_, l⟩, one _ (by simp only []; omega)⟩
      show b - 48 < ((10 : Nat) : Int)
      omega
/-! ### tokens as objects -/
open ValayBase (Bytes PTok Tok Toks) in
def strB (b : Bytes) : Str := ⟨(b.map fun c => c.toNat).toArray⟩
open ValayBase in
def tokKind : ValayBase.Tok → Str
  | .name b => if RESERVED.contains b = true then strB b else "name"
  | .num _ => "number"
  | .sign c => chr1 c
  | .last => "end"
open ValayBase in
def tokTold : ValayBase.Tok → V
  | .name b => .str (strB b)
  | .num n => .int n
  | .sign c => .str (chr1 c)
  | .last => .str ""
def tokF (t : ValayBase.PTok) : List (Str × V) := [("kind", .str (tokKind t.tok)), ("told", tokTold t.tok), ("place", .int t.place)]
def TokAt (K : PySem.W.Frag) (H : Hp) (a : Addr) (t : ValayBase.PTok) : Prop := Ins H a (He.ga K "Token") (tokF t)
/-- __init__ of a plain class: its fields, one by one -/
def spInit (C : Addr) (n : Nat) (g : List V → List (Str × V)) : Sp := fun vs H Q _ => ∃ (p dx : Addr) (ws : List V), vs = .ref p :: ws ∧ ws.length = n ∧ H p = some (.ins C dx []) ∧
  ∀ H' : Hp, H' p = some (.ins C dx (g ws)) → (∀ b, b ≠ p → H' b = H b) → Q .non H'
theorem len_init {C : Addr} {n : Nat} {g : List V → List (Str × V)} {ps : List Str} (h : ps.length = n + 1) : Len (spInit C n g) ps := fun vs H Q E z => by
  obtain ⟨p, dx, ws, rfl, hl, _⟩ := z
  rw [h, List.length_cons, hl]
/-- a class whose instances are made so -/
theorem made {C : Addr} {n : Nat} {g : List V → List (Str × V)} {vs : List V} {H1 : Hp} {x dx : Addr} {R : Hp → Prop} (hl : vs.length = n) (nx : H1 x = none) (nd : H1 dx = none) (ne : dx ≠ x) (q : ∀ H2 : Hp, Same H1 H2 → Ins H2 x C (g vs) → R H2) :
    spInit C n g (.ref x :: vs) (upd (upd H1 dx (.own x)) x (.ins C dx [])) (fun v H2 => v = .non ∧ R H2) E0 :=
  ⟨x, dx, vs, rfl, hl, upd_same, fun H' e rest => ⟨rfl, q H' (fun b o h => by
    have hb : b ≠ x := ne_of_none h nx
    have hd : b ≠ dx := ne_of_none h nd
    rw [rest b hb, upd_ne hb, upd_ne hd]
    exact h) ⟨dx, e⟩⟩⟩
theorem ok_Token (T : Txt K mg) : MkAt P w K mg base 1 "Token" (He.ga K "Token") ["self", "kind", "told", "place"] (spInit (He.ga K "Token") 3 fun ws => [("kind", ws.getD 0 .non), ("told", ws.getD 1 .non), ("place", ws.getD 2 .non)]) := by
  refine T.i_Token.ok sc_Token_init (len_init rfl) fun f cdv A outer s H vs Q E hr h => ?_
  obtain ⟨p, dx, ws, rfl, hl, hp, q⟩ := h
  match ws, hl with
  | [k, t, pl], _ =>
    refine ⟨_, (pss_cons (ps_fl T.c_Token T.na_Token_kind (pv 0) (pv 1))
  (pss_cons (ps_fl T.c_Token T.na_Token_told (pv 0) (pv 2))
  (pss_one (ps_fl T.c_Token T.na_Token_place (pv 0) (pv 3))))), ?_⟩
    refine ⟨_, rfl, _, rfl, p, dx, _, rfl, hp, (by show 0 < 1000; decide), ?_⟩
    refine ⟨_, rfl, _, rfl, p, dx, _, rfl, upd_same, (by show 1 < 1000; decide), ?_⟩
    refine ⟨_, rfl, _, rfl, p, dx, _, rfl, upd_same, (by show 2 < 1000; decide), ?_⟩
    refine q _ upd_same fun b hb => ?_
    rw [upd_ne hb, upd_ne hb, upd_ne hb]
end
end Lv
set_option Elab.async false
set_option linter.all false
set_option maxRecDepth 100000
set_option maxHeartbeats 4000000
namespace Lv
open PySem PySem.Spec PyProof.Rows L2 TL
/-! ### texts -/
theorem tl_strB (b : ValayBase.Bytes) : tl (strB b) = b.map fun c => c.toNat := rfl
theorem strB_inj {a b : ValayBase.Bytes} (h : strB a = strB b) : a = b := by
  have e : a.map (fun c => c.toNat) = b.map fun c => c.toNat := congrArg tl h
  have : ∀ (a b : List UInt8), a.map (fun c => c.toNat) = b.map (fun c => c.toNat) → a = b := by
    intro a
    induction a with
    | nil => intro b h; cases b with | nil => rfl | cons _ _ => cases h
    | cons x a ih =>
      intro b h
      cases b with
      | nil => cases h
      | cons y b =>
        rw [List.map_cons, List.map_cons] at h
        injection h with h1 h2
        rw [UInt8.toNat_inj.mp h1, ih b h2]
  exact this a b e
theorem joinL_nil : ∀ ps : List (List Nat), joinL [] ps = ps.flatten
  | [] => rfl
  | [p] => by simp [joinL]
  | p :: q :: r => by
    rw [joinL, joinL_nil (q :: r)]
    simp
theorem join_signs {part : List Int} (hB : Bytes_ part) : Txt.join "" (part.map fun n => chr1 n.toNat) = strB (part.map toB) := by
  refine ext_tl ?_
  rw [join_eq, tl_join, tl_strB]
  have e : tl (Str.ofString "") = [] := rfl
  rw [e, joinL_nil, List.map_map, List.map_map]
  have : ∀ (l : List Int), Bytes_ l → (l.map (tl ∘ fun n => chr1 n.toNat)).flatten = l.map ((fun c => c.toNat) ∘ toB) := by
    intro l
    induction l with
    | nil => intro _; rfl
    | cons x l ih =>
      intro h
      rw [List.map_cons, List.flatten_cons, List.map_cons, ih fun n hn => h n (List.mem_cons_of_mem _ hn)]
      show [x.toNat] ++ _ = (toB x).toNat :: _
      rw [toB_nat (h x (List.mem_cons_self ..))]
      rfl
  exact this part hB
/-- the words that are no names, as texts -/
def wordsV : List V := [.str "record", .str "from", .str "to", .str "at", .str "maybe", .str "many", .str "one", .str "hot", .str "layout", .str "size", .str "of"]
theorem words_are : ValayBase.RESERVED.map (fun b => V.str (strB b)) = wordsV := by decide +kernel
theorem in_words (b : ValayBase.Bytes) : inV (.str (strB b)) wordsV = ValayBase.RESERVED.contains b := by
  rw [← words_are]
  unfold inV
  have : ∀ l : List ValayBase.Bytes, (l.map fun b => V.str (strB b)).any (fun y => eqV y (.str (strB b))) = l.contains b := by
    intro l
    induction l with
    | nil => rfl
    | cons x l ih =>
      rw [List.map_cons, List.any_cons, ih, List.contains_cons]
      congr 1
      show (strB x == strB b) = (b == x)
      rw [Bool.eq_iff_iff, beq_iff_eq, beq_iff_eq]
      exact ⟨fun h => (strB_inj h).symm, fun h => by rw [h]⟩
  exact this _
/-! ### faults as errors -/
def cFault (K : PySem.W.Frag) : Addr := He.ga K "Fault"
/-- the error that tells the fault: from the heap H on -/
def Falls (K : PySem.W.Frag) (H : Hp) (E : XK) (f : ValayBase.Fault) : Prop := ∀ (d : Addr) (H' : Hp), Same H H' → H' d = some (.xd (faultF (.int f.code) (.int f.place))) → E (.ref (cFault K)) (some d) H'
section
variable {P : Program} {w : World} {K : PySem.W.Frag} {mg : Str → Option Value} {base : Heap}
def mkTok (C : Addr) : Sp := spInit C 3 fun ws => [("kind", ws.getD 0 .non), ("told", ws.getD 1 .non), ("place", ws.getD 2 .non)]
/-- what a token's def promises of some bytes -/
def spTok (K : PySem.W.Frag) (ok : Int → Prop) : Sp := fun vs H Q E => ∃ (a : Addr) (x : Int) (r : List Int) (place : Nat), vs = [.ref a, .int place] ∧ SqL K H a ((x :: r).map V.int) ∧ Bytes_ (x :: r) ∧ (x :: r).length ≤ 8192 ∧ ok x ∧
  (isLetterB x = true → ∀ y ∈ x :: r, isWordB y = true) ∧ (isDigitB x = true → ∀ y ∈ x :: r, isDigitB y = true) ∧
  (∀ t, tokenOf (x :: r) place = .ok t → ∀ (p : Addr) (H' : Hp), H p = none → Same H H' → TokAt K H' p t → Q (.ref p) H') ∧ (∀ f, tokenOf (x :: r) place = .error f → Falls K H E f)
theorem len_tok {ok : Int → Prop} {x y : Str} : Len (spTok K ok) [x, y] := fun vs H Q E h => by
  obtain ⟨a, x, r, place, rfl, _⟩ := h
  rfl
theorem fault_at {K : PySem.W.Frag} {H : Hp} {E : XK} {f : ValayBase.Fault} {c p : Int} (h : Falls K H E f) (hc : (f.code : Int) = c) (hp : (f.place : Int) = p) (d : Addr) (nd : H d = none) : E (.ref (cFault K)) (some d) (upd H d (.xd (gFault [.int c, .int p]))) := by
  subst hc hp
  exact h d _ (same_upd nd) upd_same
theorem ok_word_token (T : Txt K mg) : FnAt P w K mg base (L2.CX P w) 3 "word_token" ["part", "place"] (spTok K fun x => isLetterB x = true) := by
  have G_Fault := ok_Fault (P := P) (w := w) (base := base) T
  have G_Token := ok_Token (P := P) (w := w) (base := base) T
  have G_sign_of := ok_sign_of (P := P) (w := w) (base := base) T
  refine T.d_word_token.okX sc_word_token len_tok fun f cdv A outer s H vs Q E hr h tk => ?_
  obtain ⟨a, x, r, place, rfl, hS, hB, hz, hx, hw, _, qO, qE⟩ := h
  have hw := hw hx
  unfold tokenOf at qO qE
  dsimp only at qO qE
  rw [if_pos hx] at qO qE
  refine ⟨_, (pss_cons (ps_if (pt_cmpR op_gt (pe_callB call_len_seq (by rfl) T.f_len PySem.boot_len (pa_cons (pv 0) pa_nil)) (pe_num T.n_LONGEST_NAME) (nomark _)) (pss_one (ps_raise rfl tk (pmk_rz G_Fault hr (by first | decide | omega) (pa_cons (pe_num T.n_NO_TOKEN) (pa_cons (pv 1) pa_nil))))) pss_nil)
  (pss_cons (ps_set (i := 2) sc_word_token.nd rfl (Or.inl rfl) (pe_join pe_str (by exact (pe_lc (own := [("byte", 3)]) (g := (gName 3)) (tt := tYes) (by rfl) sc_word_token.nd (pi_list (pv 0)) (blkOk_by (own := [("byte", 3)]) (N := ["part", "place", "word", "byte"]) (sc := defScope s_word_token) (by decide +kernel)) (fun _ _ _ _ _ => by exact (pg_name (i := 3) sc_word_token.nd rfl (Or.inl rfl))) (fun _ _ _ _ _ => pts_nil) (fun _ _ _ _ _ => by exact (pe_fn G_sign_of hr (by first | decide | omega) (pa_cons (pv 3) pa_nil)))))))
  (pss_cons (ps_if (pt_cmpR op_in_seq (pv 2) (pe_adr T.a_WORDS) (by rfl)) (pss_one (ps_ret (pe_mk G_Token hr (by first | decide | omega) (pa_cons (pv 2) (pa_cons (pv 2) (pa_cons (pv 1) pa_nil)))))) pss_nil)
  (pss_one (ps_ret (pe_mk G_Token hr (by first | decide | omega) (pa_cons pe_str (pa_cons (pv 2) (pa_cons (pv 1) pa_nil))))))))), ?_⟩
  refine ⟨_, rfl, a, _, rfl, .inl hS, _, _, rfl, rfl, _, rfl, ?_⟩
  rw [List.length_map]
  by_cases c : 16 < (x :: r).length
  · refine if_t (decide_eq_true (by omega)) ?_
    rw [if_pos c] at qE
    exact ⟨_, rfl, rfl, by decide, fault_at (qE _ rfl) rfl rfl⟩
  · refine if_f (decide_eq_false (by omega)) ?_
    rw [if_neg c] at qO
    refine ⟨⟨_, rfl⟩, _, rfl, a, rfl, ⟨_, hS⟩, fun D nD => lc_to (K := K) (a := a) (ys := (x :: r).map fun n => V.str (chr1 n.toNat)) nD hS (by simp) (fun i y z H2 hy hz2 s2 e2 => ?_) fun H2 s2 e2 => ?_⟩
    · obtain ⟨n, hn, rfl⟩ : ∃ n, (x :: r)[i]? = some n ∧ y = V.int n := by
        rw [List.getElem?_map] at hy
        cases e : (x :: r)[i]? with
        | none => rw [e] at hy; cases hy
        | some n => rw [e] at hy; exact ⟨n, rfl, (Option.some.inj hy).symm⟩
      have ez : z = V.str (chr1 n.toNat) := by
        rw [List.getElem?_map, hn] at hz2
        exact (Option.some.inj hz2).symm
      subst ez
      refine ⟨rfl, ?_⟩
      refine ⟨_, rfl, n, rfl, hw n (List.mem_of_getElem? hn), ?_⟩
      exact lc_put nD s2 e2 hz2 (by rw [List.length_map, sizeLine_eq]; omega)
    · have em : (x :: r).map (fun n => V.str (chr1 n.toNat)) = ((x :: r).map fun n => chr1 n.toNat).map V.str := by rw [List.map_map]; rfl
      rw [em] at e2
      refine ⟨_, D, _, rfl, rfl, .inl (SqL.of e2), ?_, ?_⟩
      · have : (((x :: r).map fun n => chr1 n.toNat).map (·.length)).sum = (x :: r).length := by
          have : ∀ l : List Int, ((l.map fun n => chr1 n.toNat).map (·.length)).sum = l.length := by
            intro l
            induction l with
            | nil => rfl
            | cons y l ih => rw [List.map_cons, List.map_cons, List.sum_cons, ih, List.length_cons]; show 1 + _ = _; omega
          exact this _
        rw [this]
        show _ + _ * 0 ≤ 16777216
        omega
      · rw [join_signs hB]
        refine ⟨_, rfl, _, _, rfl, .inr (T.tup_WORDS _), rfl, rfl, _, rfl, ?_⟩
        have iw : inV (.str (strB ((x :: r).map toB))) [.str "record", .str "from", .str "to", .str "at", .str "maybe", .str "many", .str "one", .str "hot", .str "layout", .str "size", .str "of"] = ValayBase.RESERVED.contains ((x :: r).map toB) := in_words _
        by_cases c2 : ValayBase.RESERVED.contains ((x :: r).map toB) = true
        · refine if_t (iw.trans c2) ?_
          refine ⟨_, rfl, _, rfl, _, rfl, fun p dx np nd ne => made rfl np nd ne fun H3 s3 h3 => ?_⟩
          refine qO _ rfl p H3 (s2.free np) (s2.trans s3) ?_
          show Ins H3 p _ [("kind", .str (if ValayBase.RESERVED.contains ((x :: r).map toB) = true then strB ((x :: r).map toB) else "name")), ("told", .str (strB ((x :: r).map toB))), ("place", .int place)]
          rw [if_pos c2]
          exact h3
        · refine if_f (iw.trans (eq_false_of_ne_true c2)) ?_
          refine ⟨_, rfl, _, rfl, fun p dx np nd ne => made rfl np nd ne fun H3 s3 h3 => ?_⟩
          refine qO _ rfl p H3 (s2.free np) (s2.trans s3) ?_
          show Ins H3 p _ [("kind", .str (if ValayBase.RESERVED.contains ((x :: r).map toB) = true then strB ((x :: r).map toB) else "name")), ("told", .str (strB ((x :: r).map toB))), ("place", .int place)]
          rw [if_neg c2]
          exact h3
theorem int_item {l : List Int} {i : Nat} {y : V} (h : (l.map V.int)[i]? = some y) : ∃ n, l[i]? = some n ∧ y = V.int n := by
  rw [List.getElem?_map] at h
  cases e : l[i]? with
  | none =>
    rw [e] at h
    cases h
  | some n =>
    rw [e] at h
    exact ⟨n, rfl, (Option.some.inj h).symm⟩
theorem decI_more {l : List Int} {i : Nat} {n : Int} (h : l[i]? = some n) : decI (l.take (i + 1)) = decI (l.take i) * 10 + n - 48 := by
  rw [← take_snoc h]
  unfold decI
  rw [List.foldl_append]
  rfl
theorem ok_number_token (T : Txt K mg) : FnAt P w K mg base (L2.CX P w) 3 "number_token" ["part", "place"] (spTok K fun x => isDigitB x = true) := by
  have G_Fault := ok_Fault (P := P) (w := w) (base := base) T
  have G_Token := ok_Token (P := P) (w := w) (base := base) T
  refine T.d_number_token.okX sc_number_token len_tok fun f cdv A outer s H vs Q E hr h tk => ?_
  obtain ⟨a, x, r, place, rfl, hS, hB, hz, hx, _, hd, qO, qE⟩ := h
  have hd := hd hx
  have nl : ¬ isLetterB x = true := by
    have := dig hx
    unfold isLetterB
    simp
    omega
  unfold tokenOf at qO qE
  dsimp only at qO qE
  rw [if_neg nl, if_pos hx] at qO qE
  refine ⟨_, (pss_cons (ps_set (i := 2) sc_number_token.nd rfl (Or.inl rfl) (pe_and (pe_cmpR op_gt (pe_callB call_len_seq (by rfl) T.f_len PySem.boot_len (pa_cons (pv 0) pa_nil)) pe_int (nomark _)) (pe_one (pe_cmpR op_eq (pe_ix ix_list (pv 0) pe_int (fun _ _ => rfl)) (pe_num T.n_ZERO) (nomark _)))))
  (pss_cons (ps_set (i := 3) sc_number_token.nd rfl (Or.inl rfl) pe_int)
  (pss_cons (ps_for (passes_of rfl) rfl (pi_list (pv 0)) (pg_name (i := 4) sc_number_token.nd rfl (Or.inl rfl)) (pss_one (ps_set (i := 3) sc_number_token.nd rfl (Or.inl rfl) (pe_op op_sub (pe_op op_add (pe_op op_mul (pv 3) pe_int) (pv 4)) (pe_num T.n_ZERO)))))
  (pss_cons (ps_if (PW.pt (pw_or (pt_val (pv 2)) (pw_or1 (pt_cmpR op_gt (pv 3) (pe_num T.n_GREATEST_NUMBER) (nomark _))))) (pss_one (ps_raise rfl tk (pmk_rz G_Fault hr (by first | decide | omega) (pa_cons (pe_num T.n_NO_TOKEN) (pa_cons (pv 1) pa_nil))))) pss_nil)
  (pss_one (ps_ret (pe_mk G_Token hr (by first | decide | omega) (pa_cons pe_str (pa_cons (pv 3) (pa_cons (pv 1) pa_nil)))))))))), ?_⟩
  have rest : ∀ nz : Bool, nz = decide (1 < (x :: r).length ∧ x = 48) → tSeq (tAsg (tC (.int 0)) (gName 3)) (tSeq (tFor (iList K (tVar 0)) (gName 4) (tAsg (tOp (rI0 fun i j => .int (i - j)) (tOp (rI0 fun i j => .int (i + j)) (tOp (rI (fun i j => (-(2 ^ 64) < i ∧ i < 2 ^ 64) ∨ (-(2 ^ 64) < j ∧ j < 2 ^ 64)) fun i j => .int (i * j)) (tVar 3) (tC (.int 10))) (tVar 4)) (tC (.int 48))) (gName 3)))
      (tSeq (tIfS (tOr (tB (tVar 2)) (tTest (tOp (rI0 fun i j => .bl (decide (j < i))) (tVar 3) (tC (.int 1000000000))))) (fun _ σ H => tRz (He.ga K "Fault") 2 gFault (tCons (tC (.int 2)) (tCons (tVar 1) tNil)) σ H fun cls d H' => E cls d H') tNext)
      (tRet (tMk (He.ga K "Token") (mkTok (He.ga K "Token")) (tCons (tC (.str "number")) (tCons (tVar 3) (tCons (tVar 1) tNil))))))) { nx := fun _ H' => Q .non H', rt := Q } [some (.ref a), some (.int place), some (.bl nz), none, none] H := by
    intro nz enz
    refine ⟨_, rfl, a, rfl, ⟨_, hS⟩, for_list (K := K) (a := a) (xs := (x :: r).map V.int) (fun i σ H' => H' = H ∧ ∃ v : Option V, σ = [some (.ref a), some (.int place), some (.bl nz), some (.int (decI ((x :: r).take i))), v]) ⟨rfl, none, rfl⟩ (fun i σ H' _ z => by obtain ⟨rfl, _⟩ := z; exact hS) ?_ ?_⟩
    · rintro i y σ H' hy ⟨rfl, v, rfl⟩
      obtain ⟨n, hn, rfl⟩ := int_item hy
      refine ⟨_, rfl, _, _, rfl, rfl, .inr ⟨by decide, by decide⟩, _, rfl, _, _, rfl, rfl, _, _, rfl, rfl, rfl, some (.int n), ?_⟩
      rw [decI_more hn]
      rfl
    · rintro σ H' ⟨rfl, v, rfl⟩
      rw [List.length_map, List.take_length]
      refine ⟨_, rfl, nz, rfl, ?_⟩
      by_cases c : (1 < (x :: r).length ∧ x = 48) ∨ 1000000000 < decI (x :: r)
      · rw [if_pos c] at qE
        have go : tRz (He.ga K "Fault") 2 gFault (tCons (tC (.int 2)) (tCons (tVar 1) tNil)) [some (.ref a), some (.int place), some (.bl nz), some (.int (decI (x :: r))), v] H' fun cls d H' => E cls d H' := ⟨_, rfl, rfl, by decide, fault_at (qE _ rfl) rfl rfl⟩
        by_cases c1 : 1 < (x :: r).length ∧ x = 48
        · exact if_t (enz.trans (decide_eq_true c1)) (if_t rfl go)
        · refine if_f (enz.trans (decide_eq_false c1)) ⟨_, rfl, _, _, rfl, rfl, _, rfl, if_t (decide_eq_true (c.resolve_left c1)) go⟩
      · rw [if_neg c] at qO
        refine if_f (enz.trans (decide_eq_false fun z => c (.inl z))) ⟨_, rfl, _, _, rfl, rfl, _, rfl, if_f (decide_eq_false fun z => c (.inr z)) ?_⟩
        refine ⟨_, rfl, _, rfl, fun p dx np nd ne => made rfl np nd ne fun H3 s3 h3 => ?_⟩
        refine qO _ rfl p H3 np s3 ?_
        have hpos : 0 ≤ decI (x :: r) := by
          rw [dec_is hd]
          omega
        show Ins H3 p _ [("kind", .str "number"), ("told", .int ((decI (x :: r)).toNat : Nat)), ("place", .int place)]
        rw [Int.toNat_of_nonneg hpos]
        exact h3
  refine ⟨_, rfl, a, _, rfl, .inl hS, _, _, rfl, rfl, _, rfl, ?_⟩
  rw [List.length_map]
  by_cases c : 1 < (x :: r).length
  · refine if_t (decide_eq_true (by omega)) ?_
    refine ⟨_, rfl, a, _, _, _, rfl, rfl, hS, atI_nat (j := 0) rfl, rfl, rest _ ?_⟩
    rw [Bool.eq_iff_iff]
    simp only [decide_eq_true_eq]
    exact ⟨fun z => ⟨c, V.int.inj z⟩, fun z => by rw [z.2]⟩
  · refine if_f (decide_eq_false (by omega)) (rest _ ?_)
    rw [eq_comm, decide_eq_false_iff_not]
    exact fun z => c z.1
end
end Lv
set_option Elab.async false
set_option linter.all false
set_option maxRecDepth 100000
set_option maxHeartbeats 4000000
namespace Lv
open PySem PySem.Spec PyProof.Rows L2 TL
section
variable {P : Program} {w : World} {K : PySem.W.Frag} {mg : Str → Option Value} {base : Heap}
theorem nonletter_digit {x : Int} (h : isDigitB x = true) : ¬ isLetterB x = true := by
  have := dig h
  unfold isLetterB
  simp
  omega
/-- the signs, as the top has them -/
def signV : List (Int × V) := [(123, .str "{"), (125, .str "}"), (44, .str ","), (59, .str ";"), (58, .str ":"), (45, .str "-"), (46, .str ".")]
theorem sign_lookup (x : Int) : signV.lookup x = if signs.contains x = true then some (.str (chr1 x.toNat)) else none := by
  have h : ∀ (k : Int) (z : Str) (l : List (Int × V)) (m : List Int), V.str z = .str (chr1 k.toNat) → List.lookup x l = (if m.contains x = true then some (.str (chr1 x.toNat)) else none) →
      List.lookup x ((k, .str z) :: l) = if (k :: m).contains x = true then some (.str (chr1 x.toNat)) else none := by
    intro k z l m e ih
    by_cases c : x = k
    · subst c
      simp [List.lookup, e]
    · have c' : (x == k) = false := by simpa using c
      rw [List.contains_cons, c', Bool.false_or, ← ih]
      simp [List.lookup, c']
  refine h _ _ _ _ rfl (h _ _ _ _ rfl (h _ _ _ _ rfl (h _ _ _ _ rfl (h _ _ _ _ rfl (h _ _ _ _ rfl (h _ _ _ _ rfl ?_))))))
  simp [List.lookup]
theorem ok_token_of (T : Txt K mg) : FnAt P w K mg base (L2.CX P w) 4 "token_of" ["part", "place"] (spTok K fun _ => True) := by
  have G_Fault := ok_Fault (P := P) (w := w) (base := base) T
  have G_Token := ok_Token (P := P) (w := w) (base := base) T
  have G_is_letter := ok_is_letter (P := P) (w := w) (base := base) T
  have G_is_digit := ok_is_digit (P := P) (w := w) (base := base) T
  have G_word_token := ok_word_token (P := P) (w := w) (base := base) T
  have G_number_token := ok_number_token (P := P) (w := w) (base := base) T
  refine T.d_token_of.okX sc_token_of len_tok fun f cdv A outer s H vs Q E hr h tk => ?_
  obtain ⟨a, x, r, place, rfl, hS, hB, hz, _, hw, hd, qO, qE⟩ := h
  refine ⟨_, (pss_cons (ps_set (i := 2) sc_token_of.nd rfl (Or.inl rfl) (pe_ix ix_list (pv 0) pe_int (fun _ _ => rfl)))
  (pss_cons (ps_if (pt_val (pe_fn G_is_letter hr (by first | decide | omega) (pa_cons (pv 2) pa_nil))) (pss_one (ps_ret (pe_fnX G_word_token hr (by first | decide | omega) tk (pa_cons (pv 0) (pa_cons (pv 1) pa_nil))))) pss_nil)
  (pss_cons (ps_if (pt_val (pe_fn G_is_digit hr (by first | decide | omega) (pa_cons (pv 2) pa_nil))) (pss_one (ps_ret (pe_fnX G_number_token hr (by first | decide | omega) tk (pa_cons (pv 0) (pa_cons (pv 1) pa_nil))))) pss_nil)
  (pss_cons (ps_if (pt_cmpR (op_in_ki T.d_SIGNS) (pv 2) (pe_adr T.a_SIGNS) (by rfl)) (pss_one (ps_ret (pe_mk G_Token hr (by first | decide | omega) (pa_cons (pe_kiget T.d_SIGNS (pe_adr T.a_SIGNS) (pv 2)) (pa_cons (pe_kiget T.d_SIGNS (pe_adr T.a_SIGNS) (pv 2)) (pa_cons (pv 1) pa_nil)))))) pss_nil)
  (pss_one (ps_raise rfl tk (pmk_rz G_Fault hr (by first | decide | omega) (pa_cons (pe_num T.n_NO_TOKEN) (pa_cons (pv 1) pa_nil))))))))), ?_⟩
  refine ⟨_, rfl, a, _, _, _, rfl, rfl, hS, atI_nat (j := 0) rfl, ?_⟩
  refine ⟨_, rfl, x, rfl, _, rfl, ?_⟩
  by_cases c1 : isLetterB x = true
  · exact if_t c1 ⟨_, rfl, _, rfl, a, x, r, place, rfl, hS, hB, hz, c1, hw, hd, qO, qE⟩
  · refine if_f (eq_false_of_ne_true c1) ⟨_, rfl, x, rfl, _, rfl, ?_⟩
    by_cases c2 : isDigitB x = true
    · exact if_t c2 ⟨_, rfl, _, rfl, a, x, r, place, rfl, hS, hB, hz, c2, hw, hd, qO, qE⟩
    · refine if_f (eq_false_of_ne_true c2) ⟨_, rfl, x, rfl, rfl, _, rfl, ?_⟩
      unfold tokenOf at qO qE
      dsimp only at qO qE
      rw [if_neg c1, if_neg c2] at qO qE
      have lk : List.lookup x [(123, V.str "{"), (125, .str "}"), (44, .str ","), (59, .str ";"), (58, .str ":"), (45, .str "-"), (46, .str ".")] = if signs.contains x = true then some (.str (chr1 x.toNat)) else none := sign_lookup x
      by_cases c : signs.contains x = true
      · rw [if_pos c] at lk qO
        refine if_t (by rw [lk]; rfl) ?_
        refine ⟨_, rfl, x, _, rfl, rfl, lk, _, rfl, x, _, rfl, rfl, lk, _, rfl, fun p dx np nd ne => made rfl np nd ne fun H3 s3 h3 => ?_⟩
        exact qO _ rfl p H3 np s3 h3
      · rw [if_neg c] at lk qE
        refine if_f (by rw [lk]; rfl) ?_
        exact ⟨_, rfl, rfl, by decide, fault_at (qE _ rfl) rfl rfl⟩
/-! ### all tokens -/
/-- addresses of tokens -/
def TokL (K : PySem.W.Frag) (H : Hp) (as : List Addr) (ts : ValayBase.Toks) : Prop := Paired (fun a t => TokAt K H a t) as ts
theorem paired_mono {α β : Type} {R S : α → β → Prop} (h : ∀ a b, R a b → S a b) {l : List α} {m : List β} (p : Paired R l m) : Paired S l m := by
  induction p with
  | nil => exact .nil
  | cons x _ ih => exact .cons (h _ _ x) ih
theorem paired_append {α β : Type} {R : α → β → Prop} {l l' : List α} {m m' : List β} (p : Paired R l m) (q : Paired R l' m') : Paired R (l ++ l') (m ++ m') := by
  induction p with
  | nil => exact q
  | cons x _ ih => exact .cons x ih
theorem TokL.same {H H' : Hp} {as : List Addr} {ts : ValayBase.Toks} (h : TokL K H as ts) (s : Same H H') : TokL K H' as ts := paired_mono (fun _ _ x => Ins.same x s) h
theorem Ins.lst {H : Hp} {a C p : Addr} {fs : List (Str × V)} {xs ys : List V} (h : Ins H a C fs) (hp : H p = some (.lst xs)) : Ins (upd H p (.lst ys)) a C fs := by
  obtain ⟨dx, h⟩ := h
  refine ⟨dx, ?_⟩
  rw [upd_ne fun z => by rw [z, hp] at h; cases h]
  exact h
theorem same_lst {H H' : Hp} {p : Addr} {o : HO} (np : H p = none) (s : Same H H') : Same H (upd H' p o) := fun b u h => by
  rw [upd_ne (ne_of_none h np)]
  exact s b u h
def spTokens (K : PySem.W.Frag) : Sp := fun vs H Q E => ∃ (a : Addr) (ns : List Int), vs = [.ref a] ∧ SqL K H a (ns.map V.int) ∧ Bytes_ ns ∧ ns.length ≤ 4096 ∧
  (∀ ts, lexFrom ns (ns.length + 1) (skipTo ns 0) = .ok ts → ∀ (p : Addr) (as : List Addr) (H' : Hp), H p = none → Same H H' → H' p = some (.lst (as.map V.ref)) → TokL K H' as ts → Q (.ref p) H') ∧
  (∀ f, lexFrom ns (ns.length + 1) (skipTo ns 0) = .error f → Falls K H E f)
theorem part_slice {ns : List Int} {j k : Nat} (h1 : j ≤ k) (h2 : k ≤ ns.length) : cutV (ns.map V.int) (some (j : Int)) (some (k : Int)) = ((ns.drop j).take (k - j)).map V.int := by
  unfold cutV
  rw [HT.sIx_nat, HT.sIx_nat, List.length_map, Nat.min_eq_left (Nat.le_trans h1 h2), Nat.min_eq_left h2, List.map_take, List.map_drop]
theorem part_cons {ns : List Int} {j : Nat} {x : Int} (hx : ns[j]? = some x) : ∃ r, partOf ns j = x :: r := by
  unfold partOf
  have g := behind_gt (ns := ns) (j := j)
  obtain ⟨k, hk⟩ : ∃ k, behindTok ns j - j = k + 1 := ⟨behindTok ns j - j - 1, by omega⟩
  rw [hk, drop_at hx, List.take_succ_cons]
  exact ⟨_, rfl⟩
/-- what the bytes of a token are -/
theorem part_all {ns : List Int} {j : Nat} {x : Int} (hx : ns[j]? = some x) : (isLetterB x = true → ∀ y ∈ partOf ns j, isWordB y = true) ∧ (isDigitB x = true → ∀ y ∈ partOf ns j, isDigitB y = true) := by
  constructor
  · intro c y hy
    unfold partOf behindTok at hy
    rw [hx] at hy
    dsimp only at hy
    rw [if_pos c] at hy
    unfold scan at hy
    rw [Nat.add_sub_cancel_left, take_tw] at hy
    exact tw_all _ _ y hy
  · intro c y hy
    unfold partOf behindTok at hy
    rw [hx] at hy
    dsimp only at hy
    rw [if_neg (nonletter_digit c), if_pos c] at hy
    unfold scan at hy
    rw [Nat.add_sub_cancel_left, take_tw] at hy
    exact tw_all _ _ y hy
def mu4 (n : Nat) : L2.St → Hp → Nat := fun σ _ => match σ with
  | [_, _, some (.int i), _] => n - i.toNat
  | _ => 0
theorem ok_tokens_of (T : Txt K mg) : FnAt P w K mg base (L2.CX P w) 5 "tokens_of" ["text"] (spTokens K) := by
  have G_Token := ok_Token (P := P) (w := w) (base := base) T
  have G_behind_blanks := ok_behind_blanks (P := P) (w := w) (base := base) T
  have G_behind_token := ok_behind_token (P := P) (w := w) (base := base) T
  have G_token_of := ok_token_of (P := P) (w := w) (base := base) T
  refine T.d_tokens_of.okX sc_tokens_of (fun vs H Q E h => by obtain ⟨a, ns, rfl, _⟩ := h; rfl) fun f cdv A outer s H vs Q E hr h tk => ?_
  obtain ⟨a, ns, rfl, hS, hB, hz, qO, qE⟩ := h
  refine ⟨_, (pss_cons (ps_set (i := 1) sc_tokens_of.nd rfl (Or.inl rfl) (pe_lst pa_nil))
  (pss_cons (ps_set (i := 2) sc_tokens_of.nd rfl (Or.inl rfl) (pe_fn G_behind_blanks hr (by first | decide | omega) (pa_cons (pv 0) (pa_cons pe_int pa_nil))))
  (pss_cons (ps_while (passes_of rfl) (pt_cmpR op_lt (pv 2) (pe_callB call_len_seq (by rfl) T.f_len PySem.boot_len (pa_cons (pv 0) pa_nil)) (nomark _)) (pss_cons (ps_set (i := 3) sc_tokens_of.nd rfl (Or.inl rfl) (pe_fn G_behind_token hr (by first | decide | omega) (pa_cons (pv 0) (pa_cons (pv 2) pa_nil))))
  (pss_cons (ps_expr (pe_bm PySem.F.plainAttrs_list PySem.F.slot_list_append PySem.F.type_list_append mt_append (pv 1) (pa_cons (pe_fnX G_token_of hr (by first | decide | omega) tk (pa_cons (pe_slice sl_list (pv 0) (po_some (pv 2)) (po_some (pv 3))) (pa_cons (pv 2) pa_nil))) pa_nil)))
  (pss_one (ps_set (i := 2) sc_tokens_of.nd rfl (Or.inl rfl) (pe_fn G_behind_blanks hr (by first | decide | omega) (pa_cons (pv 0) (pa_cons (pv 3) pa_nil))))))))
  (pss_cons (ps_expr (pe_bm PySem.F.plainAttrs_list PySem.F.slot_list_append PySem.F.type_list_append mt_append (pv 1) (pa_cons (pe_mk G_Token hr (by first | decide | omega) (pa_cons pe_str (pa_cons pe_str (pa_cons (pe_callB call_len_seq (by rfl) T.f_len PySem.boot_len (pa_cons (pv 0) pa_nil)) pa_nil)))) pa_nil)))
  (pss_one (ps_ret (pv 1))))))), ?_⟩
  refine ⟨by decide, fun p np => ?_⟩
  have s1 : Same H (upd H p (.lst [])) := same_upd np
  refine ⟨_, rfl, a, ns, 0, rfl, s1.seq hS, Nat.zero_le _, ?_⟩
  generalize hm0 : lexFrom ns (ns.length + 1) (skipTo ns 0) = goal at *
  refine while_go (fun σ H' => ∃ (j m : Nat) (v : Option V) (as : List Addr) (ts : ValayBase.Toks), σ = [some (.ref a), some (.ref p), some (.int j), v] ∧ Same H H' ∧ H' p = some (.lst (as.map V.ref)) ∧ TokL K H' as ts ∧ as.length ≤ j ∧ j ≤ ns.length ∧ ns.length < j + m ∧
    (lexFrom ns m j).map (fun l => ts ++ l) = goal) (mu4 ns.length) ⟨skipTo ns 0, ns.length + 1, none, [], [], rfl, s1, upd_same, .nil, Nat.zero_le _, skipTo_le (Nat.zero_le _), by omega, by rw [← hm0]; cases lexFrom ns (ns.length + 1) (skipTo ns 0) <;> rfl⟩ ?_
  rintro σ H' ⟨j, m, v, as, ts, rfl, sH, hp, hT, hal, hj, hm, e⟩
  refine ⟨_, rfl, _, rfl, a, _, rfl, .inl (sH.seq hS), _, _, rfl, rfl, _, rfl, ?_⟩
  rw [List.length_map]
  by_cases c : j < ns.length
  · refine if_t (decide_eq_true (by omega)) (turn_on ?_)
    obtain ⟨x, hx⟩ := get_at c
    have g := behind_gt (ns := ns) (j := j)
    have l := behind_le (ns := ns) c
    refine ⟨_, rfl, _, rfl, a, ns, j, rfl, sH.seq hS, c, ?_⟩
    refine ⟨_, rfl, .inl ⟨rfl, _, SqL.of hp⟩, _, rfl, _, rfl, _, rfl, _, rfl, _, rfl, a, _, rfl, sH.seq hS, fun q nq => ?_⟩
    rw [part_slice (by omega) l]
    obtain ⟨r, er⟩ := part_cons hx
    have s2 : Same H' (upd H' q (.lst ((x :: r).map V.int))) := same_upd nq
    have pa := part_all hx
    have hbp : Bytes_ (partOf ns j) := fun n hn => hB n (List.mem_of_mem_drop (List.mem_of_mem_take hn))
    have hlp : (partOf ns j).length ≤ ns.length := by
      unfold partOf
      rw [List.length_take, List.length_drop]
      omega
    rw [show (ns.drop j).take (behindTok ns j - j) = partOf ns j from rfl]
    cases m with
    | zero => omega
    | succ m =>
      rw [lexFrom, if_pos c] at e
      rw [er] at hbp hlp pa e ⊢
      refine ⟨_, rfl, q, x, r, j, rfl, SqL.of upd_same, hbp, by omega, trivial, pa.1, pa.2, fun t et y H3 ny s3 ht => ?_, fun f ef => ?_⟩
      · rw [et] at e
        have hp3 := s3 _ _ (s2 _ _ hp)
        refine ⟨p, _, _, rfl, rfl, hp3, ?_, ?_⟩
        · rw [List.length_map, sizeLine_eq]
          omega
        · have sp' : Same H (upd H3 p (.lst (as.map V.ref ++ [V.ref y]))) := same_lst np (sH.trans (s2.trans s3))
          refine ⟨_, rfl, _, rfl, a, ns, behindTok ns j, rfl, sp'.seq hS, l, ?_⟩
          have sg := skipTo_ge (ns := ns) (j := behindTok ns j)
          refine ⟨⟨skipTo ns (behindTok ns j), m, _, as ++ [y], ts ++ [t], rfl, sp', ?_, ?_, ?_, skipTo_le l, by omega, ?_⟩, ?_⟩
          · rw [upd_same, List.map_append]
            rfl
          · exact paired_append (paired_mono (fun _ _ z => Ins.lst (Ins.same z (s2.trans s3)) hp3) hT) (.cons (Ins.lst ht hp3) .nil)
          · rw [List.length_append, List.length_singleton]
            omega
          · rw [← e]
            cases lexFrom ns m (skipTo ns (behindTok ns j)) with
            | error z => rfl
            | ok z =>
              show Except.ok (ts ++ [t] ++ z) = Except.ok (ts ++ (t :: z))
              rw [List.append_assoc]
              rfl
          · show ns.length - ((skipTo ns (behindTok ns j) : Nat) : Int).toNat < ns.length - ((j : Nat) : Int).toNat
            omega
      · rw [ef] at e
        intro d H4 s4 hd
        exact qE f e.symm d H4 (sH.trans (s2.trans s4)) hd
  · refine if_f (decide_eq_false (by omega)) ?_
    have ej : lexFrom ns m j = .ok [⟨ns.length, .last⟩] := by
      cases m with
      | zero => rfl
      | succ m => rw [lexFrom, if_neg c]
    rw [ej] at e
    refine ⟨_, rfl, .inl ⟨rfl, _, SqL.of hp⟩, _, rfl, a, _, rfl, .inl (sH.seq hS), fun x dx nx nd ne => made rfl nx nd ne fun H3 s3 h3 => ?_⟩
    rw [List.length_map] at h3
    have hp3 := s3 _ _ hp
    refine ⟨p, _, _, rfl, rfl, hp3, ?_, ?_⟩
    · rw [List.length_map, sizeLine_eq]
      omega
    · refine ⟨_, rfl, qO _ e.symm p (as ++ [x]) _ np (same_lst np (sH.trans s3)) ?_ ?_⟩
      · rw [upd_same, List.map_append]
        rfl
      · exact paired_append (paired_mono (fun _ _ z => Ins.lst (Ins.same z s3) hp3) hT) (.cons (Ins.lst h3 hp3) .nil)
end
end Lv
set_option Elab.async false
set_option linter.all false
set_option maxRecDepth 100000
set_option maxHeartbeats 4000000
namespace Lv
open PySem PySem.Spec PyProof.Rows L2 TL
/-! ### shapes: what is made -/
section
variable {P : Program} {w : World} {K : PySem.W.Frag} {mg : Str → Option Value} {base : Heap}
def gNumber : List V → List (Str × V) := fun ws => [("first", ws.getD 0 .non), ("last", ws.getD 1 .non), ("aligned", ws.getD 2 .non)]
theorem ok_Number (T : Txt K mg) : MkAt P w K mg base 1 "Number" (He.ga K "Number") ["self", "first", "last", "aligned"] (spInit (He.ga K "Number") 3 gNumber) := by
  refine T.i_Number.ok sc_Number_init (len_init rfl) fun f cdv A outer s H vs Q E hr h => ?_
  obtain ⟨p, dx, ws, rfl, hl, hp, q⟩ := h
  match ws, hl with
  | [v0, v1, v2], _ =>
    refine ⟨_, (pss_cons (ps_fl T.c_Number T.na_Number_first (pv 0) (pv 1))
  (pss_cons (ps_fl T.c_Number T.na_Number_last (pv 0) (pv 2))
  (pss_one (ps_fl T.c_Number T.na_Number_aligned (pv 0) (pv 3))))), ?_⟩
    refine ⟨_, rfl, _, rfl, p, dx, _, rfl, hp, (by show 0 < 1000; decide), ?_⟩
    refine ⟨_, rfl, _, rfl, p, dx, _, rfl, upd_same, (by show 1 < 1000; decide), ?_⟩
    refine ⟨_, rfl, _, rfl, p, dx, _, rfl, upd_same, (by show 2 < 1000; decide), ?_⟩
    refine q _ upd_same fun b hb => ?_
    rw [upd_ne hb, upd_ne hb, upd_ne hb]

def gMaybe : List V → List (Str × V) := fun ws => [("inner", ws.getD 0 .non)]
theorem ok_Maybe (T : Txt K mg) : MkAt P w K mg base 1 "Maybe" (He.ga K "Maybe") ["self", "inner"] (spInit (He.ga K "Maybe") 1 gMaybe) := by
  refine T.i_Maybe.ok sc_Maybe_init (len_init rfl) fun f cdv A outer s H vs Q E hr h => ?_
  obtain ⟨p, dx, ws, rfl, hl, hp, q⟩ := h
  match ws, hl with
  | [v0], _ =>
    refine ⟨_, (pss_one (ps_fl T.c_Maybe T.na_Maybe_inner (pv 0) (pv 1))), ?_⟩
    refine ⟨_, rfl, _, rfl, p, dx, _, rfl, hp, (by show 0 < 1000; decide), ?_⟩
    refine q _ upd_same fun b hb => ?_
    rw [upd_ne hb]

def gMany : List V → List (Str × V) := fun ws => [("times", ws.getD 0 .non), ("inner", ws.getD 1 .non)]
theorem ok_Many (T : Txt K mg) : MkAt P w K mg base 1 "Many" (He.ga K "Many") ["self", "times", "inner"] (spInit (He.ga K "Many") 2 gMany) := by
  refine T.i_Many.ok sc_Many_init (len_init rfl) fun f cdv A outer s H vs Q E hr h => ?_
  obtain ⟨p, dx, ws, rfl, hl, hp, q⟩ := h
  match ws, hl with
  | [v0, v1], _ =>
    refine ⟨_, (pss_cons (ps_fl T.c_Many T.na_Many_times (pv 0) (pv 1))
  (pss_one (ps_fl T.c_Many T.na_Many_inner (pv 0) (pv 2)))), ?_⟩
    refine ⟨_, rfl, _, rfl, p, dx, _, rfl, hp, (by show 0 < 1000; decide), ?_⟩
    refine ⟨_, rfl, _, rfl, p, dx, _, rfl, upd_same, (by show 1 < 1000; decide), ?_⟩
    refine q _ upd_same fun b hb => ?_
    rw [upd_ne hb, upd_ne hb]

def gAlternative : List V → List (Str × V) := fun ws => [("name", ws.getD 0 .non), ("inner", ws.getD 1 .non)]
theorem ok_Alternative (T : Txt K mg) : MkAt P w K mg base 1 "Alternative" (He.ga K "Alternative") ["self", "name", "inner"] (spInit (He.ga K "Alternative") 2 gAlternative) := by
  refine T.i_Alternative.ok sc_Alternative_init (len_init rfl) fun f cdv A outer s H vs Q E hr h => ?_
  obtain ⟨p, dx, ws, rfl, hl, hp, q⟩ := h
  match ws, hl with
  | [v0, v1], _ =>
    refine ⟨_, (pss_cons (ps_fl T.c_Alternative T.na_Alternative_name (pv 0) (pv 1))
  (pss_one (ps_fl T.c_Alternative T.na_Alternative_inner (pv 0) (pv 2)))), ?_⟩
    refine ⟨_, rfl, _, rfl, p, dx, _, rfl, hp, (by show 0 < 1000; decide), ?_⟩
    refine ⟨_, rfl, _, rfl, p, dx, _, rfl, upd_same, (by show 1 < 1000; decide), ?_⟩
    refine q _ upd_same fun b hb => ?_
    rw [upd_ne hb, upd_ne hb]

def gOne : List V → List (Str × V) := fun ws => [("alternatives", ws.getD 0 .non)]
theorem ok_One (T : Txt K mg) : MkAt P w K mg base 1 "One" (He.ga K "One") ["self", "alternatives"] (spInit (He.ga K "One") 1 gOne) := by
  refine T.i_One.ok sc_One_init (len_init rfl) fun f cdv A outer s H vs Q E hr h => ?_
  obtain ⟨p, dx, ws, rfl, hl, hp, q⟩ := h
  match ws, hl with
  | [v0], _ =>
    refine ⟨_, (pss_one (ps_fl T.c_One T.na_One_alternatives (pv 0) (pv 1))), ?_⟩
    refine ⟨_, rfl, _, rfl, p, dx, _, rfl, hp, (by show 0 < 1000; decide), ?_⟩
    refine q _ upd_same fun b hb => ?_
    rw [upd_ne hb]

def gNamed : List V → List (Str × V) := fun ws => [("record", ws.getD 0 .non)]
theorem ok_Named (T : Txt K mg) : MkAt P w K mg base 1 "Named" (He.ga K "Named") ["self", "record"] (spInit (He.ga K "Named") 1 gNamed) := by
  refine T.i_Named.ok sc_Named_init (len_init rfl) fun f cdv A outer s H vs Q E hr h => ?_
  obtain ⟨p, dx, ws, rfl, hl, hp, q⟩ := h
  match ws, hl with
  | [v0], _ =>
    refine ⟨_, (pss_one (ps_fl T.c_Named T.na_Named_record (pv 0) (pv 1))), ?_⟩
    refine ⟨_, rfl, _, rfl, p, dx, _, rfl, hp, (by show 0 < 1000; decide), ?_⟩
    refine q _ upd_same fun b hb => ?_
    rw [upd_ne hb]

def gField : List V → List (Str × V) := fun ws => [("name", ws.getD 0 .non), ("inner", ws.getD 1 .non), ("hot", ws.getD 2 .non)]
theorem ok_Field (T : Txt K mg) : MkAt P w K mg base 1 "Field" (He.ga K "Field") ["self", "name", "inner", "hot"] (spInit (He.ga K "Field") 3 gField) := by
  refine T.i_Field.ok sc_Field_init (len_init rfl) fun f cdv A outer s H vs Q E hr h => ?_
  obtain ⟨p, dx, ws, rfl, hl, hp, q⟩ := h
  match ws, hl with
  | [v0, v1, v2], _ =>
    refine ⟨_, (pss_cons (ps_fl T.c_Field T.na_Field_name (pv 0) (pv 1))
  (pss_cons (ps_fl T.c_Field T.na_Field_inner (pv 0) (pv 2))
  (pss_one (ps_fl T.c_Field T.na_Field_hot (pv 0) (pv 3))))), ?_⟩
    refine ⟨_, rfl, _, rfl, p, dx, _, rfl, hp, (by show 0 < 1000; decide), ?_⟩
    refine ⟨_, rfl, _, rfl, p, dx, _, rfl, upd_same, (by show 1 < 1000; decide), ?_⟩
    refine ⟨_, rfl, _, rfl, p, dx, _, rfl, upd_same, (by show 2 < 1000; decide), ?_⟩
    refine q _ upd_same fun b hb => ?_
    rw [upd_ne hb, upd_ne hb, upd_ne hb]

def gLeaf : List V → List (Str × V) := fun ws => [("name", ws.getD 0 .non), ("least", ws.getD 1 .non), ("greatest", ws.getD 2 .non), ("kind", ws.getD 3 .non), ("aligned", ws.getD 4 .non), ("hot", ws.getD 5 .non), ("guards", ws.getD 6 .non)]
theorem ok_Leaf (T : Txt K mg) : MkAt P w K mg base 1 "Leaf" (He.ga K "Leaf") ["self", "name", "least", "greatest", "kind", "aligned", "hot", "guards"] (spInit (He.ga K "Leaf") 7 gLeaf) := by
  refine T.i_Leaf.ok sc_Leaf_init (len_init rfl) fun f cdv A outer s H vs Q E hr h => ?_
  obtain ⟨p, dx, ws, rfl, hl, hp, q⟩ := h
  match ws, hl with
  | [v0, v1, v2, v3, v4, v5, v6], _ =>
    refine ⟨_, (pss_cons (ps_fl T.c_Leaf T.na_Leaf_name (pv 0) (pv 1))
  (pss_cons (ps_fl T.c_Leaf T.na_Leaf_least (pv 0) (pv 2))
  (pss_cons (ps_fl T.c_Leaf T.na_Leaf_greatest (pv 0) (pv 3))
  (pss_cons (ps_fl T.c_Leaf T.na_Leaf_kind (pv 0) (pv 4))
  (pss_cons (ps_fl T.c_Leaf T.na_Leaf_aligned (pv 0) (pv 5))
  (pss_cons (ps_fl T.c_Leaf T.na_Leaf_hot (pv 0) (pv 6))
  (pss_one (ps_fl T.c_Leaf T.na_Leaf_guards (pv 0) (pv 7))))))))), ?_⟩
    refine ⟨_, rfl, _, rfl, p, dx, _, rfl, hp, (by show 0 < 1000; decide), ?_⟩
    refine ⟨_, rfl, _, rfl, p, dx, _, rfl, upd_same, (by show 1 < 1000; decide), ?_⟩
    refine ⟨_, rfl, _, rfl, p, dx, _, rfl, upd_same, (by show 2 < 1000; decide), ?_⟩
    refine ⟨_, rfl, _, rfl, p, dx, _, rfl, upd_same, (by show 3 < 1000; decide), ?_⟩
    refine ⟨_, rfl, _, rfl, p, dx, _, rfl, upd_same, (by show 4 < 1000; decide), ?_⟩
    refine ⟨_, rfl, _, rfl, p, dx, _, rfl, upd_same, (by show 5 < 1000; decide), ?_⟩
    refine ⟨_, rfl, _, rfl, p, dx, _, rfl, upd_same, (by show 6 < 1000; decide), ?_⟩
    refine q _ upd_same fun b hb => ?_
    rw [upd_ne hb, upd_ne hb, upd_ne hb, upd_ne hb, upd_ne hb, upd_ne hb, upd_ne hb]

end
/-! ### shapes in the heap -/
open Valaya (Ty)
abbrev cN (K : PySem.W.Frag) : Addr := He.ga K "Number"
abbrev cM (K : PySem.W.Frag) : Addr := He.ga K "Maybe"
abbrev cY (K : PySem.W.Frag) : Addr := He.ga K "Many"
abbrev cA (K : PySem.W.Frag) : Addr := He.ga K "Alternative"
abbrev cO (K : PySem.W.Frag) : Addr := He.ga K "One"
abbrev cD (K : PySem.W.Frag) : Addr := He.ga K "Named"
abbrev cF (K : PySem.W.Frag) : Addr := He.ga K "Field"
abbrev cR (K : PySem.W.Frag) : Addr := He.ga K "Record"
abbrev cL (K : PySem.W.Frag) : Addr := He.ga K "Leaf"
/-- a pair of whole numbers -/
def PairAt (K : PySem.W.Frag) (H : Hp) (a : Addr) (p : Nat × Nat) : Prop := H a = some (.tup [.int p.1, .int p.2])
/-- a leaf's guards: a tuple of pairs -/
def GuardsAt (K : PySem.W.Frag) (H : Hp) (g : Addr) (gs : List (Nat × Nat)) : Prop := ∃ as : List Addr, SqT K H g (as.map V.ref) ∧ Paired (fun a p => PairAt K H a p) as gs
def leafF (f : Valaya.Leaf) (g : Addr) : List (Str × V) := [("name", .str (strB f.name)), ("least", .int f.lo), ("greatest", .int f.hi), ("kind", .int f.kind), ("aligned", .int f.align), ("hot", .int f.hot), ("guards", .ref g)]
def LeafAt (K : PySem.W.Frag) (H : Hp) (a : Addr) (f : Valaya.Leaf) : Prop := ∃ g, Ins H a (cL K) (leafF f g) ∧ GuardsAt K H g f.guards
def LeafL (K : PySem.W.Frag) (H : Hp) (as : List Addr) (fs : List Valaya.Leaf) : Prop := Paired (fun a f => LeafAt K H a f) as fs
def recF (x : ValayBase.Bytes) (l lv pl : Addr) (tot : Int) : List (Str × V) := [("name", .str (strB x)), ("fields", .ref l), ("leaves", .ref lv), ("parts", .ref pl), ("total", .int tot)]
/-- what the fields hold -/
def InnerOf (K : PySem.W.Frag) (H : Hp) (bs cs : List Addr) : Prop := Paired (fun b c => ∃ x h, Ins H b (cF K) [("name", x), ("inner", .ref c), ("hot", h)]) bs cs
/-- how a type lies in the heap: its object; of a row (of fields | of alternatives) all objects -/
def Lays (K : PySem.W.Frag) (H : Hp) : Ty → Bool → List Addr → Prop
  | .num lo hi al, _, as => ∃ a, as = [a] ∧ Ins H a (cN K) [("first", .int lo), ("last", .int hi), ("aligned", .int al)]
  | .maybe t, _, as => ∃ a b, as = [a] ∧ Ins H a (cM K) [("inner", .ref b)] ∧ Lays K H t false [b]
  | .many n t, _, as => ∃ a b, as = [a] ∧ Ins H a (cY K) [("times", .int n), ("inner", .ref b)] ∧ Lays K H t false [b]
  | .one_ fs, _, as => ∃ a l bs, as = [a] ∧ Ins H a (cO K) [("alternatives", .ref l)] ∧ H l = some (.lst (bs.map V.ref)) ∧ Lays K H fs false bs
  | .named x t, _, as => ∃ a r l lv pl bs ls cs, as = [a] ∧ Ins H a (cD K) [("record", .ref r)] ∧ Ins H r (cR K) (recF x l lv pl (Valaya.countBy t false : Nat)) ∧ H l = some (.lst (bs.map V.ref)) ∧ Lays K H t true bs ∧ H lv = some (.lst (ls.map V.ref)) ∧ LeafL K H ls (Valaya.leavesOf t) ∧ H pl = some (.lst (cs.map V.ref)) ∧ InnerOf K H bs cs
  | .rec_ fs, _, as => Lays K H fs true as
  | .nil, _, as => as = []
  | .field x h t r, f, as => ∃ b c bs, as = b :: bs ∧ (if f = true then Ins H b (cF K) [("name", .str (strB x.name)), ("inner", .ref c), ("hot", .int h)] else Ins H b (cA K) [("name", .str (strB x.name)), ("inner", .ref c)]) ∧ Lays K H t false [c] ∧ Lays K H r f bs
/-- a record object -/
def RecAt (K : PySem.W.Frag) (H : Hp) (r : Addr) (x : ValayBase.Bytes) (t : Ty) : Prop := ∃ l lv pl bs ls cs, Ins H r (cR K) (recF x l lv pl (Valaya.countBy t false : Nat)) ∧ H l = some (.lst (bs.map V.ref)) ∧ Lays K H t true bs ∧ H lv = some (.lst (ls.map V.ref)) ∧ LeafL K H ls (Valaya.leavesOf t) ∧ H pl = some (.lst (cs.map V.ref)) ∧ InnerOf K H bs cs
/-- what a heap keeps: all lists, tuples and instances but one at r, which is of another kind -/
structure Keeps (K : PySem.W.Frag) (H H' : Hp) : Prop where
  ins : ∀ a C fs, Ins H a C fs → fs.head?.map (·.1) ≠ some "tokens" → fs.head?.map (·.1) ≠ some "numbers" → fs.head?.map (·.1) ≠ some "records" → Ins H' a C fs
  lst : ∀ a xs, H a = some (.lst xs) → H' a = some (.lst xs)
  tup : ∀ a xs, SqT K H a xs → SqT K H' a xs
  tup1 : ∀ a xs, H a = some (.tup xs) → H' a = some (.tup xs)
theorem same_keeps {K : PySem.W.Frag} {H H' : Hp} (s : Same H H') : Keeps K H H' := ⟨fun _ _ _ h _ _ _ => h.same s, fun _ _ h => s _ _ h, fun _ _ h => SqT.same s h, fun _ _ h => s _ _ h⟩
theorem GuardsAt.keeps {K : PySem.W.Frag} {H H' : Hp} {g : Addr} {gs : List (Nat × Nat)} (h : GuardsAt K H g gs) (k : Keeps K H H') : GuardsAt K H' g gs := by
  obtain ⟨as, h1, h2⟩ := h
  exact ⟨as, k.tup _ _ h1, paired_mono (fun _ _ z => k.tup1 _ _ z) h2⟩
theorem LeafAt.keeps {K : PySem.W.Frag} {H H' : Hp} {a : Addr} {f : Valaya.Leaf} (h : LeafAt K H a f) (k : Keeps K H H') : LeafAt K H' a f := by
  obtain ⟨g, h1, h2⟩ := h
  exact ⟨g, k.ins _ _ _ h1 (by simp [leafF]; decide) (by simp [leafF]; decide) (by simp [leafF]; decide), h2.keeps k⟩
theorem LeafL.keeps {K : PySem.W.Frag} {H H' : Hp} {as : List Addr} {fs : List Valaya.Leaf} (h : LeafL K H as fs) (k : Keeps K H H') : LeafL K H' as fs := paired_mono (fun _ _ z => LeafAt.keeps z k) h
theorem InnerOf.keeps {K : PySem.W.Frag} {H H' : Hp} {bs cs : List Addr} (h : InnerOf K H bs cs) (k : Keeps K H H') : InnerOf K H' bs cs := paired_mono (fun _ _ z => by
  obtain ⟨x, hh, z⟩ := z
  exact ⟨x, hh, k.ins _ _ _ z (by simp; decide) (by simp; decide) (by simp; decide)⟩) h
theorem Lays.keeps {K : PySem.W.Frag} {H H' : Hp} (k : Keeps K H H') : ∀ (t : Ty) (f : Bool) (as : List Addr), Lays K H t f as → Lays K H' t f as := by
  intro t
  induction t with
  | num lo hi al =>
    intro f as h
    obtain ⟨a, e, h1⟩ := h
    exact ⟨a, e, k.ins _ _ _ h1 (by simp; decide) (by simp; decide) (by simp; decide)⟩
  | maybe t ih =>
    intro f as h
    obtain ⟨a, b, e, h1, h2⟩ := h
    exact ⟨a, b, e, k.ins _ _ _ h1 (by simp; decide) (by simp; decide) (by simp; decide), ih _ _ h2⟩
  | many n t ih =>
    intro f as h
    obtain ⟨a, b, e, h1, h2⟩ := h
    exact ⟨a, b, e, k.ins _ _ _ h1 (by simp; decide) (by simp; decide) (by simp; decide), ih _ _ h2⟩
  | one_ fs ih =>
    intro f as h
    obtain ⟨a, l, bs, e, h1, h2, h3⟩ := h
    exact ⟨a, l, bs, e, k.ins _ _ _ h1 (by simp; decide) (by simp; decide) (by simp; decide), k.lst _ _ h2, ih _ _ h3⟩
  | named x t ih =>
    intro f as h
    obtain ⟨a, r, l, lv, pl, bs, ls, cs, e, h1, h2, h3, h4, h5, h6, h7, h8⟩ := h
    exact ⟨a, r, l, lv, pl, bs, ls, cs, e, k.ins _ _ _ h1 (by simp; decide) (by simp; decide) (by simp; decide), k.ins _ _ _ h2 (by simp [recF]; decide) (by simp [recF]; decide) (by simp [recF]; decide), k.lst _ _ h3, ih _ _ h4, k.lst _ _ h5, h6.keeps k, k.lst _ _ h7, h8.keeps k⟩
  | rec_ fs ih =>
    intro f as h
    exact ih _ _ h
  | nil =>
    intro f as h
    exact h
  | field x hh t r iht ihr =>
    intro f as h
    obtain ⟨b, c, bs, e, h1, h2, h3⟩ := h
    refine ⟨b, c, bs, e, ?_, iht _ _ h2, ihr _ _ h3⟩
    by_cases hf : f = true
    · rw [if_pos hf] at h1 ⊢
      exact k.ins _ _ _ h1 (by simp; decide) (by simp; decide) (by simp; decide)
    · rw [if_neg hf] at h1 ⊢
      exact k.ins _ _ _ h1 (by simp; decide) (by simp; decide) (by simp; decide)
theorem RecAt.keeps {K : PySem.W.Frag} {H H' : Hp} (k : Keeps K H H') {r : Addr} {x : ValayBase.Bytes} {t : Ty} (h : RecAt K H r x t) : RecAt K H' r x t := by
  obtain ⟨l, lv, pl, bs, ls, cs, h2, h3, h4, h5, h6, h7, h8⟩ := h
  exact ⟨l, lv, pl, bs, ls, cs, k.ins _ _ _ h2 (by simp [recF]; decide) (by simp [recF]; decide) (by simp [recF]; decide), k.lst _ _ h3, Lays.keeps k _ _ _ h4, k.lst _ _ h5, h6.keeps k, k.lst _ _ h7, h8.keeps k⟩
end Lv
/-! What a text's types are. -/
namespace Lv
open Valaya ValayBase
inductive Cl where
  | num | maybe | many | one | named
def clOf : Ty → Option Cl
  | .num _ _ _ => some .num
  | .maybe _ => some .maybe
  | .many _ _ => some .many
  | .one_ _ => some .one
  | .named _ _ => some .named
  | _ => none
def isRow : Ty → Bool
  | .nil => true
  | .field _ _ _ _ => true
  | _ => false
def nameOk (x : Bytes) : Prop := x ≠ [] ∧ x.length ≤ 16
def Fine : Ty → Prop
  | .num lo hi al => -1000000 ≤ lo ∧ lo ≤ hi ∧ hi ≤ 1000000 ∧ al ∈ ALIGNS
  | .maybe t => (clOf t).isSome = true ∧ Fine t
  | .many n t => 1 ≤ n ∧ n ≤ 8 ∧ (clOf t).isSome = true ∧ Fine t
  | .one_ fs => isRow fs = true ∧ 2 ≤ rowLength fs ∧ rowLength fs ≤ 4 ∧ Fine fs
  | .named x t => nameOk x ∧ (∃ fs, t = .rec_ fs) ∧ Fine t
  | .rec_ fs => isRow fs = true ∧ 1 ≤ rowLength fs ∧ Fine fs
  | .nil => True
  | .field x h t r => nameOk x.name ∧ 1 ≤ h ∧ h ≤ 1000 ∧ (clOf t).isSome = true ∧ Fine t ∧ isRow r = true ∧ Fine r
/-- the parts of a row -/
def rowL : Ty → List (PName × Nat × Ty)
  | .field x h t r => (x, h, t) :: rowL r
  | _ => []
theorem rowOf_rowL : ∀ {fs : Ty}, isRow fs = true → Fine fs → rowOf (rowL fs) = fs := by
  intro fs
  induction fs with
  | nil => intros; rfl
  | field x h t r _ ih =>
    intro _ hf
    show Ty.field x h t (rowOf (rowL r)) = _
    rw [ih hf.2.2.2.2.2.1 hf.2.2.2.2.2.2]
  | _ => intro h; cases h
theorem rowL_rowOf : ∀ l : List (PName × Nat × Ty), rowL (rowOf l) = l
  | [] => rfl
  | x :: l => by
    show (x.1, x.2.1, x.2.2) :: rowL (rowOf l) = x :: l
    rw [rowL_rowOf l]
theorem isRow_rowOf (l : List (PName × Nat × Ty)) : isRow (rowOf l) = true := by cases l <;> rfl
theorem rowLength_rowOf : ∀ l : List (PName × Nat × Ty), rowLength (rowOf l) = l.length
  | [] => rfl
  | x :: l => by
    show rowLength (rowOf l) + 1 = _
    rw [rowLength_rowOf l]
    rfl
theorem fine_rowOf : ∀ {l : List (PName × Nat × Ty)}, (∀ p ∈ l, nameOk p.1.name ∧ 1 ≤ p.2.1 ∧ p.2.1 ≤ 1000 ∧ (clOf p.2.2).isSome = true ∧ Fine p.2.2) → Fine (rowOf l)
  | [], _ => trivial
  | x :: l, h => by
    obtain ⟨a, b, c, d, e⟩ := h x (List.mem_cons_self ..)
    exact ⟨a, b, c, d, e, isRow_rowOf l, fine_rowOf fun p hp => h p (List.mem_cons_of_mem _ hp)⟩
theorem fine_rowL : ∀ {fs : Ty}, Fine fs → ∀ p ∈ rowL fs, nameOk p.1.name ∧ 1 ≤ p.2.1 ∧ p.2.1 ≤ 1000 ∧ (clOf p.2.2).isSome = true ∧ Fine p.2.2 := by
  intro fs
  induction fs with
  | field x h t r _ ih =>
    intro hf p hp
    rcases List.mem_cons.mp hp with rfl | hp
    · exact ⟨hf.1, hf.2.1, hf.2.2.1, hf.2.2.2.1, hf.2.2.2.2.1⟩
    · exact ih hf.2.2.2.2.2.2 p hp
  | _ => intro _ p hp; cases hp
theorem rowL_length : ∀ {fs : Ty}, (rowL fs).length = rowLength fs := by
  intro fs
  induction fs with
  | field x h t r _ ih => show (rowL r).length + 1 = rowLength r + 1; rw [ih]
  | _ => rfl
theorem row_of {fs : Ty} (h : isRow fs = true) (hf : Fine fs) : Row fs := by
  induction fs with
  | nil => trivial
  | field x hh t r _ ih => exact ⟨hf.1.1, ih hf.2.2.2.2.2.1 hf.2.2.2.2.2.2⟩
  | _ => cases h
theorem Fine.wf : ∀ {t : Ty}, Fine t → WF t := by
  intro t
  induction t with
  | num lo hi al => intro h; exact h.2.1
  | maybe t ih => intro h; exact ih h.2
  | many n t ih => intro h; exact ih h.2.2.2
  | one_ fs ih => intro h; exact ⟨row_of h.1 h.2.2.2, ih h.2.2.2⟩
  | named x t ih => intro h; exact ih h.2.2
  | rec_ fs ih => intro h; exact ⟨row_of h.1 h.2.2, ih h.2.2⟩
  | nil => intro _; trivial
  | field x h t r iht ihr => intro h; exact ⟨iht h.2.2.2.2.1, ihr h.2.2.2.2.2.2⟩
/-- how deep types stand one within the other -/
def dep : Ty → Nat
  | .num _ _ _ => 1
  | .maybe t => dep t + 1
  | .many _ t => dep t + 1
  | .one_ fs => dep fs + 1
  | .named _ _ => 1
  | .rec_ fs => dep fs
  | .nil => 0
  | .field _ _ t r => max (dep t) (dep r)
theorem dep_pos {t : Ty} (h : (clOf t).isSome = true) : 1 ≤ dep t := by
  cases t <;> first | (simp only [dep]; omega) | cases h
theorem dep_row {fs : Ty} : ∀ p ∈ rowL fs, dep p.2.2 ≤ dep fs := by
  induction fs with
  | field x h t r _ ih =>
    intro p hp
    simp only [dep]
    rcases List.mem_cons.mp hp with rfl | hp
    · exact Nat.le_max_left ..
    · exact Nat.le_trans (ih p hp) (Nat.le_max_right ..)
  | _ => intro p hp; cases hp
theorem leaves_pos : ∀ {t : Ty}, Fine t → (isRow t = false ∨ 1 ≤ rowLength t) → 1 ≤ countLeaves t := by
  intro t
  induction t with
  | num lo hi al => intros; exact Nat.le_refl _
  | maybe t _ => intro _ _; simp only [countLeaves]; omega
  | many n t ih =>
    intro h _
    have i := ih h.2.2.2 (.inl (by cases t <;> first | rfl | cases h.2.2.1))
    simp only [countLeaves]
    have := Nat.mul_le_mul h.1 i
    omega
  | one_ fs _ => intro _ _; simp only [countLeaves]; omega
  | named x t ih =>
    intro h _
    obtain ⟨fs, e⟩ := h.2.1
    exact ih h.2.2 (.inl (by rw [e]; rfl))
  | rec_ fs ih => intro h _; exact ih h.2.2 (.inr h.2.1)
  | nil => intro _ h; simp [isRow, rowLength] at h
  | field x hh t r iht _ =>
    intro h _
    have i := iht h.2.2.2.2.1 (.inl (by cases t <;> first | rfl | cases h.2.2.2.1))
    simp only [countLeaves]
    omega
theorem shape_row {t : Ty} (h : (clOf t).isSome = true) : isRow t = false := by cases t <;> first | rfl | cases h
theorem count_row {fs : Ty} : isRow fs = true → Fine fs → countLeaves fs = ((rowL fs).map fun p => countLeaves p.2.2).sum := by
  induction fs with
  | nil => intros; rfl
  | field x h t r _ ih =>
    intro _ hf
    show countLeaves t + countLeaves r = (countLeaves t :: (rowL r).map fun p => countLeaves p.2.2).sum
    rw [List.sum_cons, ih hf.2.2.2.2.2.1 hf.2.2.2.2.2.2]
  | _ => intro h; cases h
theorem part_le {fs : Ty} : ∀ p ∈ rowL fs, countLeaves p.2.2 ≤ countLeaves fs := by
  induction fs with
  | field x h t r _ ih =>
    intro p hp
    simp only [countLeaves]
    rcases List.mem_cons.mp hp with rfl | hp
    · exact Nat.le_add_right ..
    · exact Nat.le_trans (ih p hp) (Nat.le_add_left ..)
  | _ => intro p hp; cases hp
end Lv
set_option Elab.async false
set_option linter.all false
set_option maxRecDepth 100000
set_option maxHeartbeats 4000000
namespace Lv
open PySem PySem.Spec PyProof.Rows L2 TL
open Valaya (Ty)
/-! ### a method of one of the five classes -/
def Cl.addr (K : PySem.W.Frag) : Cl → Addr
  | .num => cN K
  | .maybe => cM K
  | .many => cY K
  | .one => cO K
  | .named => cD K
def tMeU (ad : Cl → Addr) (m : Str) (sp : Cl → Sp) (ta : TE) (t : TA) : TE := fun σ H Q => ta σ H fun x H1 => ∃ (c : Cl) (a dx : Addr) (fs : List (Str × V)), x = .ref a ∧ H1 a = some (.ins (ad c) dx fs) ∧ fs.lookup m = none ∧ t σ H1 fun vs H2 => sp c (x :: vs) H2 Q E0
section
variable {X : Cx} {k j : Nat} {m : Str} {ps : List Str} {sp : Cl → Sp} {ad : Cl → Addr} {pos apos : Pos} {o e : Expr} {es : List Expr} {ta : TE} {t : TA}
theorem pe_meU {pl : Sem Bool} (he : PE X o ta) (G : ∀ c : Cl, MeAt X.prog X.w X.K X.mg X.base CX0 k (ad c) m ps (sp c)) (hr : Room j X.A) (hk : k ≤ j) (ha : PA X (e :: es) t)
    (hst : starEach (e :: es) X.env = (false, eval e X.env) :: starEach es X.env := by rfl) (hpl : (backTo pos (starEach es X.env)).any (·.1) = false := by rfl)
    (ht : eval (.Call (.Attribute o m apos) (e :: es) [] pos) X.env = (do
      let ov ← eval o X.env
      standAt apos.atName
      let (f, first) ← holding [ov] (getMethod ov m pl)
      callWith pos f first (backTo pos (starEach (e :: es) X.env)) (backToKw pos (keywordEach [] X.env))) := by rfl) :
    PE X (.Call (.Attribute o m apos) (e :: es) [] pos) (tMeU ad m sp ta t) := by
  refine ⟨fun pins s σ H Q I h => PySem.W.methodCall_KW (pl := pl) (thn (he.run pins s σ H _ I h) fun u s1 q0 => ?_) ht⟩
  obtain ⟨x, H1, I1, rx, cl, a, dx, fs, ex, ea, l, q⟩ := q0
  obtain ⟨f, fd, c, hm, F, hb⟩ := G cl
  subst ex
  obtain rfl : u = Value.ref a := rx
  refine getmeth_ok I1 ea c hm l (PySem.W.callWith_K (first := [.ref a]) (h₀ := X.base) I.ok.mod.kin hm.kp (thn (ha.run pos pins s1 σ H1 _ I1 q) fun us s2 q1 => ?_) hst hpl)
  obtain ⟨vs, H2, I2, r, q2⟩ := q1
  exact ⟨I2.kIn, run_fnS (E := fun _ => E0) (us := .ref a :: us) (vs := .ref a :: vs) F (hr.mono hk) hb (pass00 σ) I2 (.cons rfl r) q2⟩
theorem pe_meU0 {pl : Sem Bool} (he : PE X o ta) (G : ∀ c : Cl, MeAt X.prog X.w X.K X.mg X.base CX0 k (ad c) m ps (sp c)) (hr : Room j X.A) (hk : k ≤ j)
    (ht : eval (.Call (.Attribute o m apos) [] [] pos) X.env = (do
      let ov ← eval o X.env
      standAt apos.atName
      let (f, first) ← holding [ov] (getMethod ov m pl)
      callWith pos f first (backTo pos (starEach [] X.env)) (backToKw pos (keywordEach [] X.env))) := by rfl) :
    PE X (.Call (.Attribute o m apos) [] [] pos) (tMeU ad m sp ta tNil) := by
  refine ⟨fun pins s σ H Q I h => PySem.W.methodCall_KW (pl := pl) (thn (he.run pins s σ H _ I h) fun u s1 q0 => ?_) ht⟩
  obtain ⟨x, H1, I1, rx, cl, a, dx, fs, ex, ea, l, q⟩ := q0
  obtain ⟨f, fd, c, hm, F, hb⟩ := G cl
  subst ex
  obtain rfl : u = Value.ref a := rx
  refine getmeth_ok I1 ea c hm l ?_
  exact PySem.W.callWith_K0 (first := [.ref a]) I1.kIn hm.kp (run_fnS (E := fun _ => E0) (us := [.ref a]) (vs := [.ref a]) F (hr.mono hk) hb (pass00 σ) I1 (.cons rfl .nil) q)
end
/-- what no shape has for a field -/
def shapeMeth (m : Str) : Bool := decide (m ≠ "first") && decide (m ≠ "last") && decide (m ≠ "aligned") && decide (m ≠ "inner") && decide (m ≠ "times") && decide (m ≠ "alternatives") && decide (m ≠ "record")
theorem lk_none {m k : Str} {v : V} {r : List (Str × V)} (h : m ≠ k) (hr : List.lookup m r = none) : List.lookup m ((k, v) :: r) = none := by
  have e : (m == k) = false := by simpa using h
  simp [List.lookup, e, hr]
theorem Lays.cl {K : PySem.W.Frag} {H : Hp} {t : Ty} {a : Addr} {m : Str} (h : Lays K H t false [a]) (hc : (clOf t).isSome = true) (hm : shapeMeth m = true) : ∃ (c : Cl) (dx : Addr) (fs : List (Str × V)), clOf t = some c ∧ H a = some (.ins (c.addr K) dx fs) ∧ fs.lookup m = none := by
  unfold shapeMeth at hm
  simp only [Bool.and_eq_true, decide_eq_true_eq] at hm
  obtain ⟨⟨⟨⟨⟨⟨h1, h2⟩, h3⟩, h4⟩, h5⟩, h6⟩, h7⟩ := hm
  cases t with
  | num lo hi al =>
    obtain ⟨b, e, dx, hi⟩ := h
    cases e
    exact ⟨.num, dx, _, rfl, hi, lk_none h1 (lk_none h2 (lk_none h3 rfl))⟩
  | maybe t =>
    obtain ⟨b, c, e, ⟨dx, hi⟩, _⟩ := h
    cases e
    exact ⟨.maybe, dx, _, rfl, hi, lk_none h4 rfl⟩
  | many n t =>
    obtain ⟨b, c, e, ⟨dx, hi⟩, _⟩ := h
    cases e
    exact ⟨.many, dx, _, rfl, hi, lk_none h5 (lk_none h4 rfl)⟩
  | one_ fs =>
    obtain ⟨b, l, bs, e, ⟨dx, hi⟩, _⟩ := h
    cases e
    exact ⟨.one, dx, _, rfl, hi, lk_none h6 rfl⟩
  | named x t =>
    obtain ⟨b, r, l, lv, pl, bs, ls, cs, e, ⟨dx, hi⟩, _⟩ := h
    cases e
    exact ⟨.named, dx, _, rfl, hi, lk_none h7 rfl⟩
  | _ => cases hc
/-- one item of a row -/
def ItemAt (K : PySem.W.Frag) (H : Hp) (f : Bool) (b : Addr) (p : ValayBase.PName × Nat × Ty) : Prop := ∃ c, (if f = true then Ins H b (cF K) [("name", .str (strB p.1.name)), ("inner", .ref c), ("hot", .int p.2.1)] else Ins H b (cA K) [("name", .str (strB p.1.name)), ("inner", .ref c)]) ∧ Lays K H p.2.2 false [c]
theorem Lays.row {K : PySem.W.Frag} {H : Hp} {f : Bool} : ∀ {fs : Ty} {bs : List Addr}, isRow fs = true → Fine fs → Lays K H fs f bs → Paired (fun b p => ItemAt K H f b p) bs (rowL fs) := by
  intro fs
  induction fs with
  | nil =>
    intro bs _ _ h
    have e : bs = [] := h
    subst e
    exact .nil
  | field x hh t r _ ih =>
    intro bs _ hf h
    obtain ⟨b, c, bs', e, h1, h2, h3⟩ := h
    subst e
    exact .cons ⟨c, h1, h2⟩ (ih hf.2.2.2.2.2.1 hf.2.2.2.2.2.2 h3)
  | _ => intro bs h; cases h
theorem row_lays {K : PySem.W.Frag} {H : Hp} {f : Bool} : ∀ {l : List (ValayBase.PName × Nat × Ty)} {bs : List Addr}, Paired (fun b p => ItemAt K H f b p) bs l → Lays K H (Valaya.rowOf l) f bs
  | [], _, h => by
    cases h
    rfl
  | x :: l, _, h => by
    cases h with
    | cons h1 h2 =>
      obtain ⟨c, h3, h4⟩ := h1
      exact ⟨_, c, _, rfl, h3, h4, row_lays h2⟩
theorem paired_at {α β : Type} {R : α → β → Prop} {l : List α} {m : List β} (p : Paired R l m) : ∀ {i : Nat} {a : α}, l[i]? = some a → ∃ b, m[i]? = some b ∧ R a b := by
  induction p with
  | nil => intro i a h; simp at h
  | cons x _ ih =>
    intro i a h
    cases i with
    | zero =>
      simp at h
      subst h
      exact ⟨_, rfl, x⟩
    | succ i =>
      simp at h
      obtain ⟨b, h1, h2⟩ := ih h
      exact ⟨b, by simpa using h1, h2⟩
theorem paired_len {α β : Type} {R : α → β → Prop} {l : List α} {m : List β} (p : Paired R l m) : l.length = m.length := by
  induction p with
  | nil => rfl
  | cons _ _ ih => rw [List.length_cons, List.length_cons, ih]
theorem ref_item {l : List Addr} {i : Nat} {y : V} (h : (l.map V.ref)[i]? = some y) : ∃ a, l[i]? = some a ∧ y = V.ref a := by
  rw [List.getElem?_map] at h
  cases e : l[i]? with
  | none =>
    rw [e] at h
    cases h
  | some n =>
    rw [e] at h
    exact ⟨n, rfl, (Option.some.inj h).symm⟩
section
variable {P : Program} {w : World} {K : PySem.W.Frag} {mg : Str → Option Value} {base : Heap}
/-! ### how many leaves -/
def spCount (K : PySem.W.Frag) (n : Nat) (c : Cl) : Sp := fun vs H Q _ => ∃ (a : Addr) (t : Ty), vs = [.ref a] ∧ Lays K H t false [a] ∧ Fine t ∧ clOf t = some c ∧ dep t ≤ n ∧ ∀ H', Same H H' → Q (.int (Valaya.countLeaves t : Nat)) H'
theorem len_count {n : Nat} {c : Cl} : Len (spCount K n c) ["self"] := fun vs H Q E h => by
  obtain ⟨a, t, rfl, _⟩ := h
  rfl
abbrev CntAt (P : Program) (w : World) (K : PySem.W.Frag) (mg : Str → Option Value) (base : Heap) (n : Nat) : Prop := ∀ c : Cl, MeAt P w K mg base CX0 (n + 1) (c.addr K) "leaf_count" ["self"] (spCount K n c)
theorem cnt_ask {n : Nat} {σ : L2.St} {H : Hp} {t : Ty} {a : Addr} {Q : VK} (h : Lays K H t false [a]) (hf : Fine t) (hc : (clOf t).isSome = true) (hn : dep t ≤ n) (q : ∀ H', Same H H' → Q (.int (Valaya.countLeaves t : Nat)) H') :
    ∃ (c : Cl) (a' dx : Addr) (fs : List (Str × V)), V.ref a = .ref a' ∧ H a' = some (.ins (c.addr K) dx fs) ∧ fs.lookup ("leaf_count" : Str) = none ∧ tNil σ H fun vs H2 => spCount K n c (V.ref a :: vs) H2 Q E0 := by
  obtain ⟨c, dx, fs, e1, e2, e3⟩ := h.cl hc (m := "leaf_count") (by decide)
  exact ⟨c, a, dx, fs, rfl, e2, e3, a, t, rfl, h, hf, e1, hn, q⟩
theorem ok_leaf_count (T : Txt K mg) : ∀ n : Nat, CntAt P w K mg base n := by
  intro n
  induction n with
  | zero =>
    intro c
    have no : ∀ {vs : List V} {H : Hp} {Q : VK} {E : XK}, spCount K 0 c vs H Q E → False := fun {vs H Q E} h => by
      obtain ⟨a, t, _, _, _, hc, hd, _⟩ := h
      have := dep_pos (t := t) (by rw [hc]; rfl)
      omega
    cases c with
    | num => exact T.m_Number_leaf_count.ok sc_Number_leaf_count len_count fun f cdv A outer s H vs Q E hr h => (no h).elim
    | maybe => exact T.m_Maybe_leaf_count.ok sc_Maybe_leaf_count len_count fun f cdv A outer s H vs Q E hr h => (no h).elim
    | many => exact T.m_Many_leaf_count.ok sc_Many_leaf_count len_count fun f cdv A outer s H vs Q E hr h => (no h).elim
    | one => exact T.m_One_leaf_count.ok sc_One_leaf_count len_count fun f cdv A outer s H vs Q E hr h => (no h).elim
    | named => exact T.m_Named_leaf_count.ok sc_Named_leaf_count len_count fun f cdv A outer s H vs Q E hr h => (no h).elim
  | succ n ih =>
    have G_U_leaf_count : CntAt P w K mg base n := ih
    intro c
    cases c with
    | num =>
      refine T.m_Number_leaf_count.ok sc_Number_leaf_count len_count fun f cdv A outer s H vs Q E hr h => ?_
      obtain ⟨a, t, rfl, hl, hf, hc, hd, q⟩ := h
      cases t <;> first | cases hc | skip
      exact ⟨_, (pss_one (ps_ret pe_int)), q H (Same.refl H)⟩
    | maybe =>
      refine T.m_Maybe_leaf_count.ok sc_Maybe_leaf_count len_count fun f cdv A outer s H vs Q E hr h => ?_
      obtain ⟨a, t, rfl, hl, hf, hc, hd, q⟩ := h
      cases t <;> first | cases hc | skip
      rename_i t
      obtain ⟨_, b, e, ⟨dx, h1⟩, h2⟩ := hl
      cases e
      refine ⟨_, (pss_one (ps_ret (pe_op op_add pe_int (pe_meU0 (pe_fl T.c_Maybe T.na_Maybe_inner (pv 0)) G_U_leaf_count hr (by first | decide | omega))))), ?_⟩
      refine ⟨_, rfl, a, dx, _, _, rfl, h1, rfl, cnt_ask h2 hf.2 hf.1 (by simp only [dep] at hd; omega) fun H' s' => ⟨_, _, rfl, rfl, ?_⟩⟩
      have := q H' s'
      simp only [Valaya.countLeaves, Int.natCast_add] at this
      exact this
    | many =>
      refine T.m_Many_leaf_count.ok sc_Many_leaf_count len_count fun f cdv A outer s H vs Q E hr h => ?_
      obtain ⟨a, t, rfl, hl, hf, hc, hd, q⟩ := h
      cases t <;> first | cases hc | skip
      rename_i k t
      obtain ⟨_, b, e, ⟨dx, h1⟩, h2⟩ := hl
      cases e
      refine ⟨_, (pss_one (ps_ret (pe_op op_mul (pe_fl T.c_Many T.na_Many_times (pv 0)) (pe_meU0 (pe_fl T.c_Many T.na_Many_inner (pv 0)) G_U_leaf_count hr (by first | decide | omega))))), ?_⟩
      refine ⟨_, rfl, a, dx, _, _, rfl, h1, rfl, _, rfl, a, dx, _, _, rfl, h1, rfl, cnt_ask h2 hf.2.2.2 hf.2.2.1 (by simp only [dep] at hd; omega) fun H' s' => ⟨_, _, rfl, rfl, ?_, ?_⟩⟩
      · have := hf.2.1
        exact .inl ⟨by omega, by omega⟩
      · have := q H' s'
        simp only [Valaya.countLeaves, Int.natCast_mul] at this
        exact this
    | one =>
      refine T.m_One_leaf_count.ok sc_One_leaf_count len_count fun f cdv A outer s H vs Q E hr h => ?_
      obtain ⟨a, t, rfl, hl, hf, hc, hd, q⟩ := h
      cases t <;> first | cases hc | skip
      rename_i fs
      obtain ⟨_, l, bs, e, ⟨dx, h1⟩, h2, h3⟩ := hl
      cases e
      have hrow := Lays.row hf.1 hf.2.2.2 h3
      refine ⟨_, (pss_one (ps_ret (pe_op op_add pe_int (pe_callB (cr_sum rfl) (by rfl) T.f_sum (by decide +kernel) (pa_cons (by exact (pe_lc (own := [("alternative", 1)]) (g := (gName 1)) (tt := tYes) (by rfl) sc_One_leaf_count.nd (pi_list (pe_fl T.c_One T.na_One_alternatives (pv 0))) (blkOk_by (own := [("alternative", 1)]) (N := ["self", "alternative"]) (sc := defScope s_One_leaf_count) (by decide +kernel)) (fun _ _ _ _ _ => by exact (pg_name (i := 1) sc_One_leaf_count.nd rfl (Or.inl rfl))) (fun _ _ _ _ _ => pts_nil) (fun _ _ _ _ _ => by exact (pe_meU0 (pe_fl T.c_Alternative T.na_Alternative_inner (pv 1)) G_U_leaf_count hr (by first | decide | omega))))) pa_nil))))), ?_⟩
      refine ⟨_, rfl, a, dx, _, _, rfl, h1, rfl, l, rfl, ⟨_, SqL.of h2⟩, fun D nD => lc_to (K := K) (a := l) (ys := ((rowL fs).map fun p => (Valaya.countLeaves p.2.2 : Int)).map V.int) nD (SqL.of h2) (by rw [List.length_map, List.length_map, List.length_map, paired_len hrow]) (fun i y z H2 hy hz s2 e2 => ?_) fun H2 s2 e2 => ?_⟩
      · obtain ⟨b, hb, rfl⟩ := ref_item hy
        obtain ⟨p, hp, c, hi, hli⟩ := paired_at hrow hb
        have hi' : Ins H b (cA K) [("name", .str (strB p.1.name)), ("inner", .ref c)] := by
          rw [if_neg (by decide)] at hi
          exact hi
        obtain ⟨db, hi'⟩ := hi'
        have ez : z = V.int (Valaya.countLeaves p.2.2 : Nat) := by
          rw [List.getElem?_map, List.getElem?_map, hp] at hz
          exact (Option.some.inj hz).symm
        subst ez
        have fp := fine_rowL hf.2.2.2 p (List.mem_of_getElem? hp)
        have dp := dep_row p (List.mem_of_getElem? hp)
        refine ⟨rfl, ?_⟩
        refine ⟨_, rfl, b, db, _, _, rfl, s2 _ _ hi', rfl, cnt_ask (Lays.keeps (same_keeps s2) _ _ _ hli) fp.2.2.2.2 fp.2.2.2.1 (by simp only [dep] at hd; omega) fun H4 s4 => ?_⟩
        exact lc_put nD (s2.trans s4) (s4 _ _ e2) hz (by rw [List.length_map, List.length_map, rowL_length, sizeLine_eq]; have := hf.2.2.1; omega)
      · refine ⟨D, _, rfl, SqL.of e2, _, _, rfl, rfl, ?_⟩
        have := q H2 s2
        simp only [Valaya.countLeaves, count_row hf.1 hf.2.2.2, Int.natCast_add] at this
        have es : (((rowL fs).map fun p => (Valaya.countLeaves p.2.2 : Int)).sum) = (((rowL fs).map fun p => Valaya.countLeaves p.2.2).sum : Nat) := by
          have : ∀ l : List (ValayBase.PName × Nat × Ty), ((l.map fun p => (Valaya.countLeaves p.2.2 : Int)).sum) = ((l.map fun p => Valaya.countLeaves p.2.2).sum : Nat) := by
            intro l
            induction l with
            | nil => rfl
            | cons x l ih => rw [List.map_cons, List.sum_cons, ih, List.map_cons, List.sum_cons, Int.natCast_add]
          exact this _
        rw [es]
        exact this
    | named =>
      refine T.m_Named_leaf_count.ok sc_Named_leaf_count len_count fun f cdv A outer s H vs Q E hr h => ?_
      obtain ⟨a, t, rfl, hl, hf, hc, hd, q⟩ := h
      cases t <;> first | cases hc | skip
      rename_i x t
      obtain ⟨_, r, l, lv, pl, bs, ls, cs, e, ⟨dx, h1⟩, ⟨dr, h2⟩, h3, h4, h5, h6, h7, h8⟩ := hl
      cases e
      refine ⟨_, (pss_one (ps_ret (pe_callB call_len_seq (by rfl) T.f_len PySem.boot_len (pa_cons (pe_fl T.c_Record T.na_Record_leaves (pe_fl T.c_Named T.na_Named_record (pv 0))) pa_nil)))), ?_⟩
      refine ⟨_, rfl, a, dx, _, _, rfl, h1, rfl, r, dr, _, _, rfl, h2, rfl, lv, _, rfl, .inl (SqL.of h5), ?_⟩
      have := q H (Same.refl H)
      rw [List.length_map, paired_len h6, Valaya.leavesOf, leaves_length]
      exact this
end
end Lv
set_option Elab.async false
set_option linter.all false
set_option maxRecDepth 100000
set_option maxHeartbeats 4000000
/-! Texts that are shown. -/
namespace Lv
open PySem PySem.Spec PyProof.Rows L2 TL
theorem strB_append (a b : ValayBase.Bytes) : strB (a ++ b) = strB a ++ strB b := by
  refine ext_tl ?_
  rw [tl_append, tl_strB, tl_strB, tl_strB, List.map_append]
theorem strB_length (a : ValayBase.Bytes) : (strB a).length = a.length := by
  rw [len_tl, tl_strB, List.length_map]
theorem showNat_tl (n : Nat) : (ValayBase.showNat n).map (fun c => c.toNat) = numL n := by
  unfold ValayBase.showNat numL
  rw [List.map_map]
  refine List.map_congr_left fun c hc => ?_
  have h := Nat.isDigit_of_mem_toDigits (by decide) (by decide) hc
  have : c.toNat < 256 := by
    unfold Char.isDigit at h
    simp only [Bool.and_eq_true, decide_eq_true_eq] at h
    have h2 := h.2
    have : c.val.toNat ≤ 57 := h2
    show c.val.toNat < 256
    omega
  show (UInt8.ofNat c.toNat).toNat = c.toNat
  simp [Nat.mod_eq_of_lt this]
theorem str_nat (n : Nat) : strB (ValayBase.showNat n) = Str.ofString (toString ((n : Nat) : Int)) := by
  refine ext_tl ?_
  rw [tl_strB, showNat_tl, tl_num]
theorem str_int (i : Int) : strB (ValayBase.showInt i) = Str.ofString (toString i) := by
  unfold ValayBase.showInt
  by_cases h : i < 0
  · rw [if_pos h]
    obtain ⟨m, rfl⟩ : ∃ m : Nat, i = Int.negSucc m := by
      cases i with
      | ofNat m => exact absurd h (by have : (0 : Int) ≤ Int.ofNat m := Int.natCast_nonneg m; omega)
      | negSucc m => exact ⟨m, rfl⟩
    refine ext_tl ?_
    rw [tl_strB, List.map_cons, showNat_tl]
    have e : toString (Int.negSucc m) = "-" ++ Nat.repr (m + 1) := rfl
    rw [tl_ofString, e, String.toList_append, List.map_append, Nat.toList_repr]
    rfl
  · rw [if_neg h]
    obtain ⟨m, rfl⟩ := Int.eq_ofNat_of_zero_le (by omega : 0 ≤ i)
    exact str_nat m
theorem showNat_length {n k : Nat} (hk : 0 < k) (h : n < 10 ^ k) : (ValayBase.showNat n).length ≤ k := by
  unfold ValayBase.showNat
  rw [List.length_map]
  exact (Nat.length_toDigits_le_iff (by decide) hk).mpr h
theorem showInt_length {i : Int} (h1 : -1000000 ≤ i) (h2 : i ≤ 1000000) : (ValayBase.showInt i).length ≤ 8 := by
  unfold ValayBase.showInt
  have l : (ValayBase.showNat i.natAbs).length ≤ 7 := showNat_length (by decide) (by omega)
  split
  · rw [List.length_cons]
    omega
  · omega
open Valaya in
/-- what stands behind an alternative -/
def showMore : Ty → ValayBase.Bytes
  | .nil => []
  | r => ValayBase.word ", " ++ showTy r
open Valaya in
theorem show_field (x : ValayBase.PName) (h : Nat) (t r : Ty) : showTy (.field x h t r) = x.name ++ (ValayBase.word " : " ++ (showTy t ++ showMore r)) := by
  cases r <;> rfl
open Valaya in
theorem show_length : ∀ {t : Ty}, Fine t → ((clOf t).isSome = true → (showTy t).length ≤ countLeaves t * (50 + 30 * dep t)) ∧
    (isRow t = true → ∀ d, dep t ≤ d → (showTy t).length ≤ countLeaves t * (50 + 30 * (d + 1))) := by
  intro t
  induction t with
  | num lo hi al =>
    intro h
    refine ⟨fun _ => ?_, fun z => by cases z⟩
    have l1 := showInt_length h.1 (by have := h.2.1; have := h.2.2.1; omega)
    have l2 := showInt_length (i := hi) (by have := h.2.1; have := h.1; omega) h.2.2.1
    have l3 : (ValayBase.showNat al).length ≤ 2 := by
      have := h.2.2.2
      unfold ALIGNS at this
      simp only [List.mem_cons, List.not_mem_nil, or_false] at this
      exact showNat_length (by decide) (by omega)
    simp only [showTy, List.length_append, countLeaves, dep]
    have w1 : (ValayBase.word "from ").length = 5 := rfl
    have w2 : (ValayBase.word " to ").length = 4 := rfl
    split
    · simp only [List.length_nil]
      omega
    · rw [List.length_append]
      have w3 : (ValayBase.word " at ").length = 4 := rfl
      omega
  | maybe t ih =>
    intro h
    refine ⟨fun _ => ?_, fun z => by cases z⟩
    have i := (ih h.2).1 h.1
    simp only [showTy, List.length_append, countLeaves, dep]
    have w1 : (ValayBase.word "maybe ").length = 6 := rfl
    have : (1 + countLeaves t) * (50 + 30 * (dep t + 1)) = countLeaves t * (50 + 30 * dep t) + countLeaves t * 30 + (80 + 30 * dep t) := by
      rw [Nat.add_mul, Nat.one_mul, show 50 + 30 * (dep t + 1) = (50 + 30 * dep t) + 30 by omega, Nat.mul_add]
      omega
    omega
  | many n t ih =>
    intro h
    refine ⟨fun _ => ?_, fun z => by cases z⟩
    have i := (ih h.2.2.2).1 h.2.2.1
    have p := leaves_pos h.2.2.2 (.inl (shape_row h.2.2.1))
    simp only [showTy, List.length_append, countLeaves, dep]
    have w1 : (ValayBase.word "many ").length = 5 := rfl
    have w2 : (ValayBase.word " ").length = 1 := rfl
    have l3 : (ValayBase.showNat n).length ≤ 1 := showNat_length (by decide) (by have := h.2.1; omega)
    have : countLeaves t * (50 + 30 * (dep t + 1)) ≤ n * countLeaves t * (50 + 30 * (dep t + 1)) := Nat.mul_le_mul_right _ (Nat.le_mul_of_pos_left _ h.1)
    have e : countLeaves t * (50 + 30 * (dep t + 1)) = countLeaves t * (50 + 30 * dep t) + countLeaves t * 30 := by
      rw [show 50 + 30 * (dep t + 1) = (50 + 30 * dep t) + 30 by omega, Nat.mul_add]
    omega
  | one_ fs ih =>
    intro h
    refine ⟨fun _ => ?_, fun z => by cases z⟩
    have i := (ih h.2.2.2).2 h.1 (dep fs) (Nat.le_refl _)
    simp only [showTy, List.length_append, countLeaves, dep]
    have w1 : (ValayBase.word "one { ").length = 6 := rfl
    have w2 : (ValayBase.word " }").length = 2 := rfl
    rw [Nat.add_mul]
    omega
  | named x t _ =>
    intro h
    refine ⟨fun _ => ?_, fun z => by cases z⟩
    have p := leaves_pos h.2.2 (.inl (by obtain ⟨fs, e⟩ := h.2.1; rw [e]; rfl))
    simp only [showTy, countLeaves, dep]
    have := h.1.2
    have : 1 * (50 + 30 * 1) ≤ countLeaves t * (50 + 30 * 1) := Nat.mul_le_mul_right _ p
    omega
  | rec_ fs _ => intro _; exact ⟨(fun z => by cases z), (fun z => by cases z)⟩
  | nil => intro _; exact ⟨(fun z => by cases z), (fun _ d _ => by simp [showTy])⟩
  | field x hh t r iht ihr =>
    intro h
    refine ⟨(fun z => by cases z), fun _ d hd => ?_⟩
    have i := (iht h.2.2.2.2.1).1 h.2.2.2.1
    simp only [dep] at hd
    have j := (ihr h.2.2.2.2.2.2).2 h.2.2.2.2.2.1 d (by omega)
    have p := leaves_pos h.2.2.2.2.1 (.inl (shape_row h.2.2.2.1))
    rw [show_field, List.length_append, List.length_append, List.length_append]
    simp only [countLeaves]
    have w1 : (ValayBase.word " : ").length = 3 := rfl
    have w2 : (ValayBase.word ", ").length = 2 := rfl
    have nx := h.1.2
    have e : countLeaves t * (50 + 30 * (d + 1)) = countLeaves t * (50 + 30 * d) + countLeaves t * 30 := by
      rw [show 50 + 30 * (d + 1) = (50 + 30 * d) + 30 by omega, Nat.mul_add]
    have m : countLeaves t * (50 + 30 * dep t) ≤ countLeaves t * (50 + 30 * d) := Nat.mul_le_mul_left _ (by omega)
    rw [Nat.add_mul]
    have tail : (showMore r).length ≤ 2 + (showTy r).length := by
      cases r <;> simp only [showMore, List.length_append, List.length_nil] <;> omega
    omega
end Lv
set_option Elab.async false
set_option linter.all false
set_option maxRecDepth 100000
set_option maxHeartbeats 4000000
namespace Lv
open PySem PySem.Spec PyProof.Rows L2 TL
open Valaya (Ty)
/-! ### the one form -/
theorem ip_addS {X : Cx} : PIp X .Add rAddS := fun pins s σ H x y v u Q I rx ry h => iop_add_str pins s σ H x y v u Q I rx ry h
theorem log2_small {n : Nat} (h : n ≤ 1000000) : n.log2 < 1920 := by
  by_cases z : n = 0
  · subst z
    decide
  · have := (Nat.log2_lt z (k := 20)).mpr (by omega)
    omega
theorem show_small {t : Ty} (hf : Fine t) (hc : (clOf t).isSome = true) (hd : dep t ≤ 6) (hl : Valaya.countLeaves t ≤ 24) : (Valaya.showTy t).length ≤ 5520 := by
  refine Nat.le_trans ((show_length hf).1 hc) ?_
  exact Nat.le_trans (Nat.mul_le_mul hl (show 50 + 30 * dep t ≤ 230 by omega)) (by decide)
theorem line_ge {n : Nat} (h : n ≤ 100000) : n ≤ sizeLine := by
  rw [sizeLine_eq]
  omega
section
variable {P : Program} {w : World} {K : PySem.W.Frag} {mg : Str → Option Value} {base : Heap}
def spForm (K : PySem.W.Frag) (n : Nat) (c : Cl) : Sp := fun vs H Q _ => ∃ (a : Addr) (t : Ty), vs = [.ref a] ∧ Lays K H t false [a] ∧ Fine t ∧ clOf t = some c ∧ dep t ≤ n ∧ n ≤ 6 ∧ Valaya.countLeaves t ≤ 24 ∧ ∀ H', Same H H' → Q (.str (strB (Valaya.showTy t))) H'
theorem len_form {n : Nat} {c : Cl} : Len (spForm K n c) ["self"] := fun vs H Q E h => by
  obtain ⟨a, t, rfl, _⟩ := h
  rfl
abbrev FormAt (P : Program) (w : World) (K : PySem.W.Frag) (mg : Str → Option Value) (base : Heap) (n : Nat) : Prop := ∀ c : Cl, MeAt P w K mg base CX0 (n + 1) (c.addr K) "form" ["self"] (spForm K n c)
theorem form_ask {n : Nat} {σ : L2.St} {H : Hp} {t : Ty} {a : Addr} {Q : VK} (h : Lays K H t false [a]) (hf : Fine t) (hc : (clOf t).isSome = true) (hn : dep t ≤ n) (h6 : n ≤ 6) (hl : Valaya.countLeaves t ≤ 24) (q : ∀ H', Same H H' → Q (.str (strB (Valaya.showTy t))) H') :
    ∃ (c : Cl) (a' dx : Addr) (fs : List (Str × V)), V.ref a = .ref a' ∧ H a' = some (.ins (c.addr K) dx fs) ∧ fs.lookup ("form" : Str) = none ∧ tNil σ H fun vs H2 => spForm K n c (V.ref a :: vs) H2 Q E0 := by
  obtain ⟨c, dx, fs, e1, e2, e3⟩ := h.cl hc (m := "form") (by decide)
  exact ⟨c, a, dx, fs, rfl, e2, e3, a, t, rfl, h, hf, e1, hn, h6, hl, q⟩
/-- rows with a comma between -/
theorem show_row {fs : Ty} : isRow fs = true → Fine fs → strB (Valaya.showTy fs) = Txt.join ", " ((rowL fs).map fun p => strB (p.1.name ++ (ValayBase.word " : " ++ Valaya.showTy p.2.2))) := by
  intro hr hf
  rw [join_eq]
  refine ext_tl ?_
  rw [tl_join, tl_strB, List.map_map]
  induction fs with
  | nil => rfl
  | field x h t r _ ih =>
    rw [show_field, List.map_append, List.map_append, List.map_append]
    have ih := ih hf.2.2.2.2.2.1 hf.2.2.2.2.2.2
    cases r with
    | nil =>
      show _ = tl (strB (x.name ++ (ValayBase.word " : " ++ Valaya.showTy t)))
      rw [tl_strB, List.map_append, List.map_append]
      simp [showMore]
    | field x2 h2 t2 r2 =>
      show _ = joinL (tl ", ") (tl (strB (x.name ++ (ValayBase.word " : " ++ Valaya.showTy t))) :: (rowL (.field x2 h2 t2 r2)).map _)
      show _ = tl (strB (x.name ++ (ValayBase.word " : " ++ Valaya.showTy t))) ++ (tl ", " ++ joinL (tl ", ") ((rowL (.field x2 h2 t2 r2)).map _))
      rw [← ih, tl_strB, List.map_append, List.map_append]
      have e : (showMore (.field x2 h2 t2 r2)).map (fun c => c.toNat) = tl (Str.ofString ", ") ++ (Valaya.showTy (.field x2 h2 t2 r2)).map fun c => c.toNat := by
        show (ValayBase.word ", " ++ Valaya.showTy (.field x2 h2 t2 r2)).map (fun c => c.toNat) = _
        rw [List.map_append]
        rfl
      rw [e]
      simp only [List.append_assoc]
    | _ => cases hf.2.2.2.2.2.1
  | _ => cases hr
theorem ok_form (T : Txt K mg) : ∀ n : Nat, FormAt P w K mg base n := by
  intro n
  induction n with
  | zero =>
    intro c
    have no : ∀ {vs : List V} {H : Hp} {Q : VK} {E : XK}, spForm K 0 c vs H Q E → False := fun {vs H Q E} h => by
      obtain ⟨a, t, _, _, _, hc, hd, _⟩ := h
      have := dep_pos (t := t) (by rw [hc]; rfl)
      omega
    cases c with
    | num => exact T.m_Number_form.ok sc_Number_form len_form fun f cdv A outer s H vs Q E hr h => (no h).elim
    | maybe => exact T.m_Maybe_form.ok sc_Maybe_form len_form fun f cdv A outer s H vs Q E hr h => (no h).elim
    | many => exact T.m_Many_form.ok sc_Many_form len_form fun f cdv A outer s H vs Q E hr h => (no h).elim
    | one => exact T.m_One_form.ok sc_One_form len_form fun f cdv A outer s H vs Q E hr h => (no h).elim
    | named => exact T.m_Named_form.ok sc_Named_form len_form fun f cdv A outer s H vs Q E hr h => (no h).elim
  | succ n ih =>
    have G_U_form : FormAt P w K mg base n := ih
    intro c
    cases c with
    | num =>
      refine T.m_Number_form.ok sc_Number_form len_form fun f cdv A outer s H vs Q E hr h => ?_
      obtain ⟨a, t, rfl, hl, hf, hc, hd, h6, h24, q⟩ := h
      cases t <;> first | cases hc | skip
      rename_i lo hi al
      obtain ⟨_, e, dx, h1⟩ := hl
      cases e
      have l1 := showInt_length hf.1 (by have := hf.2.1; have := hf.2.2.1; omega)
      have l2 := showInt_length (i := hi) (by have := hf.2.1; have := hf.1; omega) hf.2.2.1
      have hal : al ≤ 32 := by
        have := hf.2.2.2
        unfold Valaya.ALIGNS at this
        simp only [List.mem_cons, List.not_mem_nil, or_false] at this
        omega
      have l3 : (ValayBase.showNat al).length ≤ 2 := showNat_length (by decide) (by omega)
      have q := q H (Same.refl H)
      refine ⟨_, (pss_cons (ps_set (i := 1) sc_Number_form.nd rfl (Or.inl rfl) (pe_op op_add_str (pe_op op_add_str (pe_op op_add_str pe_str (pe_callTy call_str_int (by rfl) T.f_str (by decide +kernel) (pa_cons (pe_fl T.c_Number T.na_Number_first (pv 0)) pa_nil))) pe_str) (pe_callTy call_str_int (by rfl) T.f_str (by decide +kernel) (pa_cons (pe_fl T.c_Number T.na_Number_last (pv 0)) pa_nil))))
  (pss_cons (ps_if (pt_cmpR op_ne (pe_fl T.c_Number T.na_Number_aligned (pv 0)) pe_int (nomark _)) (pss_one (ps_aug (i := 1) sc_Number_form.nd rfl (Or.inl rfl) (pe_op op_add_str pe_str (pe_callTy call_str_int (by rfl) T.f_str (by decide +kernel) (pa_cons (pe_fl T.c_Number T.na_Number_aligned (pv 0)) pa_nil))) ip_addS)) pss_nil)
  (pss_one (ps_ret (pv 1))))), ?_⟩
      refine ⟨_, rfl, a, dx, _, _, rfl, h1, rfl, lo, rfl, log2_small (by have := hf.1; have := hf.2.1; have := hf.2.2.1; omega), _, _, rfl, rfl, ?_, ?_⟩
      · rw [← str_int, strB_length]
        exact line_ge (by show 5 + _ ≤ _; omega)
      refine ⟨_, _, rfl, rfl, ?_, ?_⟩
      · rw [← str_int, show (Str.ofString "from ") = strB (ValayBase.word "from ") from rfl, ← strB_append, strB_length, List.length_append]
        exact line_ge (by show 5 + _ + 4 ≤ _; omega)
      refine ⟨_, rfl, a, dx, _, _, rfl, h1, rfl, hi, rfl, log2_small (by have := hf.1; have := hf.2.1; have := hf.2.2.1; omega), _, _, rfl, rfl, ?_, ?_⟩
      · rw [← str_int, ← str_int, show (Str.ofString "from ") = strB (ValayBase.word "from ") from rfl, show (Str.ofString " to ") = strB (ValayBase.word " to ") from rfl, ← strB_append, ← strB_append, strB_length, strB_length, List.length_append, List.length_append]
        exact line_ge (by show 5 + _ + 4 + _ ≤ _; omega)
      have et : (Str.ofString "from " ++ Str.ofString (toString lo) ++ Str.ofString " to " ++ Str.ofString (toString hi) : Str) = strB (ValayBase.word "from " ++ (ValayBase.showInt lo ++ (ValayBase.word " to " ++ ValayBase.showInt hi))) := by
        rw [← str_int, ← str_int, show (Str.ofString "from ") = strB (ValayBase.word "from ") from rfl, show (Str.ofString " to ") = strB (ValayBase.word " to ") from rfl, ← strB_append, ← strB_append, ← strB_append]
        simp only [List.append_assoc]
      refine ⟨_, rfl, a, dx, _, _, rfl, h1, rfl, rfl, _, rfl, ?_⟩
      by_cases c1 : al = 1
      · refine if_f (by simp [c1]) ⟨_, rfl, ?_⟩
        rw [show (Str.ofString "from " ++ Str.ofString (toString lo) ++ Str.ofString " to " ++ Str.ofString (toString hi) : Str) = strB (Valaya.showTy (.num lo hi al)) by rw [et]; simp [Valaya.showTy, c1]]
        exact q
      · refine if_t (by simp; omega) ?_
        refine ⟨_, rfl, _, rfl, a, dx, _, _, rfl, h1, rfl, al, rfl, log2_small (by omega), _, _, rfl, rfl, ?_, _, _, rfl, rfl, ?_, _, rfl, ?_⟩
        · rw [← str_nat, strB_length]
          exact line_ge (by show 4 + _ ≤ _; omega)
        · rw [et, ← str_nat, show (Str.ofString " at ") = strB (ValayBase.word " at ") from rfl, ← strB_append, strB_length, strB_length, List.length_append, List.length_append, List.length_append, List.length_append]
          exact line_ge (by show 5 + (_ + (4 + _)) + (4 + _) ≤ _; omega)
        · have e2 : (Str.ofString "from " ++ Str.ofString (toString lo) ++ Str.ofString " to " ++ Str.ofString (toString hi) ++ (Str.ofString " at " ++ Str.ofString (toString (al : Int))) : Str) = strB (Valaya.showTy (.num lo hi al)) := by
            rw [et, ← str_nat, show (Str.ofString " at ") = strB (ValayBase.word " at ") from rfl, ← strB_append, ← strB_append]
            simp only [Valaya.showTy, if_neg c1, List.append_assoc]
          show Q (.str (Str.ofString "from " ++ Str.ofString (toString lo) ++ Str.ofString " to " ++ Str.ofString (toString hi) ++ (Str.ofString " at " ++ Str.ofString (toString (al : Int))) : Str)) H
          rw [e2]
          exact q
    | maybe =>
      refine T.m_Maybe_form.ok sc_Maybe_form len_form fun f cdv A outer s H vs Q E hr h => ?_
      obtain ⟨a, t, rfl, hl, hf, hc, hd, h6, h24, q⟩ := h
      cases t <;> first | cases hc | skip
      rename_i t
      obtain ⟨_, b, e, ⟨dx, h1⟩, h2⟩ := hl
      cases e
      simp only [dep] at hd
      simp only [Valaya.countLeaves] at h24
      refine ⟨_, (pss_one (ps_ret (pe_op op_add_str pe_str (pe_meU0 (pe_fl T.c_Maybe T.na_Maybe_inner (pv 0)) G_U_form hr (by first | decide | omega))))), ?_⟩
      refine ⟨_, rfl, a, dx, _, _, rfl, h1, rfl, form_ask h2 hf.2 hf.1 (by omega) (by omega) (by omega) fun H' s' => ⟨_, _, rfl, rfl, ?_, ?_⟩⟩
      · rw [strB_length]
        have := show_small hf.2 hf.1 (by omega) (by omega)
        exact line_ge (by show 6 + _ ≤ _; omega)
      · have := q H' s'
        rw [show strB (Valaya.showTy (.maybe t)) = Str.ofString "maybe " ++ strB (Valaya.showTy t) from strB_append _ _] at this
        exact this
    | many =>
      refine T.m_Many_form.ok sc_Many_form len_form fun f cdv A outer s H vs Q E hr h => ?_
      obtain ⟨a, t, rfl, hl, hf, hc, hd, h6, h24, q⟩ := h
      cases t <;> first | cases hc | skip
      rename_i k t
      obtain ⟨_, b, e, ⟨dx, h1⟩, h2⟩ := hl
      cases e
      simp only [dep] at hd
      simp only [Valaya.countLeaves] at h24
      have hk := hf.2.1
      have h24' : Valaya.countLeaves t ≤ 24 := Nat.le_trans (Nat.le_mul_of_pos_left _ hf.1) h24
      have l3 : (ValayBase.showNat k).length ≤ 1 := showNat_length (by decide) (by omega)
      refine ⟨_, (pss_one (ps_ret (pe_op op_add_str (pe_op op_add_str (pe_op op_add_str pe_str (pe_callTy call_str_int (by rfl) T.f_str (by decide +kernel) (pa_cons (pe_fl T.c_Many T.na_Many_times (pv 0)) pa_nil))) pe_str) (pe_meU0 (pe_fl T.c_Many T.na_Many_inner (pv 0)) G_U_form hr (by first | decide | omega))))), ?_⟩
      refine ⟨_, rfl, a, dx, _, _, rfl, h1, rfl, k, rfl, log2_small (by omega), _, _, rfl, rfl, ?_, _, _, rfl, rfl, ?_, _, rfl, a, dx, _, _, rfl, h1, rfl, form_ask h2 hf.2.2.2 hf.2.2.1 (by omega) (by omega) h24' fun H' s' => ⟨_, _, rfl, rfl, ?_, ?_⟩⟩
      · rw [← str_nat, strB_length]
        exact line_ge (by show 5 + _ ≤ _; omega)
      · rw [← str_nat, show (Str.ofString "many ") = strB (ValayBase.word "many ") from rfl, ← strB_append, strB_length, List.length_append]
        exact line_ge (by show 5 + _ + 1 ≤ _; omega)
      · rw [← str_nat, show (Str.ofString "many ") = strB (ValayBase.word "many ") from rfl, show (Str.ofString " ") = strB (ValayBase.word " ") from rfl, ← strB_append, ← strB_append, strB_length, strB_length, List.length_append, List.length_append]
        have := show_small hf.2.2.2 hf.2.2.1 (by omega) h24'
        exact line_ge (by show 5 + _ + 1 + _ ≤ _; omega)
      · have := q H' s'
        rw [show strB (Valaya.showTy (.many k t)) = Str.ofString "many " ++ Str.ofString (toString (k : Int)) ++ Str.ofString " " ++ strB (Valaya.showTy t) by
          rw [← str_nat, show (Str.ofString "many ") = strB (ValayBase.word "many ") from rfl, show (Str.ofString " ") = strB (ValayBase.word " ") from rfl, ← strB_append, ← strB_append, ← strB_append]
          simp only [Valaya.showTy, List.append_assoc]] at this
        exact this
    | one =>
      refine T.m_One_form.ok sc_One_form len_form fun f cdv A outer s H vs Q E hr h => ?_
      obtain ⟨a, t, rfl, hl, hf, hc, hd, h6, h24, q⟩ := h
      cases t <;> first | cases hc | skip
      rename_i fs
      obtain ⟨_, l, bs, e, ⟨dx, h1⟩, h2, h3⟩ := hl
      cases e
      have hrow := Lays.row hf.1 hf.2.2.2 h3
      have hds : dep (.one_ fs) ≤ 6 := by omega
      have big := show_small hf rfl hds h24
      simp only [dep] at hd
      have part : ∀ p ∈ rowL fs, Valaya.countLeaves p.2.2 ≤ 24 := fun p hp => by
        simp only [Valaya.countLeaves] at h24
        have := part_le p hp
        omega
      refine ⟨_, (pss_cons (ps_setLc (i := 1) (own := [("alternative", 2)]) (g := (gName 2)) (tt := tYes) (by rfl) sc_One_form.nd rfl rfl (sw_true rfl rfl rfl (by decide +kernel)) (pi_list (pe_fl T.c_One T.na_One_alternatives (pv 0))) (blkOk_by (own := [("alternative", 2)]) (N := ["self", "rows", "alternative"]) (sc := defScope s_One_form) (by decide +kernel)) (fun _ _ _ _ _ => by exact (pg_name (i := 2) sc_One_form.nd rfl (Or.inl rfl))) (fun _ _ _ _ _ => pts_nil) (fun _ _ _ _ _ => by exact (pe_op op_add_str (pe_op op_add_str (pe_fl T.c_Alternative T.na_Alternative_name (pv 2)) pe_str) (pe_meU0 (pe_fl T.c_Alternative T.na_Alternative_inner (pv 2)) G_U_form hr (by first | decide | omega)))))
  (pss_one (ps_ret (pe_op op_add_str (pe_op op_add_str pe_str (pe_join pe_str (pv 1))) pe_str)))), ?_⟩
      refine ⟨_, rfl, a, dx, _, _, rfl, h1, rfl, l, rfl, ⟨_, SqL.of h2⟩, fun D nD => lc_to (K := K) (a := l) (ys := ((rowL fs).map fun p => strB (p.1.name ++ (ValayBase.word " : " ++ Valaya.showTy p.2.2))).map V.str) nD (SqL.of h2) (by rw [List.length_map, List.length_map, List.length_map, paired_len hrow]) (fun i y z H2 hy hz s2 e2 => ?_) fun H2 s2 e2 => ?_⟩
      · obtain ⟨b, hb, rfl⟩ := ref_item hy
        obtain ⟨p, hp, c, hi, hli⟩ := paired_at hrow hb
        have hi' : Ins H b (cA K) [("name", .str (strB p.1.name)), ("inner", .ref c)] := by
          rw [if_neg (by decide)] at hi
          exact hi
        obtain ⟨db, hi'⟩ := hi'
        have hpm := List.mem_of_getElem? hp
        have ez : z = V.str (strB (p.1.name ++ (ValayBase.word " : " ++ Valaya.showTy p.2.2))) := by
          rw [List.getElem?_map, List.getElem?_map, hp] at hz
          exact (Option.some.inj hz).symm
        have fp := fine_rowL hf.2.2.2 p hpm
        have dp := dep_row p hpm
        have sm := show_small fp.2.2.2.2 fp.2.2.2.1 (by omega) (part p hpm)
        have nl := fp.1.2
        refine ⟨rfl, ?_⟩
        refine ⟨_, rfl, b, db, _, _, rfl, s2 _ _ hi', rfl, _, _, rfl, rfl, ?_, _, rfl, b, db, _, _, rfl, s2 _ _ hi', rfl, form_ask (Lays.keeps (same_keeps s2) _ _ _ hli) fp.2.2.2.2 fp.2.2.2.1 (by omega) (by omega) (part p hpm) fun H4 s4 => ⟨_, _, rfl, rfl, ?_, ?_⟩⟩
        · rw [strB_length]
          exact line_ge (by show _ + 3 ≤ _; omega)
        · rw [show (Str.ofString " : ") = strB (ValayBase.word " : ") from rfl, ← strB_append, strB_length, strB_length, List.length_append]
          exact line_ge (by show _ + 3 + _ ≤ _; omega)
        · rw [show (Str.ofString " : ") = strB (ValayBase.word " : ") from rfl, ← strB_append, ← strB_append, List.append_assoc, ← ez]
          exact lc_put nD (s2.trans s4) (s4 _ _ e2) hz (by rw [List.length_map, List.length_map, rowL_length, sizeLine_eq]; have := hf.2.2.1; omega)
      · have ej := show_row hf.1 hf.2.2.2
        have lj : ((((rowL fs).map fun p => strB (p.1.name ++ (ValayBase.word " : " ++ Valaya.showTy p.2.2))).map (·.length)).sum) ≤ 4 * 6000 := by
          have : ∀ l : List (ValayBase.PName × Nat × Ty), (∀ p ∈ l, (strB (p.1.name ++ (ValayBase.word " : " ++ Valaya.showTy p.2.2))).length ≤ 6000) → (((l.map fun p => strB (p.1.name ++ (ValayBase.word " : " ++ Valaya.showTy p.2.2))).map (·.length)).sum) ≤ l.length * 6000 := by
            intro l
            induction l with
            | nil => intro _; exact Nat.zero_le _
            | cons x l ih =>
              intro h
              rw [List.map_cons, List.map_cons, List.sum_cons, List.length_cons, Nat.succ_mul]
              have := h x (List.mem_cons_self ..)
              have := ih fun p hp => h p (List.mem_cons_of_mem _ hp)
              omega
          refine Nat.le_trans (this _ fun p hp => ?_) ?_
          · have fp := fine_rowL hf.2.2.2 p hp
            have dp := dep_row p hp
            have sm := show_small fp.2.2.2.2 fp.2.2.2.1 (by omega) (part p hp)
            have nl := fp.1.2
            rw [strB_length, List.length_append, List.length_append]
            show _ + (3 + _) ≤ _
            omega
          · rw [rowL_length]
            exact Nat.mul_le_mul_right _ hf.2.2.1
        have lr : (rowL fs).length ≤ 4 := by rw [rowL_length]; exact hf.2.2.1
        refine ⟨⟨_, rfl⟩, _, rfl, _, D, _, rfl, rfl, .inl (SqL.of e2), ?_, _, _, rfl, rfl, ?_, _, _, rfl, rfl, ?_, ?_⟩
        · rw [List.length_map]
          show _ + _ * 2 ≤ _
          omega
        · rw [← ej, strB_length]
          have : (Valaya.showTy fs).length ≤ (Valaya.showTy (.one_ fs)).length := by simp only [Valaya.showTy, List.length_append]; omega
          exact line_ge (by show 6 + _ ≤ _; omega)
        · rw [← ej, show (Str.ofString "one { ") = strB (ValayBase.word "one { ") from rfl, ← strB_append, strB_length, List.length_append]
          have : (Valaya.showTy fs).length ≤ (Valaya.showTy (.one_ fs)).length := by simp only [Valaya.showTy, List.length_append]; omega
          exact line_ge (by show 6 + _ + 2 ≤ _; omega)
        · have := q H2 s2
          rw [show strB (Valaya.showTy (.one_ fs)) = Str.ofString "one { " ++ Txt.join ", " ((rowL fs).map fun p => strB (p.1.name ++ (ValayBase.word " : " ++ Valaya.showTy p.2.2))) ++ Str.ofString " }" by
            rw [← ej, show (Str.ofString "one { ") = strB (ValayBase.word "one { ") from rfl, show (Str.ofString " }") = strB (ValayBase.word " }") from rfl, ← strB_append, ← strB_append]
            simp only [Valaya.showTy, List.append_assoc]] at this
          exact this
    | named =>
      refine T.m_Named_form.ok sc_Named_form len_form fun f cdv A outer s H vs Q E hr h => ?_
      obtain ⟨a, t, rfl, hl, hf, hc, hd, h6, h24, q⟩ := h
      cases t <;> first | cases hc | skip
      rename_i x t
      obtain ⟨_, r, l, lv, pl, bs, ls, cs, e, ⟨dx, h1⟩, ⟨dr, h2⟩, h3, h4, h5, h6', h7', h8'⟩ := hl
      cases e
      refine ⟨_, (pss_one (ps_ret (pe_fl T.c_Record T.na_Record_name (pe_fl T.c_Named T.na_Named_record (pv 0))))), ?_⟩
      exact ⟨_, rfl, a, dx, _, _, rfl, h1, rfl, r, dr, _, _, rfl, h2, rfl, q H (Same.refl H)⟩
end
end Lv
set_option Elab.async false
set_option linter.all false
set_option maxRecDepth 100000
set_option maxHeartbeats 4000000
namespace Lv
open PySem PySem.Spec PyProof.Rows L2 TL
open Valaya (Ty)
/-- what a read record is -/
structure RecFine (r : Valaya.Rec) : Prop where
  nm : nameOk r.x.name
  row : ∃ fs, r.t = .rec_ fs
  fine : Fine r.t
  dp : dep r.t ≤ 6
  lv : Valaya.countLeaves r.t ≤ 24
abbrev fLine (p : ValayBase.PName × Nat × Ty) : ValayBase.Bytes := p.1.name ++ (ValayBase.word " : " ++ (Valaya.showTy p.2.2 ++ ((if p.2.1 = 1 then [] else ValayBase.word " hot " ++ ValayBase.showNat p.2.1) ++ ValayBase.word " ;")))
theorem fLine_length {p : ValayBase.PName × Nat × Ty} (h1 : nameOk p.1.name) (h2 : p.2.1 ≤ 1000) (h3 : (Valaya.showTy p.2.2).length ≤ 5520) : (fLine p).length ≤ 5600 := by
  have l : (ValayBase.showNat p.2.1).length ≤ 4 := showNat_length (by decide) (by omega)
  have w1 : (ValayBase.word " : ").length = 3 := rfl
  have w2 : (ValayBase.word " hot ").length = 5 := rfl
  have w3 : (ValayBase.word " ;").length = 2 := rfl
  have := h1.2
  unfold fLine
  simp only [List.length_append]
  split
  · simp only [List.length_nil]
    omega
  · rw [List.length_append]
    omega
section
variable {P : Program} {w : World} {K : PySem.W.Frag} {mg : Str → Option Value} {base : Heap}
/-- a field that may be shown -/
structure FieldOk (p : ValayBase.PName × Nat × Ty) : Prop where
  nm : nameOk p.1.name
  h1 : 1 ≤ p.2.1
  h2 : p.2.1 ≤ 1000
  sh : (clOf p.2.2).isSome = true
  fine : Fine p.2.2
  dp : dep p.2.2 ≤ 6
  lv : Valaya.countLeaves p.2.2 ≤ 24
def spFieldForm (K : PySem.W.Frag) : Sp := fun vs H Q _ => ∃ (b : Addr) (p : ValayBase.PName × Nat × Ty), vs = [.ref b] ∧ ItemAt K H true b p ∧ FieldOk p ∧ ∀ H', Same H H' → Q (.str (strB (fLine p))) H'
theorem ok_Field_form (T : Txt K mg) : MeAt P w K mg base CX0 8 (cF K) "form" ["self"] (spFieldForm K) := by
  have G_U_form := ok_form (P := P) (w := w) (base := base) T 6
  refine T.m_Field_form.ok sc_Field_form (fun vs H Q E h => by obtain ⟨b, p, rfl, _⟩ := h; rfl) fun f cdv A outer s H vs Q E hr h => ?_
  obtain ⟨b, p, rfl, ⟨c, hi, hl⟩, fo, q⟩ := h
  rw [if_pos rfl] at hi
  obtain ⟨dx, hi⟩ := hi
  have sm := show_small fo.fine fo.sh fo.dp fo.lv
  have nl := fo.nm.2
  have hh := fo.h2
  have l4 : (ValayBase.showNat p.2.1).length ≤ 4 := showNat_length (by decide) (by omega)
  refine ⟨_, (pss_cons (ps_set (i := 1) sc_Field_form.nd rfl (Or.inl rfl) (pe_op op_add_str (pe_op op_add_str (pe_fl T.c_Field T.na_Field_name (pv 0)) pe_str) (pe_meU0 (pe_fl T.c_Field T.na_Field_inner (pv 0)) G_U_form hr (by first | decide | omega))))
  (pss_cons (ps_if (pt_cmpR op_ne (pe_fl T.c_Field T.na_Field_hot (pv 0)) pe_int (nomark _)) (pss_one (ps_aug (i := 1) sc_Field_form.nd rfl (Or.inl rfl) (pe_op op_add_str pe_str (pe_callTy call_str_int (by rfl) T.f_str (by decide +kernel) (pa_cons (pe_fl T.c_Field T.na_Field_hot (pv 0)) pa_nil))) ip_addS)) pss_nil)
  (pss_one (ps_ret (pe_op op_add_str (pv 1) pe_str))))), ?_⟩
  have w1 : Str.ofString " : " = strB (ValayBase.word " : ") := rfl
  have w2 : Str.ofString " hot " = strB (ValayBase.word " hot ") := rfl
  have w3 : Str.ofString " ;" = strB (ValayBase.word " ;") := rfl
  refine ⟨_, rfl, b, dx, _, _, rfl, hi, rfl, _, _, rfl, rfl, ?_, _, rfl, b, dx, _, _, rfl, hi, rfl, form_ask hl fo.fine fo.sh fo.dp (Nat.le_refl _) fo.lv fun H1 s1 => ⟨_, _, rfl, rfl, ?_, ?_⟩⟩
  · rw [strB_length]
    exact line_ge (by show _ + 3 ≤ _; omega)
  · rw [w1, ← strB_append, strB_length, strB_length, List.length_append]
    exact line_ge (by show _ + 3 + _ ≤ _; omega)
  refine ⟨_, rfl, b, dx, _, _, rfl, s1 _ _ hi, rfl, rfl, _, rfl, ?_⟩
  by_cases c1 : p.2.1 = 1
  · refine if_f (by simp [c1]) ⟨_, rfl, _, _, rfl, rfl, ?_, ?_⟩
    · rw [w1, ← strB_append, ← strB_append, strB_length, List.length_append, List.length_append]
      exact line_ge (by show _ + 3 + _ + 2 ≤ _; omega)
    · have := q H1 s1
      rw [show strB (fLine p) = strB p.1.name ++ Str.ofString " : " ++ strB (Valaya.showTy p.2.2) ++ Str.ofString " ;" by
        rw [w1, w3, ← strB_append, ← strB_append, ← strB_append]
        simp only [fLine, if_pos c1, List.append_assoc, List.nil_append]] at this
      exact this
  · refine if_t (by simp; omega) ?_
    refine ⟨_, rfl, _, rfl, b, dx, _, _, rfl, s1 _ _ hi, rfl, p.2.1, rfl, log2_small (by omega), _, _, rfl, rfl, ?_, _, _, rfl, rfl, ?_, _, rfl, _, _, rfl, rfl, ?_, ?_⟩
    · rw [← str_nat, strB_length]
      exact line_ge (by show 5 + _ ≤ _; omega)
    · rw [w1, w2, ← str_nat, ← strB_append, ← strB_append, ← strB_append, strB_length, strB_length, List.length_append, List.length_append, List.length_append]
      exact line_ge (by show _ + 3 + _ + (5 + _) ≤ _; omega)
    · rw [w1, w2, ← str_nat, ← strB_append, ← strB_append, ← strB_append, ← strB_append, strB_length, List.length_append, List.length_append, List.length_append, List.length_append]
      exact line_ge (by show _ + 3 + _ + (5 + _) + 2 ≤ _; omega)
    · have := q H1 s1
      rw [show strB (fLine p) = strB p.1.name ++ Str.ofString " : " ++ strB (Valaya.showTy p.2.2) ++ (Str.ofString " hot " ++ Str.ofString (toString (p.2.1 : Int))) ++ Str.ofString " ;" by
        rw [w1, w2, w3, ← str_nat, ← strB_append, ← strB_append, ← strB_append, ← strB_append, ← strB_append]
        simp only [fLine, if_neg c1, List.append_assoc]] at this
      exact this
/-! ### a record's lines -/
theorem rec_fields {r : Valaya.Rec} (h : RecFine r) {fs : Ty} (e : r.t = .rec_ fs) : isRow fs = true ∧ Fine fs ∧ (rowL fs).length ≤ 24 ∧ ∀ p ∈ rowL fs, FieldOk p := by
  have hf := h.fine
  have hd := h.dp
  have hl := h.lv
  rw [e] at hf hd hl
  simp only [dep, Valaya.countLeaves] at hd hl
  refine ⟨hf.1, hf.2.2, ?_, fun p hp => ?_⟩
  · have : ∀ l : List (ValayBase.PName × Nat × Ty), (∀ p ∈ l, 1 ≤ Valaya.countLeaves p.2.2) → l.length ≤ (l.map fun p => Valaya.countLeaves p.2.2).sum := by
      intro l
      induction l with
      | nil => intro _; exact Nat.le_refl _
      | cons x l ih =>
        intro h
        rw [List.map_cons, List.sum_cons, List.length_cons]
        have := h x (List.mem_cons_self ..)
        have := ih fun p hp => h p (List.mem_cons_of_mem _ hp)
        omega
    rw [count_row hf.1 hf.2.2] at hl
    refine Nat.le_trans (this _ fun p hp => ?_) hl
    have fp := fine_rowL hf.2.2 p hp
    exact leaves_pos fp.2.2.2.2 (.inl (shape_row fp.2.2.2.1))
  · have fp := fine_rowL hf.2.2 p hp
    have d1 := dep_row p hp
    have d2 := part_le p hp
    exact ⟨fp.1, fp.2.1, fp.2.2.1, fp.2.2.2.1, fp.2.2.2.2, by omega, by omega⟩
theorem show_fields {fs : Ty} : isRow fs = true → Fine fs → Valaya.showFields fs = (rowL fs).flatMap fun p => fLine p ++ [10] := by
  induction fs with
  | nil => intros; rfl
  | field x h t r _ ih =>
    intro _ hf
    show Valaya.line _ ++ Valaya.showFields r = (fLine (x, h, t) ++ [10]) ++ (rowL r).flatMap fun p => fLine p ++ [10]
    rw [ih hf.2.2.2.2.2.1 hf.2.2.2.2.2.2]
    rfl
  | _ => intro h; cases h
theorem join_empty (l : List ValayBase.Bytes) : Txt.join "" (l.map strB) = strB l.flatten := by
  rw [join_eq]
  refine ext_tl ?_
  rw [tl_join, tl_strB]
  have e : tl (Str.ofString "") = [] := rfl
  rw [e, joinL_nil, List.map_map, List.map_flatten]
  rfl
/-- the lines of a record, without their ends -/
def recLines (r : Valaya.Rec) : List ValayBase.Bytes := (ValayBase.word "record " ++ (r.x.name ++ ValayBase.word " {")) :: ((rowL (Valaya.fieldsOf r.t)).map fLine ++ [ValayBase.word "}"])
theorem shown_lines {r : Valaya.Rec} (h : RecFine r) : Valaya.shownRec r = ((recLines r).map fun b => b ++ [10]).flatten := by
  obtain ⟨fs, e⟩ := h.row
  obtain ⟨h1, h2, _, _⟩ := rec_fields h e
  unfold Valaya.shownRec recLines
  rw [e]
  show Valaya.line _ ++ (Valaya.showFields fs ++ Valaya.line _) = (((_ :: ((rowL fs).map fLine ++ [_])) : List ValayBase.Bytes).map fun b => b ++ [10]).flatten
  rw [show_fields h1 h2, List.map_cons, List.flatten_cons, List.map_append, List.flatten_append, List.map_map]
  have : (((rowL fs).map ((fun b => b ++ [10]) ∘ fLine)).flatten) = (rowL fs).flatMap fun p => fLine p ++ [10] := by
    rw [List.flatMap_def]
    rfl
  rw [this]
  simp [Valaya.line]
theorem lines_small {r : Valaya.Rec} (h : RecFine r) : (recLines r).length ≤ 26 ∧ ∀ b ∈ recLines r, b.length ≤ 5600 := by
  obtain ⟨fs, e⟩ := h.row
  obtain ⟨h1, h2, h3, h4⟩ := rec_fields h e
  have ef : Valaya.fieldsOf r.t = fs := by rw [e]; rfl
  unfold recLines
  rw [ef]
  constructor
  · rw [List.length_cons, List.length_append, List.length_map, List.length_singleton]
    omega
  · intro b hb
    rcases List.mem_cons.mp hb with rfl | hb
    · have := h.nm.2
      simp only [List.length_append]
      show 7 + (_ + 2) ≤ 5600
      omega
    · rcases List.mem_append.mp hb with hb | hb
      · obtain ⟨p, hp, rfl⟩ := List.mem_map.mp hb
        have fo := h4 p hp
        exact fLine_length fo.nm fo.h2 (show_small fo.fine fo.sh fo.dp fo.lv)
      · rw [List.mem_singleton.mp hb]
        decide
theorem sum_small {l : List ValayBase.Bytes} {m : Nat} (h : ∀ b ∈ l, b.length ≤ m) : ((l.map strB).map (·.length)).sum ≤ l.length * m := by
  induction l with
  | nil => exact Nat.zero_le _
  | cons x l ih =>
    rw [List.map_cons, List.map_cons, List.sum_cons, List.length_cons, Nat.succ_mul, strB_length]
    have := h x (List.mem_cons_self ..)
    have := ih fun p hp => h p (List.mem_cons_of_mem _ hp)
    omega
theorem flat_small {l : List ValayBase.Bytes} {m : Nat} (h : ∀ b ∈ l, b.length ≤ m) : l.flatten.length ≤ l.length * m := by
  induction l with
  | nil => exact Nat.zero_le _
  | cons x l ih =>
    rw [List.flatten_cons, List.length_append, List.length_cons, Nat.succ_mul]
    have := h x (List.mem_cons_self ..)
    have := ih fun p hp => h p (List.mem_cons_of_mem _ hp)
    omega
theorem shown_small {r : Valaya.Rec} (h : RecFine r) : (Valaya.shownRec r).length ≤ 150000 := by
  obtain ⟨h1, h2⟩ := lines_small h
  rw [shown_lines h]
  refine Nat.le_trans (flat_small (m := 5601) fun b hb => ?_) ?_
  · obtain ⟨c, hc, rfl⟩ := List.mem_map.mp hb
    have := h2 c hc
    rw [List.length_append, List.length_singleton]
    omega
  · rw [List.length_map]
    exact Nat.le_trans (Nat.mul_le_mul_right _ h1) (by decide)
def spRecForm (K : PySem.W.Frag) : Sp := fun vs H Q _ => ∃ (a : Addr) (r : Valaya.Rec), vs = [.ref a] ∧ RecAt K H a r.x.name r.t ∧ RecFine r ∧ ∀ H', Same H H' → Q (.str (strB (Valaya.shownRec r))) H'
theorem ok_Record_form (T : Txt K mg) : MeAt P w K mg base CX0 9 (cR K) "form" ["self"] (spRecForm K) := by
  have G_Field_form := ok_Field_form (P := P) (w := w) (base := base) T
  refine T.m_Record_form.ok sc_Record_form (fun vs H Q E h => by obtain ⟨b, p, rfl, _⟩ := h; rfl) fun f cdv A outer s H vs Q E hr h => ?_
  obtain ⟨a, r, rfl, ⟨l, lv, pl, bs, ls, cs, ⟨dx, h1⟩, h2, h3, h4, h5, h6, h7⟩, rf, q⟩ := h
  obtain ⟨fs, e⟩ := rf.row
  obtain ⟨f1, f2, f3, f4⟩ := rec_fields rf e
  rw [e] at h3
  have hrow := Lays.row f1 f2 h3
  have nl := rf.nm.2
  have w1 : Str.ofString "record " = strB (ValayBase.word "record ") := rfl
  have w2 : Str.ofString " {" = strB (ValayBase.word " {") := rfl
  have w3 : Str.ofString "}" = strB (ValayBase.word "}") := rfl
  have w4 : Str.ofString "\n" = strB [10] := rfl
  refine ⟨_, (pss_cons (ps_set (i := 1) sc_Record_form.nd rfl (Or.inl rfl) (pe_lst (pa_cons (pe_op op_add_str (pe_op op_add_str pe_str (pe_fl T.c_Record T.na_Record_name (pv 0))) pe_str) pa_nil)))
  (pss_cons (ps_expr (pe_bm PySem.F.plainAttrs_list PySem.F.slot_list_extend PySem.F.type_list_extend mt_extend (pv 1) (pa_cons (by exact (pe_lc (own := [("field", 2)]) (g := (gName 2)) (tt := tYes) (by rfl) sc_Record_form.nd (pi_list (pe_fl T.c_Record T.na_Record_fields (pv 0))) (blkOk_by (own := [("field", 2)]) (N := ["self", "rows", "field", "row"]) (sc := defScope s_Record_form) (by decide +kernel)) (fun _ _ _ _ _ => by exact (pg_name (i := 2) sc_Record_form.nd rfl (Or.inl rfl))) (fun _ _ _ _ _ => pts_nil) (fun _ _ _ _ _ => by exact (pe_me0 (pv 2) G_Field_form hr (by first | decide | omega))))) pa_nil)))
  (pss_cons (ps_expr (pe_bm PySem.F.plainAttrs_list PySem.F.slot_list_append PySem.F.type_list_append mt_append (pv 1) (pa_cons pe_str pa_nil)))
  (pss_one (ps_ret (pe_join pe_str (by exact (pe_lc (own := [("row", 3)]) (g := (gName 3)) (tt := tYes) (by rfl) sc_Record_form.nd (pi_list (pv 1)) (blkOk_by (own := [("row", 3)]) (N := ["self", "rows", "field", "row"]) (sc := defScope s_Record_form) (by decide +kernel)) (fun _ _ _ _ _ => by exact (pg_name (i := 3) sc_Record_form.nd rfl (Or.inl rfl))) (fun _ _ _ _ _ => pts_nil) (fun _ _ _ _ _ => by exact (pe_op op_add_str (pv 3) pe_str)))))))))), ?_⟩
  refine ⟨_, rfl, a, dx, _, _, rfl, h1, rfl, _, _, rfl, rfl, ?_, _, _, rfl, rfl, ?_, (by show 1 ≤ sizeLine; decide), fun R nR => ?_⟩
  · rw [strB_length]
    exact line_ge (by show 7 + _ ≤ _; omega)
  · rw [w1, ← strB_append, strB_length, List.length_append]
    exact line_ge (by show 7 + _ + 2 ≤ _; omega)
  rw [w1, w2, ← strB_append, ← strB_append]
  have s1 : Same H (upd H R (.lst [.str (strB (ValayBase.word "record " ++ r.x.name ++ ValayBase.word " {"))])) := same_upd nR
  generalize hH1 : upd H R (.lst [.str (strB (ValayBase.word "record " ++ r.x.name ++ ValayBase.word " {"))]) = H1 at *
  have hR1 : H1 R = some (.lst [.str (strB (ValayBase.word "record " ++ r.x.name ++ ValayBase.word " {"))]) := by rw [← hH1]; exact upd_same
  refine ⟨_, rfl, .inl ⟨rfl, _, SqL.of hR1⟩, _, rfl, a, dx, _, _, rfl, s1 _ _ h1, rfl, l, rfl, ⟨_, SqL.of (s1 _ _ h2)⟩, fun D nD => lc_to (K := K) (a := l) (ys := ((rowL fs).map fun p => strB (fLine p)).map V.str) nD (SqL.of (s1 _ _ h2)) (by rw [List.length_map, List.length_map, List.length_map, paired_len hrow]) (fun i y z H2 hy hz s2 e2 => ?_) fun H2 s2 e2 => ?_⟩
  · obtain ⟨b, hb, rfl⟩ := ref_item hy
    obtain ⟨p, hp, it⟩ := paired_at hrow hb
    have hpm := List.mem_of_getElem? hp
    have ez : z = V.str (strB (fLine p)) := by
      rw [List.getElem?_map, List.getElem?_map, hp] at hz
      exact (Option.some.inj hz).symm
    have it2 : ItemAt K H2 true b p := by
      obtain ⟨c, hi, hl⟩ := it
      refine ⟨c, ?_, Lays.keeps (same_keeps (s1.trans s2)) _ _ _ hl⟩
      rw [if_pos rfl] at hi ⊢
      exact hi.same (s1.trans s2)
    have it3 := it2
    obtain ⟨c, hi, hl⟩ := it3
    rw [if_pos rfl] at hi
    obtain ⟨db, hi⟩ := hi
    refine ⟨rfl, ?_⟩
    refine ⟨_, rfl, b, db, _, rfl, hi, rfl, b, p, rfl, it2, f4 p hpm, fun H4 s4 => ?_⟩
    rw [← ez]
    exact lc_put nD (s2.trans s4) (s4 _ _ e2) hz (by rw [List.length_map, List.length_map, sizeLine_eq]; omega)
  · have hR2 := s2 _ _ hR1
    refine ⟨R, D, _, _, rfl, rfl, hR2, e2, ?_, ?_⟩
    · rw [List.length_map, List.length_map, sizeLine_eq]
      show 1 + _ ≤ _
      omega
    · have sH2 : Same H (upd H2 R (.lst ([V.str (strB (ValayBase.word "record " ++ r.x.name ++ ValayBase.word " {"))] ++ ((rowL fs).map fun p => strB (fLine p)).map V.str))) := same_lst nR (s1.trans s2)
      generalize hH3 : upd H2 R (.lst ([V.str (strB (ValayBase.word "record " ++ r.x.name ++ ValayBase.word " {"))] ++ ((rowL fs).map fun p => strB (fLine p)).map V.str)) = H3 at *
      have hR3 : H3 R = some (.lst ([V.str (strB (ValayBase.word "record " ++ r.x.name ++ ValayBase.word " {"))] ++ ((rowL fs).map fun p => strB (fLine p)).map V.str)) := by rw [← hH3]; exact upd_same
      refine ⟨_, rfl, .inl ⟨rfl, _, SqL.of hR3⟩, R, _, _, rfl, rfl, hR3, ?_, ?_⟩
      · rw [List.length_append, List.length_map, List.length_map, sizeLine_eq]
        show 1 + _ < _
        omega
      · have el : [V.str (strB (ValayBase.word "record " ++ r.x.name ++ ValayBase.word " {"))] ++ ((rowL fs).map fun p => strB (fLine p)).map V.str ++ [V.str (Str.ofString "}")] = ((recLines r).map strB).map V.str := by
          unfold recLines
          rw [show Valaya.fieldsOf r.t = fs by rw [e]; rfl, w3]
          simp [List.map_map, Function.comp_def, List.append_assoc]
        rw [el]
        have sH4 : Same H (upd H3 R (.lst (((recLines r).map strB).map V.str))) := same_lst nR sH2
        generalize hH4 : upd H3 R (.lst (((recLines r).map strB).map V.str)) = H4 at *
        have hR4 : H4 R = some (.lst (((recLines r).map strB).map V.str)) := by rw [← hH4]; exact upd_same
        obtain ⟨n1, n2⟩ := lines_small rf
        refine ⟨⟨_, rfl⟩, _, rfl, R, rfl, ⟨_, SqL.of hR4⟩, fun D2 nD2 => lc_to (K := K) (a := R) (ys := (((recLines r).map fun b => b ++ [10]).map strB).map V.str) nD2 (SqL.of hR4) (by simp only [List.length_map]) (fun i y z H5 hy hz s5 e5 => ?_) fun H5 s5 e5 => ?_⟩
        · rw [List.getElem?_map, List.getElem?_map] at hy
          rw [List.getElem?_map, List.getElem?_map, List.getElem?_map] at hz
          cases eb : (recLines r)[i]? with
          | none => rw [eb] at hy; cases hy
          | some b =>
            rw [eb] at hy hz
            have ey : y = V.str (strB b) := (Option.some.inj hy).symm
            have ez : z = V.str (strB (b ++ [10])) := (Option.some.inj hz).symm
            subst ey
            have hb := n2 b (List.mem_of_getElem? eb)
            refine ⟨rfl, ?_⟩
            refine ⟨_, rfl, _, _, rfl, rfl, ?_, ?_⟩
            · rw [strB_length]
              exact line_ge (by show _ + 1 ≤ _; omega)
            · rw [w4, ← strB_append, ← ez]
              exact lc_put nD2 s5 e5 (by rw [List.getElem?_map, List.getElem?_map, List.getElem?_map, eb, ez]; rfl) (by simp only [List.length_map]; rw [sizeLine_eq]; omega)
        · refine ⟨_, D2, _, rfl, rfl, .inl (SqL.of e5), ?_, ?_⟩
          · have := sum_small (l := (recLines r).map fun b => b ++ [10]) (m := 5601) fun b hb => by
              obtain ⟨c, hc, rfl⟩ := List.mem_map.mp hb
              have := n2 c hc
              rw [List.length_append, List.length_singleton]
              omega
            rw [List.length_map] at this
            have k : (recLines r).length * 5601 ≤ 26 * 5601 := Nat.mul_le_mul_right _ n1
            refine Nat.le_trans (Nat.add_le_add this (Nat.le_refl _)) ?_
            show _ + _ * 0 ≤ _
            omega
          · rw [join_empty, ← shown_lines rf]
            exact q H5 (sH4.trans s5)
def RecL (K : PySem.W.Frag) (H : Hp) (as : List Addr) (rs : List Valaya.Rec) : Prop := Paired (fun a r => RecAt K H a r.x.name r.t) as rs
theorem RecL.keeps {H H' : Hp} (k : Keeps K H H') {as : List Addr} {rs : List Valaya.Rec} (h : RecL K H as rs) : RecL K H' as rs := paired_mono (fun _ _ z => RecAt.keeps k z) h
def spOneForm (K : PySem.W.Frag) : Sp := fun vs H Q _ => ∃ (a : Addr) (as : List Addr) (rs : List Valaya.Rec), vs = [.ref a] ∧ H a = some (.lst (as.map V.ref)) ∧ RecL K H as rs ∧ (∀ r ∈ rs, RecFine r) ∧ rs.length ≤ 6 ∧ ∀ H', Same H H' → Q (.str (strB (rs.flatMap Valaya.shownRec))) H'
theorem ok_one_form (T : Txt K mg) : FnAt P w K mg base CX0 10 "one_form" ["records"] (spOneForm K) := by
  have G_Record_form := ok_Record_form (P := P) (w := w) (base := base) T
  refine T.d_one_form.ok sc_one_form (fun vs H Q E h => by obtain ⟨a, as, rs, rfl, _⟩ := h; rfl) fun f cdv A outer s H vs Q E hr h => ?_
  obtain ⟨a, as, rs, rfl, ha, hL, hF, h6, q⟩ := h
  refine ⟨_, (pss_one (ps_ret (pe_join pe_str (by exact (pe_lc (own := [("record", 1)]) (g := (gName 1)) (tt := tYes) (by rfl) sc_one_form.nd (pi_list (pv 0)) (blkOk_by (own := [("record", 1)]) (N := ["records", "record"]) (sc := defScope s_one_form) (by decide +kernel)) (fun _ _ _ _ _ => by exact (pg_name (i := 1) sc_one_form.nd rfl (Or.inl rfl))) (fun _ _ _ _ _ => pts_nil) (fun _ _ _ _ _ => by exact (pe_me0 (pv 1) G_Record_form hr (by first | decide | omega)))))))), ?_⟩
  refine ⟨⟨_, rfl⟩, _, rfl, a, rfl, ⟨_, SqL.of ha⟩, fun D nD => lc_to (K := K) (a := a) (ys := ((rs.map Valaya.shownRec).map strB).map V.str) nD (SqL.of ha) (by simp only [List.length_map]; exact (paired_len hL).symm) (fun i y z H2 hy hz s2 e2 => ?_) fun H2 s2 e2 => ?_⟩
  · obtain ⟨b, hb, rfl⟩ := ref_item hy
    obtain ⟨r, hr', hat⟩ := paired_at hL hb
    have ez : z = V.str (strB (Valaya.shownRec r)) := by
      rw [List.getElem?_map, List.getElem?_map, List.getElem?_map, hr'] at hz
      exact (Option.some.inj hz).symm
    have hat2 := RecAt.keeps (same_keeps (K := K) s2) hat
    have hat3 := hat2
    obtain ⟨l, lv, pl, bs, ls, cs, ⟨dx, h1⟩, _⟩ := hat3
    refine ⟨rfl, ?_⟩
    refine ⟨_, rfl, b, dx, _, rfl, h1, rfl, b, r, rfl, hat2, hF r (List.mem_of_getElem? hr'), fun H4 s4 => ?_⟩
    rw [← ez]
    exact lc_put nD (s2.trans s4) (s4 _ _ e2) hz (by simp only [List.length_map]; rw [sizeLine_eq]; omega)
  · refine ⟨_, D, _, rfl, rfl, .inl (SqL.of e2), ?_, ?_⟩
    · have := sum_small (l := rs.map Valaya.shownRec) (m := 150000) fun b hb => by
        obtain ⟨c, hc, rfl⟩ := List.mem_map.mp hb
        exact shown_small (hF c hc)
      rw [List.length_map] at this
      have k : rs.length * 150000 ≤ 6 * 150000 := Nat.mul_le_mul_right _ h6
      show _ + _ * 0 ≤ _
      omega
    · rw [join_empty, ← List.flatMap_def]
      exact q H2 s2
end
end Lv
set_option Elab.async false
set_option linter.all false
set_option maxRecDepth 100000
set_option maxHeartbeats 4000000
namespace Lv
open PySem PySem.Spec PyProof.Rows L2 TL
open Valaya (Ty)
/-! ### widths -/
def bitLen (m : Nat) : Nat := if m = 0 then 0 else m.log2 + 1
theorem bits_by : ∀ (f m : Nat), m < 2 ^ f → Valaya.bitsBy f (m + 1) = bitLen m
  | 0, m, h => by
    have : m = 0 := by
      simp at h
      exact h
    subst this
    rfl
  | f + 1, m, h => by
    unfold Valaya.bitsBy
    by_cases c : m = 0
    · subst c
      rfl
    · rw [if_neg (by omega)]
      have e : (m + 1 + 1) / 2 = m / 2 + 1 := by omega
      have hm : m / 2 < 2 ^ f := by
        rw [Nat.pow_succ] at h
        omega
      rw [e, bits_by f (m / 2) hm]
      unfold bitLen
      rw [if_neg c]
      by_cases c2 : m / 2 = 0
      · rw [if_pos c2]
        have : m = 1 := by omega
        subst this
        decide
      · rw [if_neg c2]
        have : m.log2 = (m / 2).log2 + 1 := by
          rw [Nat.log2_def m, if_pos (by omega)]
        omega
theorem bits_for {n m : Nat} (e : n = m + 1) (h : m < 2 ^ 64) : Valaya.bitsFor n = max 1 (bitLen m) := by
  unfold Valaya.bitsFor
  rw [e, bits_by 64 m h]
theorem intBits_is {i : Int} (h : 0 ≤ i) : Builtin.Int.intBits i = bitLen i.toNat := by
  unfold Builtin.Int.intBits bitLen
  obtain ⟨m, rfl⟩ := Int.eq_ofNat_of_zero_le h
  by_cases c : m = 0
  · subst c
    rfl
  · rw [if_neg (by simp; exact c), if_neg (by simpa using c)]
    rfl
theorem max_if (j : Nat) : (if (j : Int) > 1 then (j : Int) else 1) = (max 1 j : Nat) := by
  by_cases c : (j : Int) > 1
  · rw [if_pos c, Nat.max_eq_right (by omega)]
  · rw [if_neg c, Nat.max_eq_left (by omega)]
    rfl
end Lv
/-! How long the names of leaves are. -/
namespace Lv
open Valaya ValayBase
/-- alternatives are no hotter than their one -/
def ones : Ty → Bool
  | .field _ h _ r => h == 1 && ones r
  | _ => true
theorem ones_row {fs : Ty} : ones fs = true → ∀ p ∈ rowL fs, p.2.1 = 1 := by
  induction fs with
  | field x h t r _ ih =>
    intro z p hp
    simp only [ones, Bool.and_eq_true, beq_iff_eq] at z
    rcases List.mem_cons.mp hp with rfl | hp
    · exact z.1
    · exact ih z.2 p hp
  | _ => intro _ p hp; cases hp
/-- the leaves' names of all records told by name are at most so long -/
def nb (m : Nat) : Ty → Prop
  | .num _ _ _ => True
  | .maybe t => nb m t
  | .many _ t => nb m t
  | .one_ fs => ones fs = true ∧ nb m fs
  | .named _ u => ∀ f ∈ leavesOf u, f.name.length ≤ m ∧ f.guards.length ≤ m
  | .rec_ fs => nb m fs
  | .nil => True
  | .field _ _ t r => nb m t ∧ nb m r
theorem nb_mono {m m' : Nat} (h : m ≤ m') : ∀ {t : Ty}, nb m t → nb m' t := by
  intro t
  induction t with
  | num => intro _; trivial
  | maybe t ih => exact ih
  | many n t ih => exact ih
  | one_ fs ih => intro z; exact ⟨z.1, ih z.2⟩
  | named x u _ => intro z f hf; exact ⟨Nat.le_trans (z f hf).1 h, Nat.le_trans (z f hf).2 h⟩
  | rec_ fs ih => exact ih
  | nil => intro _; trivial
  | field x h t r iht ihr => intro z; exact ⟨iht z.1, ihr z.2⟩
theorem nb_row {m : Nat} {fs : Ty} : nb m fs → ∀ p ∈ rowL fs, nb m p.2.2 := by
  induction fs with
  | field x h t r _ ih =>
    intro z p hp
    rcases List.mem_cons.mp hp with rfl | hp
    · exact z.1
    · exact ih z.2 p hp
  | _ => intro _ p hp; cases hp
theorem dotted_len (a b : Bytes) : (dotted a b).length ≤ a.length + 1 + b.length := by
  unfold dotted
  split
  · omega
  · rw [List.length_append, List.length_append]
    show _ + (1 + _) ≤ _
    omega
theorem showNat_one {i : Nat} (h : i < 8) : (showNat i).length ≤ 1 := by
  unfold showNat
  rw [List.length_map]
  exact (Nat.length_toDigits_le_iff (by decide) (by decide)).mpr (by omega)
theorem names_le (m : Nat) : ∀ {t : Ty}, Fine t → nb m t →
    ((clOf t).isSome = true → ∀ (k : Nat) (x : Bytes) (h : Nat) (g : List (Nat × Nat)) (alt : Option (Nat × Nat)), ∀ f ∈ leavesBy t k x h g alt, f.name.length ≤ x.length + 17 * dep t + m) ∧
    (isRow t = true → ∀ (k : Nat) (x : Bytes) (h : Nat) (g : List (Nat × Nat)) (alt : Option (Nat × Nat)), ∀ f ∈ leavesBy t k x h g alt, f.name.length ≤ x.length + 17 + 17 * dep t + m) := by
  intro t
  induction t with
  | num lo hi al =>
    intro _ _
    refine ⟨fun _ k x h g alt f hf => ?_, (fun z => by cases z)⟩
    simp only [leavesBy, List.mem_singleton] at hf
    subst hf
    simp only [dep]
    omega
  | maybe t ih =>
    intro hf hn
    refine ⟨fun _ k x h g alt f hm => ?_, (fun z => by cases z)⟩
    simp only [leavesBy, List.mem_cons] at hm
    simp only [dep]
    rcases hm with rfl | hm
    · have := dotted_len x (word "maybe")
      have w : (word "maybe").length = 5 := rfl
      show (dotted x (word "maybe")).length ≤ _
      omega
    · have := (ih hf.2 hn).1 hf.1 _ _ _ _ _ f hm
      have d := dotted_len x (word "some")
      have w : (word "some").length = 4 := rfl
      omega
  | many n t ih =>
    intro hf hn
    refine ⟨fun _ k x h g alt f hm => ?_, (fun z => by cases z)⟩
    simp only [leavesBy, List.mem_flatMap, List.mem_range] at hm
    obtain ⟨i, hi, hm⟩ := hm
    simp only [dep]
    have := (ih hf.2.2.2 hn).1 hf.2.2.1 _ _ _ _ _ f hm
    have d := dotted_len x (showNat i)
    have w := showNat_one (i := i) (by have := hf.2.1; omega)
    omega
  | one_ fs ih =>
    intro hf hn
    refine ⟨fun _ k x h g alt f hm => ?_, (fun z => by cases z)⟩
    simp only [leavesBy, List.mem_cons] at hm
    simp only [dep]
    rcases hm with rfl | hm
    · have := dotted_len x (word "one")
      have w : (word "one").length = 3 := rfl
      show (dotted x (word "one")).length ≤ _
      omega
    · have := (ih hf.2.2.2 hn.2).2 hf.1 _ _ _ _ _ f hm
      omega
  | named y t _ =>
    intro hf hn
    refine ⟨fun _ k x h g alt f hm => ?_, (fun z => by cases z)⟩
    obtain ⟨fs, e⟩ := hf.2.1
    subst e
    have hff : Fine (.rec_ fs) := hf.2.2
    simp only [leavesBy] at hm
    rw [show leavesBy fs k x h g none = leavesBy (.rec_ fs) k x h g none from rfl, leaves_named fs k h x g (row_of hff.1 hff.2.2)] at hm
    obtain ⟨f0, h0, rfl⟩ := List.mem_map.mp hm
    have := (hn f0 h0).1
    have d := dotted_len x f0.name
    show (dotted x f0.name).length ≤ _
    simp only [dep]
    omega
  | rec_ fs _ => intro _ _; exact ⟨(fun z => by cases z), (fun z => by cases z)⟩
  | nil =>
    intro _ _
    refine ⟨(fun z => by cases z), fun _ k x h g alt f hm => ?_⟩
    simp [leavesBy] at hm
  | field y hh t r iht ihr =>
    intro hf hn
    refine ⟨(fun z => by cases z), fun _ k x h g alt f hm => ?_⟩
    have d := dotted_len x y.name
    have nl := hf.1.2
    have one := (iht hf.2.2.2.2.1 hn.1).1 hf.2.2.2.1
    have two := (ihr hf.2.2.2.2.2.2 hn.2).2 hf.2.2.2.2.2.1
    simp only [dep]
    cases alt with
    | none =>
      simp only [leavesBy, List.mem_append] at hm
      rcases hm with hm | hm
      · have := one _ _ _ _ _ f hm
        omega
      · have := two _ _ _ _ _ f hm
        omega
    | some a =>
      simp only [leavesBy, List.mem_append] at hm
      rcases hm with hm | hm
      · have := one _ _ _ _ _ f hm
        omega
      · have := two _ _ _ _ _ f hm
        omega
theorem guards_le (m : Nat) : ∀ {t : Ty}, Fine t → nb m t →
    ((clOf t).isSome = true → ∀ (k : Nat) (x : Bytes) (h : Nat) (g : List (Nat × Nat)) (alt : Option (Nat × Nat)), ∀ f ∈ leavesBy t k x h g alt, f.guards.length ≤ g.length + dep t + m) ∧
    (isRow t = true → ∀ (k : Nat) (x : Bytes) (h : Nat) (g : List (Nat × Nat)) (alt : Option (Nat × Nat)), ∀ f ∈ leavesBy t k x h g alt, f.guards.length ≤ g.length + 1 + dep t + m) := by
  intro t
  induction t with
  | num lo hi al =>
    intro _ _
    refine ⟨fun _ k x h g alt f hf => ?_, (fun z => by cases z)⟩
    simp only [leavesBy, List.mem_singleton] at hf
    subst hf
    simp only [dep]
    omega
  | maybe t ih =>
    intro hf hn
    refine ⟨fun _ k x h g alt f hm => ?_, (fun z => by cases z)⟩
    simp only [leavesBy, List.mem_cons] at hm
    simp only [dep]
    rcases hm with rfl | hm
    · show g.length ≤ _
      omega
    · have := (ih hf.2 hn).1 hf.1 _ _ _ _ _ f hm
      rw [List.length_append, List.length_singleton] at this
      omega
  | many n t ih =>
    intro hf hn
    refine ⟨fun _ k x h g alt f hm => ?_, (fun z => by cases z)⟩
    simp only [leavesBy, List.mem_flatMap, List.mem_range] at hm
    obtain ⟨i, hi, hm⟩ := hm
    simp only [dep]
    have := (ih hf.2.2.2 hn).1 hf.2.2.1 _ _ _ _ _ f hm
    omega
  | one_ fs ih =>
    intro hf hn
    refine ⟨fun _ k x h g alt f hm => ?_, (fun z => by cases z)⟩
    simp only [leavesBy, List.mem_cons] at hm
    simp only [dep]
    rcases hm with rfl | hm
    · show g.length ≤ _
      omega
    · have := (ih hf.2.2.2 hn.2).2 hf.1 _ _ _ _ _ f hm
      omega
  | named y t _ =>
    intro hf hn
    refine ⟨fun _ k x h g alt f hm => ?_, (fun z => by cases z)⟩
    obtain ⟨fs, e⟩ := hf.2.1
    subst e
    have hff : Fine (.rec_ fs) := hf.2.2
    simp only [leavesBy] at hm
    rw [show leavesBy fs k x h g none = leavesBy (.rec_ fs) k x h g none from rfl, leaves_named fs k h x g (row_of hff.1 hff.2.2)] at hm
    obtain ⟨f0, h0, rfl⟩ := List.mem_map.mp hm
    have := (hn f0 h0).2
    show (g ++ f0.guards.map _).length ≤ _
    rw [List.length_append, List.length_map]
    simp only [dep]
    omega
  | rec_ fs _ => intro _ _; exact ⟨(fun z => by cases z), (fun z => by cases z)⟩
  | nil =>
    intro _ _
    refine ⟨(fun z => by cases z), fun _ k x h g alt f hm => ?_⟩
    simp [leavesBy] at hm
  | field y hh t r iht ihr =>
    intro hf hn
    refine ⟨(fun z => by cases z), fun _ k x h g alt f hm => ?_⟩
    have one := (iht hf.2.2.2.2.1 hn.1).1 hf.2.2.2.1
    have two := (ihr hf.2.2.2.2.2.2 hn.2).2 hf.2.2.2.2.2.1
    simp only [dep]
    cases alt with
    | none =>
      simp only [leavesBy, List.mem_append] at hm
      rcases hm with hm | hm
      · have := one _ _ _ _ _ f hm
        omega
      · have := two _ _ _ _ _ f hm
        omega
    | some a =>
      simp only [leavesBy, List.mem_append] at hm
      rcases hm with hm | hm
      · have := one _ _ _ _ _ f hm
        rw [List.length_append, List.length_singleton] at this
        omega
      · have := two _ _ _ _ _ f hm
        omega
/-- the leaves of alternatives -/
def altLeaves (x : Bytes) (h : Nat) (g : List (Nat × Nat)) (tag : Nat) : List (PName × Nat × Ty) → Nat → Nat → List Leaf
  | [], _, _ => []
  | p :: r, k, n => leavesBy p.2.2 k (dotted x p.1.name) (h * p.2.1) (g ++ [(tag, n)]) none ++ altLeaves x h g tag r (k + countLeaves p.2.2) (n + 1)
theorem alt_is (x : Bytes) (h : Nat) (g : List (Nat × Nat)) (tag : Nat) : ∀ {fs : Ty}, isRow fs = true → Fine fs → ∀ (k n : Nat), leavesBy fs k x h g (some (tag, n)) = altLeaves x h g tag (rowL fs) k n := by
  intro fs
  induction fs with
  | nil => intros; rfl
  | field y hh t r _ ih =>
    intro _ hf k n
    show leavesBy t k (dotted x y.name) (h * hh) (g ++ [(tag, n)]) none ++ leavesBy r (k + countLeaves t) x h g (some (tag, n + 1)) = _
    rw [ih hf.2.2.2.2.2.1 hf.2.2.2.2.2.2]
    rfl
  | _ => intro z; cases z
theorem alt_snoc (x : Bytes) (h : Nat) (g : List (Nat × Nat)) (tag : Nat) (p : PName × Nat × Ty) : ∀ (l : List (PName × Nat × Ty)) (k n : Nat),
    altLeaves x h g tag (l ++ [p]) k n = altLeaves x h g tag l k n ++ leavesBy p.2.2 (k + (altLeaves x h g tag l k n).length) (dotted x p.1.name) (h * p.2.1) (g ++ [(tag, n + l.length)]) none
  | [], k, n => by simp [altLeaves]
  | a :: l, k, n => by
    show _ ++ altLeaves x h g tag (l ++ [p]) _ _ = (_ ++ altLeaves x h g tag l _ _) ++ _
    rw [alt_snoc x h g tag p l, List.append_assoc]
    congr 2
    simp only [altLeaves, List.length_append, leaves_length, List.length_cons]
    congr 1
    · omega
    · congr 2
      congr 1
      omega
theorem alt_len (x : Bytes) (h : Nat) (g : List (Nat × Nat)) (tag : Nat) : ∀ (l : List (PName × Nat × Ty)) (k n : Nat), (altLeaves x h g tag l k n).length = (l.map fun p => countLeaves p.2.2).sum
  | [], _, _ => rfl
  | a :: l, k, n => by
    show (_ ++ altLeaves x h g tag l _ _).length = _
    rw [List.length_append, leaves_length, alt_len x h g tag l, List.map_cons, List.sum_cons]
end Lv
set_option Elab.async false
set_option linter.all false
set_option maxRecDepth 100000
set_option maxHeartbeats 4000000
namespace Lv
open PySem PySem.Spec PyProof.Rows L2 TL
open Valaya (Ty)
/-! ### a heap without one list -/
theorem del_same' {H : Hp} {l : Addr} : Same (del H l) H := fun b o h => by
  by_cases e : b = l
  · rw [e, del_same] at h
    cases h
  · rw [del_ne e] at h
    exact h
theorem but_del {H H' : Hp} {l : Addr} (b : But l H H') : Same (del H l) (del H' l) := fun a o h => by
  by_cases e : a = l
  · rw [e, del_same] at h
    cases h
  · rw [del_ne e] at h ⊢
    exact b a o h e
theorem same_del {H H' : Hp} {l : Addr} (s : Same H H') : Same (del H l) (del H' l) := but_del fun b o h _ => s b o h
theorem del_upd {H : Hp} {l : Addr} {o : HO} : del (upd H l o) l = del H l := by
  funext b
  by_cases e : b = l
  · rw [e, del_same, del_same]
  · rw [del_ne e, del_ne e, upd_ne e]
theorem but_put {H H' : Hp} {l : Addr} {o : HO} (b : But l H H') : But l H (upd H' l o) := fun a u h n => by
  rw [upd_ne n]
  exact b a u h n
theorem same_but {H H' : Hp} {l : Addr} (s : Same H H') : But l H H' := fun a u h _ => s a u h
section
variable {P : Program} {w : World} {K : PySem.W.Frag} {mg : Str → Option Value} {base : Heap}
theorem sqT_of {H : Hp} {a : Addr} {xs : List V} (h : H a = some (.tup xs)) : SqT K H a xs := SqT.of h
/-! ### guards -/
theorem guards_same {H H' : Hp} {g : Addr} {gs : List (Nat × Nat)} (h : GuardsAt K H g gs) (s : Same H H') : GuardsAt K H' g gs := h.keeps (same_keeps s)
theorem guards_len {H : Hp} {g : Addr} {gs : List (Nat × Nat)} (h : GuardsAt K H g gs) : ∃ as : List Addr, SqT K H g (as.map V.ref) ∧ Paired (fun a p => PairAt K H a p) as gs ∧ as.length = gs.length := by
  obtain ⟨as, h1, h2⟩ := h
  exact ⟨as, h1, h2, paired_len h2⟩
/-- two tuples of guards, one behind the other; D: the heap in which they are looked at -/
theorem cat_guards {H : Hp} {l : Addr} {g m : Addr} {gs ms : List (Nat × Nat)} {Q : VK} (hg : GuardsAt K (del H l) g gs) (hm : GuardsAt K (del H l) m ms) (hz : gs.length + ms.length ≤ 10000) (hl : H l ≠ none) (q : ∀ (gg : Addr) (H' : Hp), Same H H' → GuardsAt K (del H' l) gg (gs ++ ms) → Q (.ref gg) H') :
    rCatA K (.ref g) (.ref m) H Q := by
  obtain ⟨as, h1, h2, h3⟩ := guards_len hg
  obtain ⟨bs, k1, k2, k3⟩ := guards_len hm
  refine ⟨g, m, as.map V.ref, bs.map V.ref, rfl, rfl, SqT.same del_same' h1, SqT.same del_same' k1, ?_, fun e => ?_, fun ne e => ?_, fun ne ne2 p hp => ?_⟩
  · rw [List.length_map, List.length_map, h3, k3, sizeLine_eq]
    omega
  · have e' : as = [] := List.map_eq_nil_iff.mp e
    subst e'
    cases h2
    exact q m H (Same.refl H) hm
  · have e' : bs = [] := List.map_eq_nil_iff.mp e
    subst e'
    cases k2
    rw [List.append_nil] at q
    exact q g H (Same.refl H) hg
  · have hpl : p ≠ l := fun z => hl (z ▸ hp)
    have s1 : Same H (upd H p (.tup (as.map V.ref ++ bs.map V.ref))) := same_upd hp
    refine q p _ s1 ⟨as ++ bs, ?_, ?_⟩
    · rw [List.map_append]
      refine SqT.of ?_
      rw [del_ne hpl, upd_same]
    · have sd := same_del (l := l) s1
      exact paired_append (paired_mono (fun _ _ z => sd _ _ z) h2) (paired_mono (fun _ _ z => sd _ _ z) k2)
/-- one guard more -/
theorem push_guard {H : Hp} {l g : Addr} {gs : List (Nat × Nat)} {i c : Nat} {Q : VK} (hg : GuardsAt K (del H l) g gs) (hz : gs.length ≤ 900) (hl : H l ≠ none) (q : ∀ (gg : Addr) (H' : Hp), Same H H' → GuardsAt K (del H' l) gg (gs ++ [(i, c)]) → Q (.ref gg) H')
    (p1 : Addr) (n1 : H p1 = none) (p2 : Addr) (n2 : upd H p1 (.tup [.int i, .int c]) p2 = none) : rCatA K (.ref g) (.ref p2) (upd (upd H p1 (.tup [.int i, .int c])) p2 (.tup [.ref p1])) Q := by
  have s1 : Same H (upd H p1 (.tup [.int i, .int c])) := same_upd n1
  have s2 : Same (upd H p1 (.tup [.int i, .int c])) (upd (upd H p1 (.tup [.int i, .int c])) p2 (.tup [.ref p1])) := same_upd n2
  have e12 : p1 ≠ p2 := fun z => by
    rw [← z, upd_same] at n2
    cases n2
  have l1 : p1 ≠ l := fun z => hl (z ▸ n1)
  have l2 : p2 ≠ l := fun z => hl (by
    have := s1.free n2
    rw [z] at this
    exact this)
  have hl2 : (upd (upd H p1 (.tup [.int i, .int c])) p2 (.tup [.ref p1])) l ≠ none := by
    rw [upd_ne l2.symm, upd_ne l1.symm]
    exact hl
  refine cat_guards (guards_same hg (same_del (s1.trans s2))) ⟨[p1], ?_, .cons ?_ .nil⟩ (by simp; omega) hl2 fun gg H' s' h' => q gg H' ((s1.trans s2).trans s') h'
  · refine SqT.of ?_
    rw [del_ne l2, upd_same]
    rfl
  · show del (upd (upd H p1 (.tup [.int i, .int c])) p2 (.tup [.ref p1])) l p1 = _
    rw [del_ne l1, upd_ne e12, upd_same]
/-! ### a leaf's width, and where its record stands in another -/
def spWidth (K : PySem.W.Frag) : Sp := fun vs H Q _ => ∃ (a : Addr) (f : Valaya.Leaf), vs = [.ref a] ∧ LeafAt K H a f ∧ f.lo ≤ f.hi ∧ f.hi - f.lo ≤ 10000000 ∧ Q (.int (Valaya.width f : Nat)) H
def spGreatest (K : PySem.W.Frag) : Sp := fun vs H Q _ => ∃ (a : Addr) (f : Valaya.Leaf), vs = [.ref a] ∧ LeafAt K H a f ∧ Q (.int (f.hi - f.lo)) H
theorem ok_Leaf_greatest_code (T : Txt K mg) : MeAt P w K mg base CX0 1 (cL K) "greatest_code" ["self"] (spGreatest K) := by
  refine T.m_Leaf_greatest_code.ok sc_Leaf_greatest_code (fun vs H Q E h => by obtain ⟨b, p, rfl, _⟩ := h; rfl) fun f cdv A outer s H vs Q E hr h => ?_
  obtain ⟨a, f, rfl, ⟨g, ⟨dx, h1⟩, h2⟩, q⟩ := h
  refine ⟨_, (pss_one (ps_ret (pe_op op_sub (pe_fl T.c_Leaf T.na_Leaf_greatest (pv 0)) (pe_fl T.c_Leaf T.na_Leaf_least (pv 0))))), ?_⟩
  exact ⟨_, rfl, a, dx, _, _, rfl, h1, rfl, _, rfl, a, dx, _, _, rfl, h1, rfl, _, _, rfl, rfl, q⟩
/-- the bits for so many numbers -/
def spWidthFor : Sp := fun vs H Q _ => ∃ (i : Int), vs = [.int i] ∧ 0 ≤ i ∧ i < 18446744073709551616 ∧ Q (.int (Valaya.bitsFor (i + 1).toNat : Nat)) H
theorem ok_width_for (T : Txt K mg) : FnAt P w K mg base CX0 1 "width_for" ["greatest"] spWidthFor := by
  refine T.d_width_for.ok sc_width_for (fun vs H Q E h => by obtain ⟨i, rfl, _⟩ := h; rfl) fun f cdv A outer s H vs Q E hr h => ?_
  obtain ⟨i, rfl, h0, h1, q⟩ := h
  refine ⟨_, (pss_one (ps_ret (pe_callB (call_max2 rfl) (by rfl) T.f_max (by decide +kernel) (pa_cons pe_int (pa_cons (pe_bits (pv 0)) pa_nil))))), ?_⟩
  refine ⟨_, rfl, _, rfl, _, _, rfl, ?_⟩
  have hw : Valaya.bitsFor (i + 1).toNat = max 1 (bitLen i.toNat) := bits_for (by omega) (by omega)
  rw [intBits_is h0]
  have e := max_if (bitLen i.toNat)
  show Q (.int (if (bitLen i.toNat : Int) > 1 then (bitLen i.toNat : Int) else 1)) H
  rw [e, ← hw]
  exact q
theorem ok_Leaf_width (T : Txt K mg) : MeAt P w K mg base CX0 2 (cL K) "width" ["self"] (spWidth K) := by
  have G_width_for := ok_width_for (P := P) (w := w) (base := base) T
  have G_Leaf_greatest_code := ok_Leaf_greatest_code (P := P) (w := w) (base := base) T
  refine T.m_Leaf_width.ok sc_Leaf_width (fun vs H Q E h => by obtain ⟨b, p, rfl, _⟩ := h; rfl) fun f cdv A outer s H vs Q E hr h => ?_
  obtain ⟨a, f, rfl, hL, h3, h4, q⟩ := h
  obtain ⟨g, ⟨dx, h1⟩, h2⟩ := id hL
  refine ⟨_, (pss_one (ps_ret (pe_fn G_width_for hr (by first | decide | omega) (pa_cons (pe_me0 (pv 0) G_Leaf_greatest_code hr (by first | decide | omega)) pa_nil)))), ?_⟩
  exact ⟨_, rfl, a, dx, _, rfl, h1, rfl, a, f, rfl, hL, f.hi - f.lo, rfl, by omega, by omega, q⟩
def spWithin (K : PySem.W.Frag) : Sp := fun vs H Q _ => ∃ (a g l : Addr) (f : Valaya.Leaf) (x : ValayBase.Bytes) (h k : Nat) (gs : List (Nat × Nat)), vs = [.ref a, .str (strB x), .int h, .ref g, .int k] ∧ LeafAt K (del H l) a f ∧ GuardsAt K (del H l) g gs ∧ H l ≠ none ∧
  x ≠ [] ∧ x.length ≤ 5000 ∧ f.name.length ≤ 5000 ∧ h ≤ 1000 ∧ gs.length ≤ 100 ∧ f.guards.length ≤ 5000 ∧ ∀ (p : Addr) (H' : Hp), H p = none → Same H H' → LeafAt K (del H' l) p (within k x h gs f) → Q (.ref p) H'
theorem ok_Leaf_within (T : Txt K mg) : MeAt P w K mg base CX0 3 (cL K) "within" ["self", "name", "hot", "guards", "start"] (spWithin K) := by
  have G_Leaf := ok_Leaf (P := P) (w := w) (base := base) T
  refine T.m_Leaf_within.ok sc_Leaf_within (fun vs H Q E h => by obtain ⟨a, g, l, f, x, h, k, gs, rfl, _⟩ := h; rfl) fun f cdv A outer s H vs Q E hr h => ?_
  obtain ⟨a, g, l, f, x, h, k, gs, rfl, ⟨g0, ⟨dx, h1⟩, h2⟩, hg, hl, hx, hxl, hfl, hh, hgl, hgl2, q⟩ := h
  refine ⟨_, (pss_cons (ps_set (i := 5) sc_Leaf_within.nd rfl (Or.inl rfl) (pe_callTy call_tuple_of (by rfl) T.f_tuple (by decide +kernel) (pa_cons (by exact (pe_lc (own := [("tag", 6), ("code", 7)]) (g := (gTup K 2 (gCons (gName 6) (gCons (gName 7) gNil)))) (tt := tYes) (by rfl) sc_Leaf_within.nd (pi_tup (pe_fl T.c_Leaf T.na_Leaf_guards (pv 0))) (blkOk_by (own := [("tag", 6), ("code", 7)]) (N := ["self", "name", "hot", "guards", "start", "moved", "tag", "code"]) (sc := defScope s_Leaf_within) (by decide +kernel)) (fun _ _ _ _ _ => by exact (pg_tup rfl (pgs_cons (pg_name (i := 6) sc_Leaf_within.nd rfl (Or.inl rfl)) (pgs_cons (pg_name (i := 7) sc_Leaf_within.nd rfl (Or.inl rfl)) pgs_nil)))) (fun _ _ _ _ _ => pts_nil) (fun _ _ _ _ _ => by exact (pe_tup (pa_cons (pe_op op_add (pv 4) (pv 6)) (pa_cons (pv 7) pa_nil)))))) pa_nil)))
  (pss_one (ps_ret (pe_mk G_Leaf hr (by first | decide | omega) (pa_cons (pe_op op_add_str (pe_op op_add_str (pv 1) pe_str) (pe_fl T.c_Leaf T.na_Leaf_name (pv 0))) (pa_cons (pe_fl T.c_Leaf T.na_Leaf_least (pv 0)) (pa_cons (pe_fl T.c_Leaf T.na_Leaf_greatest (pv 0)) (pa_cons (pe_fl T.c_Leaf T.na_Leaf_kind (pv 0)) (pa_cons (pe_fl T.c_Leaf T.na_Leaf_aligned (pv 0)) (pa_cons (pe_op op_mul (pv 2) (pe_fl T.c_Leaf T.na_Leaf_hot (pv 0))) (pa_cons (pe_op op_catA (pv 3) (pv 5)) pa_nil))))))))))), ?_⟩
  have hal : a ≠ l := fun z => by
    rw [z, del_same] at h1
    cases h1
  have h1' : H a = some (.ins (cL K) dx (leafF f g0)) := by
    rw [del_ne hal] at h1
    exact h1
  obtain ⟨as, k1, k2, k3⟩ := guards_len h2
  refine ⟨_, rfl, a, dx, _, _, rfl, h1', rfl, g0, rfl, ⟨_, SqT.same del_same' k1⟩, fun D nD => ?_⟩
  have hDl : D ≠ l := fun z => hl (z ▸ nD)
  refine lc_tup (K := K) (a := g0) (xs := as.map V.ref) (fun i H' => Same H H' ∧ ∃ bs : List Addr, H' D = some (.lst (bs.map V.ref)) ∧ Paired (fun b p => PairAt K H' b p) bs ((f.guards.take i).map (sh k)) ∧ (∀ b ∈ bs, b ≠ l)) ⟨same_upd nD, [], upd_same, .nil, fun b hb => by cases hb⟩ (fun i H' _ z => SqT.same z.1 (SqT.same del_same' k1)) ?_ ?_
  · rintro i y H' hy ⟨s1, bs, hD, hP, hnl⟩
    obtain ⟨b, hb, rfl⟩ := ref_item hy
    obtain ⟨p, hp, hpa⟩ := paired_at k2 hb
    have hpb : H' b = some (.tup [.int p.1, .int p.2]) := s1 _ _ (del_same' _ _ hpa)
    have hbl : bs.length ≤ 5000 := by
      rw [paired_len hP, List.length_map, List.length_take]
      omega
    refine ⟨b, _, rfl, SqT.of hpb, rfl, _, _, rfl, _, _, rfl, rfl, rfl, ?_⟩
    refine ⟨_, rfl, _, rfl, _, _, rfl, rfl, _, rfl, (by show 2 ≤ sizeLine; decide), fun t nt => ⟨bs.map V.ref, ?_, ?_, ?_⟩⟩
    · rw [upd_ne (ne_of_none hD nt)]
      exact hD
    · rw [List.length_map, sizeLine_eq]
      omega
    · have s2 : Same H' (upd H' t (.tup [.int ((k : Int) + p.1), .int p.2])) := same_upd nt
      have htD : t ≠ D := fun z => by
        rw [z, hD] at nt
        cases nt
      refine ⟨same_lst nD (s1.trans s2), bs ++ [t], ?_, ?_, ?_⟩
      · rw [upd_same, List.map_append]
        rfl
      · have et : (f.guards.take (i + 1)).map (sh k) = (f.guards.take i).map (sh k) ++ [sh k p] := by
          rw [← take_snoc hp, List.map_append]
          rfl
        rw [et]
        have hD2 : (upd H' t (.tup [.int ((k : Int) + p.1), .int p.2])) D = some (.lst (bs.map V.ref)) := s2 _ _ hD
        refine paired_append (paired_mono (fun b q z => ?_) hP) (.cons ?_ .nil)
        · have zb := s2 _ _ z
          show upd _ D _ b = _
          rw [upd_ne fun e => by rw [e, hD2] at zb; cases zb]
          exact zb
        · show upd (upd H' t _) D _ t = _
          rw [upd_ne htD, upd_same]
          rfl
      · intro b hb
        rcases List.mem_append.mp hb with hb | hb
        · exact hnl b hb
        · rw [List.mem_singleton.mp hb]
          intro z
          rw [z] at nt
          exact hl (s1.free nt)
  · rintro H1 ⟨s1, bs, hD, hP, hnl⟩
    rw [List.length_map, k3, List.take_length] at hP
    have hbl : bs.length ≤ 5000 := by
      rw [paired_len hP, List.length_map]
      omega
    refine ⟨D, _, rfl, .inl ⟨SqL.of hD, fun M nM => ?_⟩⟩
    have s2 : Same H1 (upd H1 M (.tup (bs.map V.ref))) := same_upd nM
    generalize hH2 : upd H1 M (.tup (bs.map V.ref)) = H2 at *
    have hM2 : H2 M = some (.tup (bs.map V.ref)) := by rw [← hH2]; exact upd_same
    have sH2 := s1.trans s2
    have hMl : M ≠ l := fun z => hl (s1.free (z ▸ nM))
    have hl2 : H2 l ≠ none := fun z => hl (sH2.free z)
    have ha2 := sH2 _ _ h1'
    have hmv : GuardsAt K (del H2 l) M (f.guards.map (sh k)) := by
      refine ⟨bs, SqT.of (by rw [del_ne hMl]; exact hM2), ?_⟩
      have : ∀ {cs : List Addr} {ps : List (Nat × Nat)}, (∀ b ∈ cs, b ≠ l) → Paired (fun b p => PairAt K H1 b p) cs ps → Paired (fun b p => PairAt K (del H2 l) b p) cs ps := by
        intro cs ps hc hp
        induction hp with
        | nil => exact .nil
        | cons z _ ih =>
          refine .cons ?_ (ih fun b hb => hc b (List.mem_cons_of_mem _ hb))
          show del H2 l _ = _
          rw [del_ne (hc _ (List.mem_cons_self ..))]
          exact s2 _ _ z
      exact this hnl hP
    have wdot : Str.ofString "." = strB (ValayBase.word ".") := rfl
    refine ⟨_, rfl, _, _, rfl, rfl, ?_, _, rfl, a, dx, _, _, rfl, ha2, rfl, _, _, rfl, rfl, ?_, ?_⟩
    · rw [strB_length]
      exact line_ge (by show _ + 1 ≤ _; omega)
    · rw [wdot, ← strB_append, strB_length, strB_length, List.length_append]
      exact line_ge (by show _ + 1 + _ ≤ _; omega)
    refine ⟨_, rfl, a, dx, _, _, rfl, ha2, rfl, _, rfl, a, dx, _, _, rfl, ha2, rfl, _, rfl, a, dx, _, _, rfl, ha2, rfl, _, rfl, a, dx, _, _, rfl, ha2, rfl, _, rfl, _, rfl, a, dx, _, _, rfl, ha2, rfl, _, _, rfl, rfl, ?_, _, rfl, _, rfl, ?_⟩
    · exact .inl ⟨by omega, by omega⟩
    refine cat_guards (l := l) (guards_same hg (same_del sH2)) hmv (by rw [List.length_map]; omega) hl2 fun gg H3 s3 hgg => ?_
    intro y dy ny nd ne
    refine made rfl ny nd ne fun H4 s4 h4 => ?_
    refine q y H4 ((sH2.trans s3).free ny) ((sH2.trans s3).trans s4) ⟨gg, ?_, guards_same hgg (same_del s4)⟩
    have hyl : y ≠ l := fun z => hl ((sH2.trans s3).free (z ▸ ny))
    obtain ⟨dz, h4⟩ := h4
    refine ⟨dz, ?_⟩
    rw [del_ne hyl, h4]
    show some (HO.ins _ dz [("name", .str (strB x ++ Str.ofString "." ++ strB f.name)), ("least", .int f.lo), ("greatest", .int f.hi), ("kind", .int f.kind), ("aligned", .int f.align), ("hot", .int ((h : Int) * f.hot)), ("guards", .ref gg)]) = some (HO.ins _ dz [("name", .str (strB (Valaya.dotted x f.name))), ("least", .int f.lo), ("greatest", .int f.hi), ("kind", .int f.kind), ("aligned", .int f.align), ("hot", .int ((h * f.hot : Nat) : Int)), ("guards", .ref gg)])
    have en : strB (Valaya.dotted x f.name) = strB x ++ Str.ofString "." ++ strB f.name := by
      rw [wdot, ← strB_append, ← strB_append, List.append_assoc]
      unfold Valaya.dotted
      rw [if_neg fun z => hx (List.isEmpty_iff.mp z)]
    rw [en, Int.natCast_mul]
end
end Lv
set_option Elab.async false
set_option linter.all false
set_option maxRecDepth 100000
set_option maxHeartbeats 4000000
namespace Lv
open PySem PySem.Spec PyProof.Rows L2 TL
open Valaya (Ty)
section
variable {P : Program} {w : World} {K : PySem.W.Frag} {mg : Str → Option Value} {base : Heap}
/-! ### leaves laid behind those found -/
/-- what is asked of what lay is handed -/
structure LayIn (K : PySem.W.Frag) (H : Hp) (l : Addr) (ls : List Addr) (x : ValayBase.Bytes) (h : Nat) (g : Addr) (gs : List (Nat × Nat)) (m d n : Nat) : Prop where
  lst : H l = some (.lst (ls.map V.ref))
  gd : GuardsAt K (del H l) g gs
  gl : gs.length + d ≤ 50
  xn : x ≠ []
  xl : x.length + 17 * d ≤ 1000
  hh : h ≤ 1000
  ml : m ≤ 2000
  nl : ls.length + n ≤ 100
def spLay (K : PySem.W.Frag) (n : Nat) (c : Cl) : Sp := fun vs H Q _ => ∃ (a l g : Addr) (t : Ty) (ls : List Addr) (x : ValayBase.Bytes) (h m : Nat) (gs : List (Nat × Nat)), vs = [.ref a, .ref l, .str (strB x), .int h, .ref g] ∧ Lays K (del H l) t false [a] ∧ Fine t ∧ clOf t = some c ∧ dep t ≤ n ∧ nb m t ∧
  LayIn K H l ls x h g gs m n (Valaya.countLeaves t) ∧
  ∀ (H' : Hp) (new : List Addr), But l H H' → H' l = some (.lst ((ls ++ new).map V.ref)) → LeafL K (del H' l) new (Valaya.leavesBy t ls.length x h gs none) → Q .non H'
theorem len_lay {n : Nat} {c : Cl} : Len (spLay K n c) ["self", "found", "name", "hot", "guards"] := fun vs H Q E h => by
  obtain ⟨a, l, g, t, ls, x, h, m, gs, rfl, _⟩ := h
  rfl
abbrev LayAt (P : Program) (w : World) (K : PySem.W.Frag) (mg : Str → Option Value) (base : Heap) (n : Nat) : Prop := ∀ c : Cl, MeAt P w K mg base CX0 (n + 4) (c.addr K) "lay" ["self", "found", "name", "hot", "guards"] (spLay K n c)
theorem lay_at {H : Hp} {t : Ty} {l a : Addr} (h : Lays K (del H l) t false [a]) (hc : (clOf t).isSome = true) : ∃ (c : Cl) (dx : Addr) (fs : List (Str × V)), clOf t = some c ∧ H a = some (.ins (c.addr K) dx fs) ∧ fs.lookup ("lay" : Str) = none := by
  obtain ⟨c, dx, fs, e1, e2, e3⟩ := (Lays.keeps (same_keeps del_same') _ _ _ h).cl hc (m := "lay") (by decide)
  exact ⟨c, dx, fs, e1, e2, e3⟩
/-- a leaf put behind those found -/
theorem put_leaf {H H3 : Hp} {l p : Addr} {ls : List Addr} {f : Valaya.Leaf} (hl : H l = some (.lst (ls.map V.ref))) (b : But l H H3) (hl3 : H3 l = some (.lst (ls.map V.ref))) (hp : LeafAt K (del H3 l) p f) :
    But l H (upd H3 l (.lst (ls.map V.ref ++ [V.ref p]))) ∧ (upd H3 l (.lst (ls.map V.ref ++ [V.ref p]))) l = some (.lst ((ls ++ [p]).map V.ref)) ∧ LeafAt K (del (upd H3 l (.lst (ls.map V.ref ++ [V.ref p]))) l) p f := by
  refine ⟨but_put b, ?_, ?_⟩
  · rw [upd_same, List.map_append]
    rfl
  · rw [del_upd]
    exact hp
/-- a new leaf object -/
theorem leaf_new {H H3 : Hp} {l p : Addr} {g : Addr} {f : Valaya.Leaf} (hl : H l ≠ none) (np : H p = none) (s : Same H H3) (hg : GuardsAt K (del H l) g f.guards) (hi : Ins H3 p (cL K) (leafF f g)) : LeafAt K (del H3 l) p f := by
  obtain ⟨dx, hi⟩ := hi
  refine ⟨g, ⟨dx, ?_⟩, guards_same hg (same_del s)⟩
  rw [del_ne fun z : p = l => hl (z ▸ np)]
  exact hi
theorem leafL_but {H H' : Hp} {l : Addr} {as : List Addr} {fs : List Valaya.Leaf} (h : LeafL K (del H l) as fs) (b : But l H H') : LeafL K (del H' l) as fs := h.keeps (same_keeps (but_del b))
theorem dot_more {x : ValayBase.Bytes} (hx : x ≠ []) (y : String) : strB (Valaya.dotted x (ValayBase.word y)) = strB x ++ strB (ValayBase.word ("." ++ y)) := by
  have e : ValayBase.word ("." ++ y) = ValayBase.word "." ++ ValayBase.word y := by
    unfold ValayBase.word
    rw [String.toList_append, List.map_append]
  rw [e, ← strB_append]
  unfold Valaya.dotted
  rw [if_neg fun z => hx (List.isEmpty_iff.mp z)]
theorem dotted_nn {x y : ValayBase.Bytes} (hx : x ≠ []) : Valaya.dotted x y ≠ [] := dotted_ne_left _ _ hx
theorem dotted_l {x y : ValayBase.Bytes} (hx : x ≠ []) : (Valaya.dotted x y).length = x.length + 1 + y.length := by
  unfold Valaya.dotted
  rw [if_neg fun z => hx (List.isEmpty_iff.mp z), List.length_append, List.length_append]
  show _ + (1 + _) = _
  omega
theorem ok_lay (T : Txt K mg) : ∀ n : Nat, LayAt P w K mg base n := by
  have G_Leaf := ok_Leaf (P := P) (w := w) (base := base) T
  have G_Leaf_within := ok_Leaf_within (P := P) (w := w) (base := base) T
  intro n
  induction n with
  | zero =>
    intro c
    have no : ∀ {vs : List V} {H : Hp} {Q : VK} {E : XK}, spLay K 0 c vs H Q E → False := fun {vs H Q E} h => by
      obtain ⟨a, l, g, t, ls, x, h, m, gs, _, _, _, hc, hd, _⟩ := h
      have := dep_pos (t := t) (by rw [hc]; rfl)
      omega
    cases c with
    | num => exact T.m_Number_lay.ok sc_Number_lay len_lay fun f cdv A outer s H vs Q E hr h => (no h).elim
    | maybe => exact T.m_Maybe_lay.ok sc_Maybe_lay len_lay fun f cdv A outer s H vs Q E hr h => (no h).elim
    | many => exact T.m_Many_lay.ok sc_Many_lay len_lay fun f cdv A outer s H vs Q E hr h => (no h).elim
    | one => exact T.m_One_lay.ok sc_One_lay len_lay fun f cdv A outer s H vs Q E hr h => (no h).elim
    | named => exact T.m_Named_lay.ok sc_Named_lay len_lay fun f cdv A outer s H vs Q E hr h => (no h).elim
  | succ n ih =>
    have G_U_lay : LayAt P w K mg base n := ih
    intro c
    cases c with
    | num =>
      refine T.m_Number_lay.ok sc_Number_lay len_lay fun f cdv A outer s H vs Q E hr h => ?_
      obtain ⟨a, l, g, t, ls, x, h, m, gs, rfl, hL, hf, hc, hd, hn, I, q⟩ := h
      cases t <;> first | cases hc | skip
      rename_i lo hi al
      obtain ⟨_, e, dx, h1⟩ := Lays.keeps (same_keeps del_same') _ _ _ hL
      cases e
      have hlne : H l ≠ none := by rw [I.lst]; simp
      refine ⟨_, (pss_one (ps_expr (pe_bm PySem.F.plainAttrs_list PySem.F.slot_list_append PySem.F.type_list_append mt_append (pv 1) (pa_cons (pe_mk G_Leaf hr (by first | decide | omega) (pa_cons (pv 2) (pa_cons (pe_fl T.c_Number T.na_Number_first (pv 0)) (pa_cons (pe_fl T.c_Number T.na_Number_last (pv 0)) (pa_cons (pe_num T.n_NUMBER) (pa_cons (pe_fl T.c_Number T.na_Number_aligned (pv 0)) (pa_cons (pv 3) (pa_cons (pv 4) pa_nil)))))))) pa_nil)))), ?_⟩
      refine ⟨_, rfl, .inl ⟨rfl, _, SqL.of I.lst⟩, _, rfl, _, rfl, a, dx, _, _, rfl, h1, rfl, _, rfl, a, dx, _, _, rfl, h1, rfl, _, rfl, a, dx, _, _, rfl, h1, rfl, _, rfl, _, rfl, fun p dp np nd ne => made rfl np nd ne fun H3 s3 h3 => ?_⟩
      have hl3 := s3 _ _ I.lst
      have nl := I.nl
      refine ⟨l, _, _, rfl, rfl, hl3, ?_, ?_⟩
      · rw [List.length_map, sizeLine_eq]
        omega
      · obtain ⟨p1, p2, p3⟩ := put_leaf (K := K) (f := ⟨x, lo, hi, al, h, 0, gs⟩) I.lst (same_but s3) hl3 (leaf_new hlne np s3 I.gd h3)
        exact q _ [p] p1 p2 (.cons p3 .nil)
    | maybe =>
      refine T.m_Maybe_lay.ok sc_Maybe_lay len_lay fun f cdv A outer s H vs Q E hr h => ?_
      obtain ⟨a, l, g, t, ls, x, h, m, gs, rfl, hL, hf, hc, hd, hn, I, q⟩ := h
      cases t <;> first | cases hc | skip
      rename_i t
      obtain ⟨_, b, e, ⟨dx, h1⟩, h2⟩ := hL
      cases e
      simp only [dep] at hd
      have nl := I.nl
      have xl := I.xl
      have gl := I.gl
      simp only [Valaya.countLeaves] at nl
      have hlne : H l ≠ none := by rw [I.lst]; simp
      have h1' := del_same' _ _ h1
      refine ⟨_, (pss_cons (ps_set (i := 5) sc_Maybe_lay.nd rfl (Or.inl rfl) (pe_callB call_len_seq (by rfl) T.f_len PySem.boot_len (pa_cons (pv 1) pa_nil)))
  (pss_cons (ps_expr (pe_bm PySem.F.plainAttrs_list PySem.F.slot_list_append PySem.F.type_list_append mt_append (pv 1) (pa_cons (pe_mk G_Leaf hr (by first | decide | omega) (pa_cons (pe_op op_add_str (pv 2) pe_str) (pa_cons pe_int (pa_cons pe_int (pa_cons (pe_num T.n_MAYBE_TAG) (pa_cons pe_int (pa_cons (pv 3) (pa_cons (pv 4) pa_nil)))))))) pa_nil)))
  (pss_one (ps_expr (pe_meU (pe_fl T.c_Maybe T.na_Maybe_inner (pv 0)) G_U_lay hr (by first | decide | omega) (pa_cons (pv 1) (pa_cons (pe_op op_add_str (pv 2) pe_str) (pa_cons (pv 3) (pa_cons (pe_op op_catA (pv 4) (pe_tup (pa_cons (pe_tup (pa_cons (pv 5) (pa_cons pe_int pa_nil))) pa_nil))) pa_nil))))))))), ?_⟩
      refine ⟨_, rfl, l, _, rfl, .inl (SqL.of I.lst), ?_⟩
      rw [List.length_map]
      have d1 : strB (Valaya.dotted x (ValayBase.word "maybe")) = strB x ++ Str.ofString ".maybe" := dot_more I.xn "maybe"
      have d2 : strB (Valaya.dotted x (ValayBase.word "some")) = strB x ++ Str.ofString ".some" := dot_more I.xn "some"
      refine ⟨_, rfl, .inl ⟨rfl, _, SqL.of I.lst⟩, _, rfl, _, _, rfl, rfl, ?_, _, rfl, _, rfl, fun p dp np nd ne => made rfl np nd ne fun H3 s3 h3 => ?_⟩
      · rw [strB_length]
        exact line_ge (by show _ + 6 ≤ _; omega)
      have hl3 := s3 _ _ I.lst
      refine ⟨l, _, _, rfl, rfl, hl3, ?_, ?_⟩
      · rw [List.length_map, sizeLine_eq]
        omega
      obtain ⟨p1, p2, p3⟩ := put_leaf (K := K) (f := ⟨Valaya.dotted x (ValayBase.word "maybe"), 0, 1, 1, h, 1, gs⟩) I.lst (same_but s3) hl3 (leaf_new hlne np s3 I.gd (by unfold leafF; rw [d1]; exact h3))
      generalize upd H3 l (.lst (ls.map V.ref ++ [V.ref p])) = H4 at *
      have sd4 := but_del p1
      have h14 : H4 a = some (.ins (cM K) dx [("inner", .ref b)]) := del_same' _ _ (sd4 _ _ h1)
      have hl4 : H4 l ≠ none := by rw [p2]; simp
      have hb4 : Lays K (del H4 l) t false [b] := Lays.keeps (same_keeps sd4) _ _ _ h2
      obtain ⟨c, db, fb, ec, hb, lk⟩ := lay_at hb4 hf.1
      refine ⟨_, rfl, a, dx, _, _, rfl, h14, rfl, c, b, db, fb, rfl, hb, lk, ?_⟩
      refine ⟨_, rfl, _, rfl, _, _, rfl, rfl, ?_, _, rfl, _, rfl, _, rfl, (by show 2 ≤ sizeLine; decide), fun t1 n1 => ⟨(by show 1 ≤ sizeLine; decide), fun t2 n2 => ?_⟩⟩
      · rw [strB_length]
        exact line_ge (by show _ + 5 ≤ _; omega)
      refine push_guard (i := ls.length) (c := 1) (guards_same I.gd sd4) (by omega) hl4 (fun gg H5 s5 hgg => ?_) t1 n1 t2 n2
      refine ⟨b, l, gg, t, ls ++ [p], Valaya.dotted x (ValayBase.word "some"), h, m, gs ++ [(ls.length, 1)], ?_, Lays.keeps (same_keeps (same_del s5)) _ _ _ hb4, hf.2, ec, by omega, hn, ?_, fun H6 new b6 l6 L6 => ?_⟩
      · rw [d2]
      · refine ⟨s5 _ _ p2, hgg, by rw [List.length_append, List.length_singleton]; omega, dotted_nn I.xn, ?_, I.hh, I.ml, by rw [List.length_append, List.length_singleton]; omega⟩
        rw [dotted_l I.xn]
        show _ + 1 + 4 + _ ≤ _
        omega
      · refine q H6 (p :: new) (p1.trans ((same_but s5).trans b6)) ?_ ?_
        · rw [l6, List.append_assoc]
          rfl
        · simp only [Valaya.leavesBy]
          rw [List.length_append, List.length_singleton] at L6
          exact .cons (LeafAt.keeps p3 (same_keeps (but_del ((same_but s5).trans b6)))) L6
    | many =>
      refine T.m_Many_lay.ok sc_Many_lay len_lay fun f cdv A outer s H vs Q E hr h => ?_
      obtain ⟨a, l, g, t, ls, x, h, m, gs, rfl, hL, hf, hc, hd, hn, I, q⟩ := h
      cases t <;> first | cases hc | skip
      rename_i k t
      obtain ⟨_, b, e, ⟨dx, h1⟩, h2⟩ := hL
      cases e
      simp only [dep] at hd
      have nl := I.nl
      have xl := I.xl
      have gl := I.gl
      have k8 := hf.2.1
      simp only [Valaya.countLeaves] at nl
      have h1' := del_same' _ _ h1
      refine ⟨_, (pss_one (ps_for PassesOwn.never rfl (pi_range1 (by rfl) T.f_range (pa_cons (pe_fl T.c_Many T.na_Many_times (pv 0)) pa_nil)) (pg_name (i := 5) sc_Many_lay.nd rfl (Or.inl rfl)) (pss_one (ps_expr (pe_meU (pe_fl T.c_Many T.na_Many_inner (pv 0)) G_U_lay hr (by first | decide | omega) (pa_cons (pv 1) (pa_cons (pe_op op_add_str (pe_op op_add_str (pv 2) pe_str) (pe_callTy call_str_int (by rfl) T.f_str (by decide +kernel) (pa_cons (pv 5) pa_nil))) (pa_cons (pv 3) (pa_cons (pv 4) pa_nil))))))))), ?_⟩
      refine ⟨_, rfl, a, dx, _, _, rfl, h1', rfl, (k : Int), rfl, by omega, by omega, ?_⟩
      rw [Int.toNat_natCast]
      refine for_range (lo := 0) (n := k) (fun i σ H' => ∃ (v : Option V) (new : List Addr), σ = [some (.ref a), some (.ref l), some (.str (strB x)), some (.int h), some (.ref g), v] ∧ But l H H' ∧ H' l = some (.lst ((ls ++ new).map V.ref)) ∧
        LeafL K (del H' l) new ((List.range i).flatMap fun i => Valaya.leavesBy t (ls.length + i * Valaya.countLeaves t) (Valaya.dotted x (ValayBase.showNat i)) h gs none)) ⟨none, [], rfl, But.refl _ _, by rw [List.append_nil]; exact I.lst, .nil⟩ ?_ ?_
      · rintro i σ H' hi ⟨v, new, rfl, b1, l1, L1⟩
        have sd := but_del b1
        have h1i : H' a = some (.ins (cY K) dx [("times", .int k), ("inner", .ref b)]) := del_same' _ _ (sd _ _ h1)
        have hbi : Lays K (del H' l) t false [b] := Lays.keeps (same_keeps sd) _ _ _ h2
        obtain ⟨c, db, fb, ec, hb, lk⟩ := lay_at hbi hf.2.2.1
        have nlen : new.length = i * Valaya.countLeaves t := by
          rw [paired_len L1]
          have : ∀ j : Nat, ((List.range j).flatMap fun i => Valaya.leavesBy t (ls.length + i * Valaya.countLeaves t) (Valaya.dotted x (ValayBase.showNat i)) h gs none).length = j * Valaya.countLeaves t := by
            intro j
            induction j with
            | zero => simp
            | succ j ihj =>
              rw [List.range_succ, List.flatMap_append, List.length_append, ihj]
              simp [leaves_length, Nat.succ_mul]
          exact this i
        have dn : strB (Valaya.dotted x (ValayBase.showNat i)) = strB x ++ Str.ofString "." ++ Str.ofString (toString ((i : Nat) : Int)) := by
          rw [← str_nat, show Str.ofString "." = strB (ValayBase.word ".") from rfl, ← strB_append, ← strB_append, List.append_assoc]
          unfold Valaya.dotted
          rw [if_neg fun z => I.xn (List.isEmpty_iff.mp z)]
        have l3 : (ValayBase.showNat i).length ≤ 1 := showNat_length (by decide) (by omega)
        have mulb : (i + 1) * Valaya.countLeaves t ≤ k * Valaya.countLeaves t := Nat.mul_le_mul_right _ hi
        rw [Nat.succ_mul] at mulb
        refine ⟨_, rfl, a, dx, _, _, rfl, h1i, rfl, c, b, db, fb, rfl, hb, lk, ?_⟩
        refine ⟨_, rfl, _, rfl, _, _, rfl, rfl, ?_, _, rfl, _, rfl, log2_small (by omega), _, _, rfl, rfl, ?_, _, rfl, _, rfl, ?_⟩
        · rw [strB_length]
          exact line_ge (by show _ + 1 ≤ _; omega)
        · rw [show ((0 : Int) + (i : Int)) = ((i : Nat) : Int) by omega, ← str_nat, show Str.ofString "." = strB (ValayBase.word ".") from rfl, ← strB_append, strB_length, strB_length, List.length_append]
          exact line_ge (by show _ + 1 + _ ≤ _; omega)
        rw [show ((0 : Int) + (i : Int)) = ((i : Nat) : Int) by omega]
        refine ⟨b, l, g, t, ls ++ new, Valaya.dotted x (ValayBase.showNat i), h, m, gs, by rw [dn], hbi, hf.2.2.2, ec, by omega, hn, ?_, fun H6 new6 b6 l6 L6 => ?_⟩
        · refine ⟨l1, guards_same I.gd sd, by omega, dotted_nn I.xn, ?_, I.hh, I.ml, by rw [List.length_append, nlen]; omega⟩
          rw [dotted_l I.xn]
          omega
        · refine ⟨_, new ++ new6, rfl, b1.trans b6, ?_, ?_⟩
          · rw [l6, List.append_assoc]
          · rw [List.range_succ, List.flatMap_append]
            refine paired_append (leafL_but L1 b6) ?_
            rw [List.length_append, nlen] at L6
            have L6' : Paired (fun a f => LeafAt K (del H6 l) a f) new6 _ := L6
            simpa using L6'
      · rintro σ H' ⟨v, new, rfl, b1, l1, L1⟩
        exact q H' new b1 l1 L1
    | one =>
      refine T.m_One_lay.ok sc_One_lay len_lay fun f cdv A outer s H vs Q E hr h => ?_
      obtain ⟨a, l, g, t, ls, x, h, m, gs, rfl, hL, hf, hc, hd, hn, I, q⟩ := h
      cases t <;> first | cases hc | skip
      rename_i fs
      obtain ⟨_, al, bs, e, ⟨dx, h1⟩, h2, h3⟩ := hL
      cases e
      simp only [dep] at hd
      have nl := I.nl
      have xl := I.xl
      have gl := I.gl
      simp only [Valaya.countLeaves] at nl
      have hlne : H l ≠ none := by rw [I.lst]; simp
      have h1' := del_same' _ _ h1
      have h2' := del_same' _ _ h2
      have all' : al ≠ l := fun z => by
        rw [z, del_same] at h2
        cases h2
      have hrow := Lays.row hf.1 hf.2.2.2 h3
      have blen : bs.length = Valaya.rowLength fs := by rw [paired_len hrow, rowL_length]
      refine ⟨_, (pss_cons (ps_set (i := 5) sc_One_lay.nd rfl (Or.inl rfl) (pe_callB call_len_seq (by rfl) T.f_len PySem.boot_len (pa_cons (pv 1) pa_nil)))
  (pss_cons (ps_expr (pe_bm PySem.F.plainAttrs_list PySem.F.slot_list_append PySem.F.type_list_append mt_append (pv 1) (pa_cons (pe_mk G_Leaf hr (by first | decide | omega) (pa_cons (pe_op op_add_str (pv 2) pe_str) (pa_cons pe_int (pa_cons (pe_op op_sub (pe_callB call_len_seq (by rfl) T.f_len PySem.boot_len (pa_cons (pe_fl T.c_One T.na_One_alternatives (pv 0)) pa_nil)) pe_int) (pa_cons (pe_num T.n_ONE_TAG) (pa_cons pe_int (pa_cons (pv 3) (pa_cons (pv 4) pa_nil)))))))) pa_nil)))
  (pss_one (ps_for PassesOwn.never rfl (pi_enum (by rfl) T.f_enumerate (pa_cons (pe_fl T.c_One T.na_One_alternatives (pv 0)) pa_nil)) (pg_tup rfl (pgs_cons (pg_name (i := 6) sc_One_lay.nd rfl (Or.inl rfl)) (pgs_cons (pg_name (i := 7) sc_One_lay.nd rfl (Or.inl rfl)) pgs_nil))) (pss_one (ps_expr (pe_meU (pe_fl T.c_Alternative T.na_Alternative_inner (pv 7)) G_U_lay hr (by first | decide | omega) (pa_cons (pv 1) (pa_cons (pe_op op_add_str (pe_op op_add_str (pv 2) pe_str) (pe_fl T.c_Alternative T.na_Alternative_name (pv 7))) (pa_cons (pv 3) (pa_cons (pe_op op_catA (pv 4) (pe_tup (pa_cons (pe_tup (pa_cons (pv 5) (pa_cons (pv 6) pa_nil))) pa_nil))) pa_nil))))))))))), ?_⟩
      refine ⟨_, rfl, l, _, rfl, .inl (SqL.of I.lst), ?_⟩
      rw [List.length_map]
      have d1 : strB (Valaya.dotted x (ValayBase.word "one")) = strB x ++ Str.ofString ".one" := dot_more I.xn "one"
      refine ⟨_, rfl, .inl ⟨rfl, _, SqL.of I.lst⟩, _, rfl, _, _, rfl, rfl, ?_, _, rfl, a, dx, _, _, rfl, h1', rfl, al, _, rfl, .inl (SqL.of h2'), _, _, rfl, rfl, _, rfl, _, rfl, fun p dp np nd ne => made rfl np nd ne fun H3 s3 h3 => ?_⟩
      · rw [strB_length]
        exact line_ge (by show _ + 4 ≤ _; omega)
      have hl3 := s3 _ _ I.lst
      refine ⟨l, _, _, rfl, rfl, hl3, ?_, ?_⟩
      · rw [List.length_map, sizeLine_eq]
        omega
      rw [List.length_map, blen] at h3
      obtain ⟨p1, p2, p3⟩ := put_leaf (K := K) (f := ⟨Valaya.dotted x (ValayBase.word "one"), 0, (Valaya.rowLength fs : Int) - 1, 1, h, 2, gs⟩) I.lst (same_but s3) hl3 (leaf_new hlne np s3 I.gd (by unfold leafF; rw [d1]; exact h3))
      generalize upd H3 l (.lst (ls.map V.ref ++ [V.ref p])) = H4 at *
      have sd4 := but_del p1
      have h14 : H4 a = some (.ins (cO K) dx [("alternatives", .ref al)]) := del_same' _ _ (sd4 _ _ h1)
      have h24 : H4 al = some (.lst (bs.map V.ref)) := del_same' _ _ (sd4 _ _ h2)
      refine ⟨_, rfl, a, dx, _, _, rfl, h14, rfl, al, _, rfl, SqL.of h24, ?_⟩
      refine for_it (walk_enum (K := K) (a := al) (xs := bs.map V.ref)) (fun i σ H' => ∃ (v v2 : Option V) (new : List Addr), σ = [some (.ref a), some (.ref l), some (.str (strB x)), some (.int h), some (.ref g), some (.int (ls.length : Nat)), v, v2] ∧ But l H4 H' ∧ H' l = some (.lst ((ls ++ [p] ++ new).map V.ref)) ∧
        LeafL K (del H' l) new (altLeaves x h gs ls.length ((rowL fs).take i) (ls.length + 1) 0)) ⟨none, none, [], rfl, But.refl _ _, by rw [List.append_nil]; exact p2, .nil⟩ (fun i σ H' _ z => by obtain ⟨v, v2, new, _, b1, _⟩ := z; exact SqL.of (b1 _ _ h24 all')) ?_ ?_
      · rintro i y σ H5 H6 hi ⟨v, v2, new, rfl, b1, l1, L1⟩ ⟨tt, c0, b0, rfl, ntt, rfl, e1, e2⟩
        cases e1
        obtain ⟨b, hb, rfl⟩ := ref_item e2
        obtain ⟨pr, hp, c, hic, hli⟩ := paired_at hrow hb
        have hpm := List.mem_of_getElem? hp
        have fp := fine_rowL hf.2.2.2 pr hpm
        have dp := dep_row pr hpm
        have hic' : Ins (del H l) b (cA K) [("name", .str (strB pr.1.name)), ("inner", .ref c)] := by
          rw [if_neg (by decide)] at hic
          exact hic
        have s6 : Same H5 (upd H5 tt (.tup [.int (i : Nat), .ref b])) := same_upd ntt
        have h6tt : (upd H5 tt (.tup [.int (i : Nat), .ref b])) tt = some (.tup [.int (i : Nat), .ref b]) := upd_same
        generalize upd H5 tt (.tup [.int (i : Nat), .ref b]) = H6 at *
        have b46 : But l H4 H6 := b1.trans (same_but s6)
        have sdall : Same (del H l) (del H6 l) := sd4.trans (but_del b46)
        obtain ⟨db, hib⟩ := hic'.same sdall
        have hib' := del_same' _ _ hib
        have hli6 : Lays K (del H6 l) pr.2.2 false [c] := Lays.keeps (same_keeps sdall) _ _ _ hli
        obtain ⟨cl, dc, fc, ec, hcc, lk⟩ := lay_at hli6 fp.2.2.2.1
        have l6 := s6 _ _ l1
        have hl6 : H6 l ≠ none := by rw [l6]; simp
        have nxl := fp.1.2
        have newlen : new.length = (((rowL fs).take i).map fun p => Valaya.countLeaves p.2.2).sum := by
          rw [paired_len L1, alt_len]
        have newle : new.length + Valaya.countLeaves pr.2.2 ≤ Valaya.countLeaves fs := by
          rw [newlen, count_row hf.1 hf.2.2.2]
          have e0 := List.take_append_drop (i + 1) (rowL fs)
          have : (((rowL fs).take (i + 1)).map fun p => Valaya.countLeaves p.2.2).sum ≤ ((rowL fs).map fun p => Valaya.countLeaves p.2.2).sum := by
            conv => rhs; rw [← e0]
            rw [List.map_append, List.sum_append]
            omega
          rw [← take_snoc hp, List.map_append, List.sum_append] at this
          simpa using this
        have dn : strB (Valaya.dotted x pr.1.name) = strB x ++ Str.ofString "." ++ strB pr.1.name := by
          rw [show Str.ofString "." = strB (ValayBase.word ".") from rfl, ← strB_append, ← strB_append, List.append_assoc]
          unfold Valaya.dotted
          rw [if_neg fun z => I.xn (List.isEmpty_iff.mp z)]
        refine ⟨tt, _, rfl, SqT.of h6tt, rfl, _, _, rfl, _, _, rfl, rfl, ?_⟩
        refine ⟨_, rfl, b, db, _, _, rfl, hib', rfl, cl, c, dc, fc, rfl, hcc, lk, ?_⟩
        refine ⟨_, rfl, _, rfl, _, _, rfl, rfl, ?_, _, rfl, b, db, _, _, rfl, hib', rfl, _, _, rfl, rfl, ?_, _, rfl, _, rfl, _, rfl, _, rfl, (by show 2 ≤ sizeLine; decide), fun t1 n1 => ⟨(by show 1 ≤ sizeLine; decide), fun t2 n2 => ?_⟩⟩
        · rw [strB_length]
          exact line_ge (by show _ + 1 ≤ _; omega)
        · rw [show Str.ofString "." = strB (ValayBase.word ".") from rfl, ← strB_append, strB_length, strB_length, List.length_append]
          exact line_ge (by show _ + 1 + _ ≤ _; omega)
        refine push_guard (i := ls.length) (c := i) (guards_same I.gd (sd4.trans (but_del b46))) (by omega) hl6 (fun gg H7 s7 hgg => ?_) t1 n1 t2 n2
        refine ⟨c, l, gg, pr.2.2, ls ++ [p] ++ new, Valaya.dotted x pr.1.name, h, m, gs ++ [(ls.length, i)], by rw [dn], Lays.keeps (same_keeps (same_del s7)) _ _ _ hli6, fp.2.2.2.2, ec, by omega, nb_row hn.2 pr hpm, ?_, fun H8 new8 b8 l8 L8 => ?_⟩
        · refine ⟨s7 _ _ l6, hgg, by rw [List.length_append, List.length_singleton]; omega, dotted_nn I.xn, ?_, I.hh, I.ml, by rw [List.length_append, List.length_append, List.length_singleton]; omega⟩
          rw [dotted_l I.xn]
          omega
        · refine ⟨_, _, new ++ new8, rfl, b46.trans ((same_but s7).trans b8), ?_, ?_⟩
          · rw [l8, List.append_assoc (ls ++ [p])]
          · have et : altLeaves x h gs ls.length ((rowL fs).take (i + 1)) (ls.length + 1) 0 = altLeaves x h gs ls.length ((rowL fs).take i) (ls.length + 1) 0 ++ Valaya.leavesBy pr.2.2 (ls ++ [p] ++ new).length (Valaya.dotted x pr.1.name) h (gs ++ [(ls.length, i)]) none := by
              rw [← take_snoc hp, alt_snoc, ones_row hn.1 pr hpm, Nat.mul_one, alt_len, ← newlen, List.length_append, List.length_append, List.length_singleton, List.length_take, Nat.zero_add, Nat.min_eq_left (by have := (List.getElem?_eq_some_iff.mp hp).1; omega)]
            rw [et]
            exact paired_append (leafL_but L1 ((same_but s6).trans ((same_but s7).trans b8))) L8
      · rintro σ H' ⟨v, v2, new, rfl, b1, l1, L1⟩
        rw [List.length_map, blen, ← rowL_length, List.take_length, ← alt_is x h gs ls.length hf.1 hf.2.2.2] at L1
        refine q H' (p :: new) (p1.trans b1) ?_ ?_
        · rw [l1, List.append_assoc]
          rfl
        · simp only [Valaya.leavesBy]
          exact .cons (LeafAt.keeps p3 (same_keeps (but_del b1))) L1
    | named =>
      refine T.m_Named_lay.ok sc_Named_lay len_lay fun f cdv A outer s H vs Q E hr h => ?_
      obtain ⟨a, l, g, t, ls, x, h, m, gs, rfl, hL, hf, hc, hd, hn, I, q⟩ := h
      cases t <;> first | cases hc | skip
      rename_i y t
      obtain ⟨_, r, fl, lv, pl, bs, rs, cs, e, ⟨dx, h1⟩, ⟨dr, h2⟩, h3, h4, h5, h6, h7, h8⟩ := hL
      cases e
      obtain ⟨fs, et⟩ := hf.2.1
      subst et
      have hff : Fine (.rec_ fs) := hf.2.2
      have nl := I.nl
      have xl := I.xl
      have gl := I.gl
      have ml := I.ml
      simp only [Valaya.countLeaves] at nl
      have h1' := del_same' _ _ h1
      have h2' := del_same' _ _ h2
      have h5' := del_same' _ _ h5
      have lvl : lv ≠ l := fun z => by
        rw [z, del_same] at h5
        cases h5
      have hlne : H l ≠ none := by rw [I.lst]; simp
      have rlen : rs.length = Valaya.countLeaves fs := by
        rw [paired_len h6]
        exact leaves_length (.rec_ fs) _ _ _ _ _
      refine ⟨_, (pss_cons (ps_set (i := 5) sc_Named_lay.nd rfl (Or.inl rfl) (pe_callB call_len_seq (by rfl) T.f_len PySem.boot_len (pa_cons (pv 1) pa_nil)))
  (pss_one (ps_for PassesOwn.never rfl (pi_list (pe_fl T.c_Record T.na_Record_leaves (pe_fl T.c_Named T.na_Named_record (pv 0)))) (pg_name (i := 6) sc_Named_lay.nd rfl (Or.inl rfl)) (pss_one (ps_expr (pe_bm PySem.F.plainAttrs_list PySem.F.slot_list_append PySem.F.type_list_append mt_append (pv 1) (pa_cons (pe_me (pv 6) G_Leaf_within hr (by first | decide | omega) (pa_cons (pv 2) (pa_cons (pv 3) (pa_cons (pv 4) (pa_cons (pv 5) pa_nil))))) pa_nil))))))), ?_⟩
      refine ⟨_, rfl, l, _, rfl, .inl (SqL.of I.lst), ?_⟩
      rw [List.length_map]
      refine ⟨_, rfl, a, dx, _, _, rfl, h1', rfl, r, dr, _, _, rfl, h2', rfl, lv, rfl, ⟨_, SqL.of h5'⟩, for_list (K := K) (a := lv) (xs := rs.map V.ref) (fun i σ H' => ∃ (v : Option V) (new : List Addr), σ = [some (.ref a), some (.ref l), some (.str (strB x)), some (.int h), some (.ref g), some (.int (ls.length : Nat)), v] ∧ But l H H' ∧ H' l = some (.lst ((ls ++ new).map V.ref)) ∧
        LeafL K (del H' l) new (((Valaya.leavesOf (.rec_ fs)).take i).map (within ls.length x h gs))) ⟨none, [], rfl, But.refl _ _, by rw [List.append_nil]; exact I.lst, .nil⟩ (fun i σ H' _ z => by obtain ⟨v, new, _, b1, _⟩ := z; exact SqL.of (b1 _ _ h5' lvl)) ?_ ?_⟩
      · rintro i y σ H' hy ⟨v, new, rfl, b1, l1, L1⟩
        obtain ⟨p, hp, rfl⟩ := ref_item hy
        obtain ⟨f, hf0, hfa⟩ := paired_at h6 hp
        have hfm := List.mem_of_getElem? hf0
        have sd := but_del b1
        have hfa' := LeafAt.keeps hfa (same_keeps sd)
        have hfa2 := hfa'
        obtain ⟨g0, ⟨dp, hpi⟩, _⟩ := hfa2
        have hpi' := del_same' _ _ hpi
        have nlen : new.length ≤ i := by
          rw [paired_len L1, List.length_map, List.length_take]
          omega
        have hi := (List.getElem?_eq_some_iff.mp hp).1
        have hlne1 : H' l ≠ none := by rw [l1]; simp
        refine ⟨_, rfl, .inl ⟨rfl, _, SqL.of l1⟩, _, rfl, p, dp, _, rfl, hpi', rfl, _, rfl, _, rfl, _, rfl, _, rfl, ?_⟩
        refine ⟨p, g, l, f, x, h, ls.length, gs, rfl, hfa', guards_same I.gd sd, hlne1, I.xn, by omega, by have := (hn f hfm).1; omega, I.hh, by omega, by have := (hn f hfm).2; omega, fun z H3 nz s3 hz => ?_⟩
        have hl3 := s3 _ _ l1
        refine ⟨l, _, _, rfl, rfl, hl3, ?_, ?_⟩
        · rw [List.length_map, List.length_append, sizeLine_eq]
          omega
        · obtain ⟨p1, p2, p3⟩ := put_leaf (K := K) l1 (same_but s3) hl3 hz
          refine ⟨_, new ++ [z], rfl, b1.trans p1, ?_, ?_⟩
          · rw [p2, List.append_assoc]
          · have et : ((Valaya.leavesOf (.rec_ fs)).take (i + 1)).map (within ls.length x h gs) = ((Valaya.leavesOf (.rec_ fs)).take i).map (within ls.length x h gs) ++ [within ls.length x h gs f] := by
              rw [← take_snoc hf0, List.map_append]
              rfl
            rw [et]
            exact paired_append (leafL_but L1 p1) (.cons p3 .nil)
      · rintro σ H' ⟨v, new, rfl, b1, l1, L1⟩
        rw [List.length_map, rlen, show Valaya.countLeaves fs = (Valaya.leavesOf (.rec_ fs)).length from (leaves_length (.rec_ fs) _ _ _ _ _).symm, List.take_length, ← leaves_named fs ls.length h x gs (row_of hff.1 hff.2.2)] at L1
        exact q H' new b1 l1 L1
end
end Lv
set_option linter.all false
/-! Values counted and numbered, part by part, against the specification's own way. -/
namespace Lv
open Valaya ValayBase
abbrev cn (t : Ty) : Nat := countBy t false
def cprod : List Ty → Nat
  | [] => 1
  | t :: r => cn t * cprod r
def csum : List Ty → Nat
  | [] => 0
  | t :: r => cn t + csum r
def lsum : List Ty → Nat
  | [] => 0
  | t :: r => countLeaves t + lsum r
/-- the types of a row's parts -/
def tys (fs : Ty) : List Ty := (rowL fs).map fun p => p.2.2
theorem cprod_append : ∀ a b : List Ty, cprod (a ++ b) = cprod a * cprod b
  | [], b => (Nat.one_mul _).symm
  | t :: a, b => by
    show cn t * cprod (a ++ b) = cn t * cprod a * cprod b
    rw [cprod_append a b, Nat.mul_assoc]
theorem csum_append : ∀ a b : List Ty, csum (a ++ b) = csum a + csum b
  | [], b => (Nat.zero_add _).symm
  | t :: a, b => by
    show cn t + csum (a ++ b) = cn t + csum a + csum b
    rw [csum_append a b, Nat.add_assoc]
theorem lsum_append : ∀ a b : List Ty, lsum (a ++ b) = lsum a + lsum b
  | [], b => (Nat.zero_add _).symm
  | t :: a, b => by
    show countLeaves t + lsum (a ++ b) = countLeaves t + lsum a + lsum b
    rw [lsum_append a b, Nat.add_assoc]
theorem tys_field (x : PName) (h : Nat) (t r : Ty) : tys (.field x h t r) = t :: tys r := rfl
theorem tys_nil : tys .nil = [] := rfl
/-- a row: fields, one behind the other -/
theorem row_ind {Pr : Ty → Prop} (h0 : Pr .nil) (hs : ∀ x h t r, (clOf t).isSome = true → Fine t → isRow r = true → Fine r → Pr r → Pr (.field x h t r)) : ∀ {fs : Ty}, isRow fs = true → Fine fs → Pr fs := by
  intro fs
  induction fs with
  | nil => intro _ _; exact h0
  | field x h t r _ ih =>
    intro _ hf
    exact hs x h t r hf.2.2.2.1 hf.2.2.2.2.1 hf.2.2.2.2.2.1 hf.2.2.2.2.2.2 (ih hf.2.2.2.2.2.1 hf.2.2.2.2.2.2)
  | _ => intro h; cases h
theorem count_prod {fs : Ty} (hr : isRow fs = true) (hf : Fine fs) : countBy fs false = cprod (tys fs) := by
  refine row_ind (Pr := fun fs => countBy fs false = cprod (tys fs)) rfl (fun x h t r _ _ _ _ ih => ?_) hr hf
  rw [tys_field]
  show (if false = true then _ else countBy t false * countBy r false) = cn t * cprod (tys r)
  rw [if_neg (by decide), ih]
theorem count_sum {fs : Ty} (hr : isRow fs = true) (hf : Fine fs) : countBy fs true = csum (tys fs) := by
  refine row_ind (Pr := fun fs => countBy fs true = csum (tys fs)) rfl (fun x h t r _ _ _ _ ih => ?_) hr hf
  rw [tys_field]
  show (if true = true then countBy t false + countBy r true else _) = cn t + csum (tys r)
  rw [if_pos rfl, ih]
theorem lsum_row {fs : Ty} (hr : isRow fs = true) (hf : Fine fs) : countLeaves fs = lsum (tys fs) := by
  refine row_ind (Pr := fun fs => countLeaves fs = lsum (tys fs)) rfl (fun x h t r _ _ _ _ ih => ?_) hr hf
  rw [tys_field]
  show countLeaves t + countLeaves r = countLeaves t + lsum (tys r)
  rw [ih]
theorem cprod_rep (t : Ty) : ∀ n : Nat, cprod (List.replicate n t) = power (cn t) n
  | 0 => rfl
  | n + 1 => by
    rw [List.replicate_succ]
    show cn t * cprod (List.replicate n t) = cn t * power (cn t) n
    rw [cprod_rep t n]
theorem lsum_rep (t : Ty) : ∀ n : Nat, lsum (List.replicate n t) = n * countLeaves t
  | 0 => (Nat.zero_mul _).symm
  | n + 1 => by
    rw [List.replicate_succ]
    show countLeaves t + lsum (List.replicate n t) = _
    rw [lsum_rep t n, Nat.succ_mul, Nat.add_comm]
theorem tys_mem {fs : Ty} {t : Ty} (h : t ∈ tys fs) : ∃ p ∈ rowL fs, p.2.2 = t := List.mem_map.mp h
theorem tys_fine {fs : Ty} (hf : Fine fs) : ∀ t ∈ tys fs, (clOf t).isSome = true ∧ Fine t := fun t ht => by
  obtain ⟨p, hp, rfl⟩ := tys_mem ht
  have := fine_rowL hf p hp
  exact ⟨this.2.2.2.1, this.2.2.2.2⟩
theorem tys_length {fs : Ty} : (tys fs).length = rowLength fs := by
  unfold tys
  rw [List.length_map, rowL_length]
/-! ### there is a value -/
theorem cprod_pos : ∀ {l : List Ty}, (∀ t ∈ l, 1 ≤ cn t) → 1 ≤ cprod l
  | [], _ => Nat.le_refl 1
  | t :: r, h => Nat.mul_pos (h t (List.mem_cons_self ..)) (cprod_pos fun u hu => h u (List.mem_cons_of_mem _ hu))
theorem csum_pos {l : List Ty} (h : ∀ t ∈ l, 1 ≤ cn t) (hl : 1 ≤ l.length) : 1 ≤ csum l := by
  cases l with
  | nil => exact absurd hl (by decide)
  | cons t r =>
    have := h t (List.mem_cons_self ..)
    show 1 ≤ cn t + csum r
    omega
theorem count_pos : ∀ {t : Ty}, Fine t → (isRow t = false ∨ True) → (1 ≤ countBy t false) ∧ (isRow t = true → 1 ≤ rowLength t → 1 ≤ countBy t true) := by
  intro t
  induction t with
  | num lo hi al =>
    intro h _
    refine ⟨?_, fun z => by cases z⟩
    show 1 ≤ (hi - lo + 1).toNat
    have := h.2.1
    omega
  | maybe t ih =>
    intro h _
    refine ⟨?_, fun z => by cases z⟩
    show 1 ≤ 1 + countBy t false
    omega
  | many n t ih =>
    intro h _
    refine ⟨?_, fun z => by cases z⟩
    show 1 ≤ power (countBy t false) n
    rw [← cprod_rep]
    exact cprod_pos fun u hu => by rw [(List.mem_replicate.mp hu).2]; exact (ih h.2.2.2 (.inr trivial)).1
  | one_ fs ih =>
    intro h _
    refine ⟨?_, fun z => by cases z⟩
    show 1 ≤ countBy fs true
    exact (ih h.2.2.2 (.inr trivial)).2 h.1 (by have := h.2.1; omega)
  | named x t ih =>
    intro h _
    exact ⟨(ih h.2.2 (.inr trivial)).1, fun z => by cases z⟩
  | rec_ fs ih =>
    intro h _
    exact ⟨(ih h.2.2 (.inr trivial)).1, fun z => by cases z⟩
  | nil => intro _ _; exact ⟨Nat.le_refl 1, fun _ h => absurd h (by decide)⟩
  | field x hh t r iht ihr =>
    intro h _
    have a := (iht h.2.2.2.2.1 (.inr trivial)).1
    have b := (ihr h.2.2.2.2.2.2 (.inr trivial)).1
    refine ⟨?_, fun _ _ => ?_⟩
    · show 1 ≤ (if false = true then _ else countBy t false * countBy r false)
      rw [if_neg (by decide)]
      exact Nat.mul_pos a b
    · show 1 ≤ (if true = true then countBy t false + countBy r true else _)
      rw [if_pos rfl]
      omega
theorem cn_pos {t : Ty} (h : Fine t) : 1 ≤ cn t := (count_pos h (.inr trivial)).1
/-! ### how many at most -/
theorem two_le {a b : Nat} (ha : 1 ≤ a) (hb : 1 ≤ b) : 2 ^ a + 2 ^ b ≤ 2 ^ (a + b) := by
  obtain ⟨a, rfl⟩ : ∃ c, a = c + 1 := ⟨a - 1, by omega⟩
  obtain ⟨b, rfl⟩ : ∃ c, b = c + 1 := ⟨b - 1, by omega⟩
  rw [show a + 1 + (b + 1) = (a + b + 1) + 1 by omega, Nat.pow_succ 2 (a + b + 1), Nat.pow_succ 2 a, Nat.pow_succ 2 b, Nat.pow_succ 2 (a + b)]
  have h1 : 2 ^ a ≤ 2 ^ (a + b) := Nat.pow_le_pow_right (by decide) (by omega)
  have h2 : 2 ^ b ≤ 2 ^ (a + b) := Nat.pow_le_pow_right (by decide) (by omega)
  omega
theorem count_le : ∀ {t : Ty}, Fine t → countBy t false ≤ 2 ^ (21 * countLeaves t) ∧ (isRow t = true → countBy t true ≤ 2 ^ (21 * countLeaves t)) := by
  intro t
  induction t with
  | num lo hi al =>
    intro h
    refine ⟨?_, fun z => by cases z⟩
    show (hi - lo + 1).toNat ≤ 2 ^ (21 * 1)
    have := h.1
    have := h.2.1
    have := h.2.2.1
    have e : 2 ^ (21 * 1) = 2097152 := by decide
    rw [e]
    omega
  | maybe t ih =>
    intro h
    refine ⟨?_, fun z => by cases z⟩
    show 1 + countBy t false ≤ 2 ^ (21 * (1 + countLeaves t))
    have a := (ih h.2).1
    have e : 21 * (1 + countLeaves t) = 20 + 21 * countLeaves t + 1 := by omega
    rw [e, Nat.pow_succ]
    have b : 2 ^ (21 * countLeaves t) ≤ 2 ^ (20 + 21 * countLeaves t) := Nat.pow_le_pow_right (by decide) (by omega)
    have c : 1 ≤ 2 ^ (21 * countLeaves t) := Nat.one_le_two_pow
    omega
  | many n t ih =>
    intro h
    refine ⟨?_, fun z => by cases z⟩
    show power (countBy t false) n ≤ 2 ^ (21 * (n * countLeaves t))
    have a := (ih h.2.2.2).1
    have : ∀ n : Nat, power (countBy t false) n ≤ 2 ^ (21 * (n * countLeaves t)) := by
      intro n
      induction n with
      | zero => rw [Nat.zero_mul]; exact Nat.le_refl 1
      | succ n ihn =>
        have e : 21 * ((n + 1) * countLeaves t) = 21 * countLeaves t + 21 * (n * countLeaves t) := by
          have e0 : (n + 1) * countLeaves t = n * countLeaves t + countLeaves t := Nat.succ_mul ..
          rw [e0]
          omega
        rw [e, Nat.pow_add]
        exact Nat.mul_le_mul a ihn
    exact this n
  | one_ fs ih =>
    intro h
    refine ⟨?_, fun z => by cases z⟩
    show countBy fs true ≤ 2 ^ (21 * (1 + countLeaves fs))
    exact Nat.le_trans ((ih h.2.2.2).2 h.1) (Nat.pow_le_pow_right (by decide) (by omega))
  | named x t ih => intro h; exact ⟨(ih h.2.2).1, fun z => by cases z⟩
  | rec_ fs ih => intro h; exact ⟨(ih h.2.2).1, fun z => by cases z⟩
  | nil => intro _; exact ⟨Nat.le_refl 1, fun _ => Nat.zero_le _⟩
  | field x hh t r iht ihr =>
    intro h
    have a := (iht h.2.2.2.2.1).1
    have b := (ihr h.2.2.2.2.2.2)
    have lt : 1 ≤ countLeaves t := leaves_pos h.2.2.2.2.1 (.inl (shape_row h.2.2.2.1))
    have e : 21 * countLeaves (.field x hh t r) = 21 * countLeaves t + 21 * countLeaves r := by
      show 21 * (countLeaves t + countLeaves r) = _
      omega
    rw [e]
    refine ⟨?_, fun _ => ?_⟩
    · show (if false = true then _ else countBy t false * countBy r false) ≤ _
      rw [if_neg (by decide), Nat.pow_add]
      exact Nat.mul_le_mul a b.1
    · show (if true = true then countBy t false + countBy r true else _) ≤ _
      rw [if_pos rfl]
      have b2 := b.2 h.2.2.2.2.2.1
      by_cases hr : countLeaves r = 0
      · have z : countBy r true = 0 := by
          cases r with
          | nil => rfl
          | field x2 h2 t2 r2 =>
            have : 1 ≤ countLeaves (.field x2 h2 t2 r2) := leaves_pos h.2.2.2.2.2.2 (.inr (by simp [rowLength]))
            omega
          | _ => cases h.2.2.2.2.2.1
        rw [z, Nat.add_zero]
        exact Nat.le_trans a (Nat.pow_le_pow_right (by decide) (by omega))
      · exact Nat.le_trans (Nat.add_le_add a b2) (two_le (by omega) (by omega))
/-- parts have no more values than all together -/
theorem cprod_part : ∀ {l : List Ty}, (∀ t ∈ l, 1 ≤ cn t) → ∀ t ∈ l, cn t ≤ cprod l
  | [], _, t, h => by cases h
  | u :: r, hp, t, h => by
    have hu := hp u (List.mem_cons_self ..)
    have hr := cprod_pos fun v hv => hp v (List.mem_cons_of_mem _ hv)
    show cn t ≤ cn u * cprod r
    rcases List.mem_cons.mp h with rfl | h
    · exact Nat.le_mul_of_pos_right _ hr
    · exact Nat.le_trans (cprod_part (fun v hv => hp v (List.mem_cons_of_mem _ hv)) t h) (Nat.le_mul_of_pos_left _ hu)
theorem cprod_take {l : List Ty} (hp : ∀ t ∈ l, 1 ≤ cn t) (i : Nat) : cprod (l.take i) ≤ cprod l := by
  have e := cprod_append (l.take i) (l.drop i)
  rw [List.take_append_drop] at e
  rw [e]
  exact Nat.le_mul_of_pos_right _ (cprod_pos fun t ht => hp t (List.mem_of_mem_drop ht))
theorem cprod_drop {l : List Ty} (hp : ∀ t ∈ l, 1 ≤ cn t) (i : Nat) : cprod (l.drop i) ≤ cprod l := by
  have e := cprod_append (l.take i) (l.drop i)
  rw [List.take_append_drop] at e
  rw [e]
  exact Nat.le_mul_of_pos_left _ (cprod_pos fun t ht => hp t (List.mem_of_mem_take ht))
theorem csum_part : ∀ {l : List Ty}, ∀ t ∈ l, cn t ≤ csum l
  | [], t, h => by cases h
  | u :: r, t, h => by
    show cn t ≤ cn u + csum r
    rcases List.mem_cons.mp h with rfl | h
    · exact Nat.le_add_right ..
    · exact Nat.le_trans (csum_part t h) (Nat.le_add_left ..)
/-! ### the n-th value -/
def nthRow : List Ty → Nat → List Int
  | [], _ => []
  | t :: r, n => nthBy t none (n / cprod r) ++ nthRow r (n % cprod r)
theorem nth_row {fs : Ty} (hr : isRow fs = true) (hf : Fine fs) : ∀ n, nthBy fs none n = nthRow (tys fs) n := by
  refine row_ind (Pr := fun fs => ∀ n, nthBy fs none n = nthRow (tys fs) n) (fun _ => rfl) (fun x h t r _ _ hr hf ih n => ?_) hr hf
  rw [tys_field]
  show nthBy t none (n / countBy r false) ++ nthBy r none (n % countBy r false) = nthBy t none (n / cprod (tys r)) ++ nthRow (tys r) (n % cprod (tys r))
  rw [ih, count_prod hr hf]
theorem nth_many (t : Ty) : ∀ k n, nthMany (nthBy t none) (cn t) k n = nthRow (List.replicate k t) n
  | 0, _ => rfl
  | k + 1, n => by
    rw [List.replicate_succ]
    show nthBy t none (n / power (cn t) k) ++ nthMany (nthBy t none) (cn t) k (n % power (cn t) k) = nthBy t none (n / cprod (List.replicate k t)) ++ nthRow (List.replicate k t) (n % cprod (List.replicate k t))
    rw [nth_many t k, cprod_rep]
def nthAlt : List Ty → Nat → Nat → List Int
  | [], _, _ => []
  | t :: r, k, n => if n < cn t then (k : Int) :: nthBy t none n else nthAlt r (k + 1) (n - cn t)
theorem nth_alt {fs : Ty} (hr : isRow fs = true) (hf : Fine fs) : ∀ k n, nthBy fs (some k) n = nthAlt (tys fs) k n := by
  refine row_ind (Pr := fun fs => ∀ k n, nthBy fs (some k) n = nthAlt (tys fs) k n) (fun _ _ => rfl) (fun x h t r _ _ hr hf ih k n => ?_) hr hf
  rw [tys_field]
  show (if n < countBy t false then (k : Int) :: nthBy t none n else nthBy r (some (k + 1)) (n - countBy t false)) = (if n < cn t then (k : Int) :: nthBy t none n else nthAlt (tys r) (k + 1) (n - cn t))
  rw [ih]
theorem nth_len : ∀ (t : Ty), (∀ n, (nthBy t none n).length ≤ countLeaves t) ∧ (∀ k n, (nthBy t (some k) n).length ≤ 1 + countLeaves t) := by
  intro t
  induction t with
  | num lo hi al => exact ⟨fun n => Nat.le_refl 1, fun k n => by show 1 ≤ 1 + 1; decide⟩
  | maybe t ih =>
    have : ∀ n, (nthBy (.maybe t) none n).length ≤ countLeaves (.maybe t) := fun n => by
      show (if n = 0 then [0] else 1 :: nthBy t none (n - 1)).length ≤ 1 + countLeaves t
      have := ih.1 (n - 1)
      split
      · simp
      · rw [List.length_cons]
        omega
    exact ⟨this, fun k n => Nat.le_trans (this n) (by omega)⟩
  | many c t ih =>
    have : ∀ n, (nthBy (.many c t) none n).length ≤ countLeaves (.many c t) := fun n => by
      show (nthMany (nthBy t none) (countBy t false) c n).length ≤ c * countLeaves t
      have key : ∀ (c n : Nat), (nthMany (nthBy t none) (countBy t false) c n).length ≤ c * countLeaves t := by
        intro c
        induction c with
        | zero => intro n; exact Nat.zero_le _
        | succ c ihc =>
          intro n
          show (nthBy t none _ ++ nthMany (nthBy t none) (countBy t false) c _).length ≤ _
          rw [List.length_append]
          have a := ih.1 (n / power (countBy t false) c)
          have b := ihc (n % power (countBy t false) c)
          have e : (c + 1) * countLeaves t = c * countLeaves t + countLeaves t := Nat.succ_mul ..
          omega
      exact key c n
    exact ⟨this, fun k n => Nat.le_trans (this n) (by omega)⟩
  | rec_ fs ih => exact ⟨ih.1, fun k n => Nat.le_trans (ih.1 n) (by show countLeaves fs ≤ 1 + countLeaves fs; omega)⟩
  | named x t ih => exact ⟨ih.1, fun k n => Nat.le_trans (ih.1 n) (by show countLeaves t ≤ 1 + countLeaves t; omega)⟩
  | one_ fs ih => exact ⟨fun n => ih.2 0 n, fun k n => Nat.le_trans (ih.2 0 n) (by show 1 + countLeaves fs ≤ 1 + (1 + countLeaves fs); omega)⟩
  | nil => exact ⟨fun n => Nat.le_refl 0, fun k n => Nat.zero_le _⟩
  | field x h t r iht ihr =>
    refine ⟨fun n => ?_, fun k n => ?_⟩
    · show (nthBy t none (n / countBy r false) ++ nthBy r none (n % countBy r false)).length ≤ countLeaves t + countLeaves r
      rw [List.length_append]
      have a := iht.1 (n / countBy r false)
      have b := ihr.1 (n % countBy r false)
      omega
    · show (if n < countBy t false then (k : Int) :: nthBy t none n else nthBy r (some (k + 1)) (n - countBy t false)).length ≤ 1 + (countLeaves t + countLeaves r)
      have a := iht.1 n
      have b := ihr.2 (k + 1) (n - countBy t false)
      split
      · rw [List.length_cons]
        omega
      · omega
theorem nth_part (t : Ty) (n : Nat) : (nthBy t none n).length ≤ countLeaves t := (nth_len t).1 n
theorem lsum_take : ∀ (l : List Ty) (i : Nat), lsum (l.take i) ≤ lsum l := fun l i => by
  have e := lsum_append (l.take i) (l.drop i)
  rw [List.take_append_drop] at e
  omega
theorem csum_drop_lt {l : List Ty} {j n : Nat} (h : n < csum (l.drop j)) : j < l.length := by
  rcases Nat.lt_or_ge j l.length with z | z
  · exact z
  · rw [List.drop_eq_nil_of_le z] at h
    exact absurd h (Nat.not_lt_zero _)
/-! ### a value's number -/
def idxRow : List Ty → List Int → Nat × List Int
  | [], l => (0, l)
  | t :: r, l => ((indexBy t none l).1 * cprod r + (idxRow r (indexBy t none l).2).1, (idxRow r (indexBy t none l).2).2)
theorem idx_row {fs : Ty} (hr : isRow fs = true) (hf : Fine fs) : ∀ l, indexBy fs none l = idxRow (tys fs) l := by
  refine row_ind (Pr := fun fs => ∀ l, indexBy fs none l = idxRow (tys fs) l) (fun _ => rfl) (fun x h t r _ _ hr hf ih l => ?_) hr hf
  rw [tys_field]
  show ((indexBy t none l).1 * countBy r false + (indexBy r none (indexBy t none l).2).1, (indexBy r none (indexBy t none l).2).2) = _
  rw [ih, count_prod hr hf]
  rfl
theorem idx_many (t : Ty) : ∀ k l, indexMany (indexBy t none) (cn t) k l = idxRow (List.replicate k t) l
  | 0, _ => rfl
  | k + 1, l => by
    rw [List.replicate_succ]
    show ((indexBy t none l).1 * power (cn t) k + (indexMany (indexBy t none) (cn t) k (indexBy t none l).2).1, (indexMany (indexBy t none) (cn t) k (indexBy t none l).2).2) = _
    rw [idx_many t k, ← cprod_rep]
    rfl
def takeRow : List Ty → List Int → Option (List (Option Nat) × List Int)
  | [], l => some ([], l)
  | t :: r, l => (takeValue t none l).bind fun x => (takeRow r x.2).map fun y => (x.1 ++ y.1, y.2)
theorem take_row {fs : Ty} (hr : isRow fs = true) (hf : Fine fs) : ∀ l, takeValue fs none l = takeRow (tys fs) l := by
  refine row_ind (Pr := fun fs => ∀ l, takeValue fs none l = takeRow (tys fs) l) (fun _ => rfl) (fun x h t r _ _ hr hf ih l => ?_) hr hf
  rw [tys_field]
  show ((takeValue t none l).bind fun x => (takeValue r none x.2).map fun y => (x.1 ++ y.1, y.2)) = ((takeValue t none l).bind fun x => (takeRow (tys r) x.2).map fun y => (x.1 ++ y.1, y.2))
  congr 1
  funext x
  rw [ih]
theorem take_many (t : Ty) : ∀ k l, takeMany (takeValue t none) k l = takeRow (List.replicate k t) l
  | 0, _ => rfl
  | k + 1, l => by
    rw [List.replicate_succ]
    show ((takeValue t none l).bind fun x => (takeMany (takeValue t none) k x.2).map fun y => (x.1 ++ y.1, y.2)) = ((takeValue t none l).bind fun x => (takeRow (List.replicate k t) x.2).map fun y => (x.1 ++ y.1, y.2))
    congr 1
    funext x
    rw [take_many t k]
theorem takeRow_cons {t : Ty} {r : List Ty} {l : List Int} {c : List (Option Nat)} {l' : List Int} (h : takeRow (t :: r) l = some (c, l')) : ∃ c1 l1 c2, takeValue t none l = some (c1, l1) ∧ takeRow r l1 = some (c2, l') ∧ c = c1 ++ c2 := by
  have h : ((takeValue t none l).bind fun x => (takeRow r x.2).map fun y => (x.1 ++ y.1, y.2)) = some (c, l') := h
  obtain ⟨x, hx, h⟩ := Option.bind_eq_some_iff.mp h
  obtain ⟨y, hy, h⟩ := Option.map_eq_some_iff.mp h
  cases h
  exact ⟨x.1, x.2, y.1, hx, hy, rfl⟩
/-- of a row one alternative -/
theorem take_alt {fs : Ty} (hr : isRow fs = true) (hf : Fine fs) : ∀ (j : Nat) (l : List Int) (c : List (Option Nat)) (l' : List Int), j < rowLength fs → takeValue fs (some j) l = some (c, l') →
    ∃ t c1 k, (tys fs)[j]? = some t ∧ takeValue t none l = some (c1, l') ∧ c = List.replicate (lsum ((tys fs).take j)) none ++ (c1 ++ List.replicate k none) ∧
      indexBy fs (some j) l = (csum ((tys fs).take j) + (indexBy t none l).1, (indexBy t none l).2) := by
  refine row_ind (Pr := fun fs => ∀ (j : Nat) (l : List Int) (c : List (Option Nat)) (l' : List Int), j < rowLength fs → takeValue fs (some j) l = some (c, l') →
    ∃ t c1 k, (tys fs)[j]? = some t ∧ takeValue t none l = some (c1, l') ∧ c = List.replicate (lsum ((tys fs).take j)) none ++ (c1 ++ List.replicate k none) ∧
      indexBy fs (some j) l = (csum ((tys fs).take j) + (indexBy t none l).1, (indexBy t none l).2)) ?_ ?_ hr hf
  · intro j l c l' hj
    exact absurd hj (Nat.not_lt_zero _)
  · intro x h t r _ _ _ _ ih j l c l' hj ht
    rw [tys_field]
    cases j with
    | zero =>
      have ht : ((takeValue t none l).map fun x => (x.1 ++ absent r, x.2)) = some (c, l') := ht
      obtain ⟨y, hy, e⟩ := Option.map_eq_some_iff.mp ht
      cases e
      refine ⟨t, y.1, countLeaves r, rfl, hy, rfl, ?_⟩
      show indexBy t none l = (0 + _, _)
      rw [Nat.zero_add]
    | succ j =>
      have ht : ((takeValue r (some j) l).map fun x => (absent t ++ x.1, x.2)) = some (c, l') := ht
      obtain ⟨y, hy, e⟩ := Option.map_eq_some_iff.mp ht
      cases e
      obtain ⟨u, c1, k, h1, h2, h3, h4⟩ := ih j l y.1 y.2 (by have : j + 1 < rowLength r + 1 := hj; omega) hy
      refine ⟨u, c1, k, by simpa using h1, h2, ?_, ?_⟩
      · show absent t ++ y.1 = List.replicate (countLeaves t + lsum ((tys r).take j)) none ++ _
        rw [h3, ← List.append_assoc, ← List.append_assoc, ← List.append_assoc]
        unfold absent
        rw [List.replicate_append_replicate]
      · show (countBy t false + (indexBy r (some j) l).1, (indexBy r (some j) l).2) = (cn t + csum ((tys r).take j) + _, _)
        rw [h4]
        show (cn t + (csum ((tys r).take j) + _), _) = _
        rw [Nat.add_assoc]
/-- what is left of the numbers -/
theorem idx_rest : ∀ (t : Ty), Fine t → ((clOf t).isSome = true → ∀ (l : List Int) (c : List (Option Nat)) (r : List Int), takeValue t none l = some (c, r) → (indexBy t none l).2 = r) ∧ ((isRow t = true ∨ ∃ fs, t = .rec_ fs) → ∀ (l : List Int) (c : List (Option Nat)) (r : List Int), takeValue t none l = some (c, r) → (indexBy t none l).2 = r) ∧ (isRow t = true → ∀ (j : Nat) (l : List Int) (c : List (Option Nat)) (r : List Int), j < rowLength t → takeValue t (some j) l = some (c, r) → (indexBy t (some j) l).2 = r) := by
  intro t
  induction t with
  | num lo hi al =>
    intro hf
    refine ⟨fun _ l c r h => ?_, (fun z => by rcases z with z | ⟨_, z⟩ <;> cases z), (fun z => by cases z)⟩
    cases l with
    | nil => cases h
    | cons v l =>
      simp only [takeValue] at h
      split at h
      · cases h
        rfl
      · cases h
  | maybe t ih =>
    intro hf
    refine ⟨fun _ l c r h => ?_, (fun z => by rcases z with z | ⟨_, z⟩ <;> cases z), (fun z => by cases z)⟩
    simp only [takeValue] at h
    split at h
    · cases h
      rfl
    · rename_i l'
      obtain ⟨y, hy, e⟩ := Option.map_eq_some_iff.mp h
      cases e
      have := (ih hf.2).1 hf.1 _ _ _ hy
      show (if (1 : Int) = 0 then _ else ((indexBy t none l').1 + 1, (indexBy t none l').2)).2 = _
      rw [if_neg (by decide)]
      exact this
    · cases h
  | many n t ih =>
    intro hf
    refine ⟨fun _ l c r h => ?_, (fun z => by rcases z with z | ⟨_, z⟩ <;> cases z), (fun z => by cases z)⟩
    have h : takeMany (takeValue t none) n l = some (c, r) := h
    show (indexMany (indexBy t none) (cn t) n l).2 = r
    rw [take_many] at h
    rw [idx_many]
    have : ∀ (n : Nat) (l : List Int) (c : List (Option Nat)) (r : List Int), takeRow (List.replicate n t) l = some (c, r) → (idxRow (List.replicate n t) l).2 = r := by
      intro n
      induction n with
      | zero => intro l c r h; cases h; rfl
      | succ n ihn =>
        intro l c r h
        rw [List.replicate_succ] at h ⊢
        obtain ⟨c1, l1, c2, a1, a2, _⟩ := takeRow_cons h
        show (idxRow (List.replicate n t) (indexBy t none l).2).2 = r
        rw [(ih hf.2.2.2).1 hf.2.2.1 _ _ _ a1]
        exact ihn _ _ _ a2
    exact this n l c r h
  | one_ fs ih =>
    intro hf
    refine ⟨fun _ l c r h => ?_, (fun z => by rcases z with z | ⟨_, z⟩ <;> cases z), (fun z => by cases z)⟩
    cases l with
    | nil => cases h
    | cons v l =>
      simp only [takeValue] at h
      split at h
      · rename_i hv
        obtain ⟨y, hy, e⟩ := Option.map_eq_some_iff.mp h
        cases e
        exact (ih hf.2.2.2).2.2 hf.1 v.toNat l _ _ (by omega) hy
      · cases h
  | named x t ih =>
    intro hf
    refine ⟨fun _ l c r h => ?_, (fun z => by rcases z with z | ⟨_, z⟩ <;> cases z), (fun z => by cases z)⟩
    exact (ih hf.2.2).2.1 (.inr hf.2.1) l c r h
  | rec_ fs ih =>
    intro hf
    refine ⟨(fun z => by cases z), fun _ l c r h => (ih hf.2.2).2.1 (.inl hf.1) l c r h, (fun z => by cases z)⟩
  | nil =>
    intro hf
    refine ⟨(fun z => by cases z), fun _ l c r h => ?_, fun _ j l c r hj => absurd hj (Nat.not_lt_zero _)⟩
    cases h
    rfl
  | field x hh t r iht ihr =>
    intro hf
    have one := (iht hf.2.2.2.2.1).1 hf.2.2.2.1
    have two := (ihr hf.2.2.2.2.2.2).2
    refine ⟨(fun z => by cases z), fun _ l c r' h => ?_, fun _ j l c r' hj h => ?_⟩
    · have h : ((takeValue t none l).bind fun x => (takeValue r none x.2).map fun y => (x.1 ++ y.1, y.2)) = some (c, r') := h
      obtain ⟨y, hy, h⟩ := Option.bind_eq_some_iff.mp h
      obtain ⟨z, hz, e⟩ := Option.map_eq_some_iff.mp h
      cases e
      show (indexBy r none (indexBy t none l).2).2 = _
      rw [one l y.1 y.2 hy]
      exact two.1 (.inl hf.2.2.2.2.2.1) _ _ _ hz
    · cases j with
      | zero =>
        have h : ((takeValue t none l).map fun x => (x.1 ++ absent r, x.2)) = some (c, r') := h
        obtain ⟨y, hy, e⟩ := Option.map_eq_some_iff.mp h
        cases e
        exact one l _ _ hy
      | succ j =>
        have h : ((takeValue r (some j) l).map fun x => (absent t ++ x.1, x.2)) = some (c, r') := h
        obtain ⟨y, hy, e⟩ := Option.map_eq_some_iff.mp h
        cases e
        exact two.2 hf.2.2.2.2.2.1 j l _ _ (by have : j + 1 < rowLength r + 1 := hj; omega) hy
theorem rest_of {t : Ty} (hf : Fine t) (hc : (clOf t).isSome = true) {l : List Int} {c : List (Option Nat)} {r : List Int} (h : takeValue t none l = some (c, r)) : (indexBy t none l).2 = r := (idx_rest t hf).1 hc l c r h
end Lv
set_option Elab.async false
set_option linter.all false
set_option maxRecDepth 100000
set_option maxHeartbeats 4000000
set_option exponentiation.threshold 1000
namespace Lv
open PySem PySem.Spec PyProof.Rows L2 TL
open Valaya (Ty)
/-! ### great numbers -/
section
variable {X : Cx}
theorem iop_mulW : OpR X (inplaceOp .Mult) (rI CMulW fun i j => .int (i * j)) := opI fun _ _ _ _ _ _ _ hc q => imul_int q hc.ok
theorem ip_mulW : PIp X .Mult (rI CMulW fun i j => .int (i * j)) := fun pins s σ H x y v u Q I rx ry h => iop_mulW pins s σ H x y v u Q I rx ry h
theorem ip_fdivW : PIp X .FloorDiv (rI CDivW fun i j => .int (i / j)) := fun pins s σ H x y v u Q I rx ry h => iop_fdivW pins s σ H x y v u Q I rx ry h
theorem ip_modP : PIp X .Mod (rI (fun _ j => 0 < j) fun i j => .int (i % j)) := fun pins s σ H x y v u Q I rx ry h => iop_mod pins s σ H x y v u Q I rx ry h
end
def BIG : Nat := 2 ^ 600
theorem big_mul {a b : Nat} (ha : a < BIG) (hb : b < BIG) : CMulW (a : Int) (b : Int) := wide_mul (a := 600) (b := 600) ha hb (by decide) (by decide) (by decide)
theorem big_div {i : Int} {b : Nat} (h0 : 0 < b) (hb : b < BIG) : CDivW i (b : Int) := wide_div (b := 600) (by omega) hb (by decide) (by decide)
/-! the same, of naturals -/
def rMulN : R2 := fun x y H Q => ∃ a b : Nat, x = .int a ∧ y = .int b ∧ a < BIG ∧ b < BIG ∧ Q (.int ((a * b : Nat) : Int)) H
def rDivN : R2 := fun x y H Q => ∃ a b : Nat, x = .int a ∧ y = .int b ∧ 0 < b ∧ b < BIG ∧ Q (.int ((a / b : Nat) : Int)) H
def rModN : R2 := fun x y H Q => ∃ a b : Nat, x = .int a ∧ y = .int b ∧ 0 < b ∧ Q (.int ((a % b : Nat) : Int)) H
/-- * where the second is small -/
def rMulS : R2 := fun x y H Q => ∃ a b : Nat, x = .int a ∧ y = .int b ∧ b ≤ 1000000000000000000 ∧ Q (.int ((a * b : Nat) : Int)) H
section
variable {X : Cx}
theorem ip_mulN : PIp X .Mult rMulN := fun pins s σ H x y v u Q I rx ry h => by
  obtain ⟨a, b, rfl, rfl, ha, hb, q⟩ := h
  rw [Int.natCast_mul] at q
  exact iop_mulW pins s σ H _ _ v u Q I rx ry ⟨_, _, rfl, rfl, big_mul ha hb, q⟩
theorem ip_divN : PIp X .FloorDiv rDivN := fun pins s σ H x y v u Q I rx ry h => by
  obtain ⟨a, b, rfl, rfl, h0, hb, q⟩ := h
  rw [Int.natCast_ediv] at q
  exact iop_fdivW pins s σ H _ _ v u Q I rx ry ⟨_, _, rfl, rfl, big_div h0 hb, q⟩
theorem op_divN : OpR X (binaryOp .FloorDiv) rDivN := fun pins s σ H x y v u Q I rx ry h => by
  obtain ⟨a, b, rfl, rfl, h0, hb, q⟩ := h
  rw [Int.natCast_ediv] at q
  exact op_fdivW pins s σ H _ _ v u Q I rx ry ⟨_, _, rfl, rfl, big_div h0 hb, q⟩
theorem ip_modN : PIp X .Mod rModN := fun pins s σ H x y v u Q I rx ry h => by
  obtain ⟨a, b, rfl, rfl, h0, q⟩ := h
  rw [Int.natCast_emod] at q
  exact iop_mod pins s σ H _ _ v u Q I rx ry ⟨_, _, rfl, rfl, (by show (0 : Int) < (b : Int); omega), q⟩
theorem op_mulS : OpR X (binaryOp .Mult) rMulS := fun pins s σ H x y v u Q I rx ry h => by
  obtain ⟨a, b, rfl, rfl, hb, q⟩ := h
  rw [Int.natCast_mul] at q
  exact op_mul pins s σ H _ _ v u Q I rx ry ⟨_, _, rfl, rfl, .inr ⟨by omega, by omega⟩, q⟩
end
theorem small_big {a : Nat} (h : a ≤ 1000000000000000000) : a < BIG := by
  refine Nat.lt_of_le_of_lt h ?_
  show 1000000000000000000 < 2 ^ 600
  decide
section
variable {P : Program} {w : World} {K : PySem.W.Frag} {mg : Str → Option Value} {base : Heap}
/-! ### several parts -/
def PartsAt (K : PySem.W.Frag) (H : Hp) (cs : List Addr) (ts : List Ty) : Prop := Paired (fun c t => Lays K H t false [c]) cs ts
theorem PartsAt.keeps {H H' : Hp} {cs : List Addr} {ts : List Ty} (h : PartsAt K H cs ts) (k : Keeps K H H') : PartsAt K H' cs ts := paired_mono (fun _ _ z => Lays.keeps k _ _ _ z) h
theorem parts_rep {H : Hp} {c : Addr} {t : Ty} (h : Lays K H t false [c]) : ∀ n : Nat, PartsAt K H (List.replicate n c) (List.replicate n t)
  | 0 => .nil
  | n + 1 => by
    rw [List.replicate_succ, List.replicate_succ]
    exact .cons h (parts_rep h n)
theorem parts_alts {H : Hp} : ∀ {ps : List (ValayBase.PName × Nat × Ty)} {bs : List Addr}, Paired (fun b p => ItemAt K H false b p) bs ps → ∃ cs, Paired (fun b c => ∃ x, Ins H b (cA K) [("name", x), ("inner", .ref c)]) bs cs ∧ PartsAt K H cs (ps.map fun p => p.2.2)
  | [], _, h => by
    cases h
    exact ⟨[], .nil, .nil⟩
  | p :: ps, _, h => by
    cases h with
    | cons h1 h2 =>
      obtain ⟨c, h3, h4⟩ := h1
      obtain ⟨cs, a, b⟩ := parts_alts h2
      rw [if_neg (by decide)] at h3
      exact ⟨c :: cs, .cons ⟨_, h3⟩ a, .cons h4 b⟩
theorem parts_fields {H : Hp} : ∀ {ps : List (ValayBase.PName × Nat × Ty)} {bs cs : List Addr}, Paired (fun b p => ItemAt K H true b p) bs ps → InnerOf K H bs cs → PartsAt K H cs (ps.map fun p => p.2.2)
  | [], _, _, h, hi => by
    cases h
    cases hi
    exact .nil
  | p :: ps, _, _, h, hi => by
    cases h with
    | cons h1 h2 =>
      cases hi with
      | cons i1 i2 =>
        obtain ⟨c, h3, h4⟩ := h1
        rw [if_pos rfl] at h3
        obtain ⟨x, hh, d, i1⟩ := i1
        obtain ⟨d2, h3⟩ := h3
        rw [h3] at i1
        cases i1
        exact .cons h4 (parts_fields h2 i2)
/-- what is asked of parts -/
structure PartOk (n : Nat) (t : Ty) : Prop where
  fine : Fine t
  sh : (clOf t).isSome = true
  dp : dep t ≤ n
theorem PartOk.pos {n : Nat} {ts : List Ty} (h : ∀ t ∈ ts, PartOk n t) : ∀ t ∈ ts, 1 ≤ cn t := fun t ht => cn_pos (h t ht).fine
/-! ### how many values -/
def spValues (K : PySem.W.Frag) (n : Nat) (c : Cl) : Sp := fun vs H Q _ => ∃ (a : Addr) (t : Ty), vs = [.ref a] ∧ Lays K H t false [a] ∧ Fine t ∧ clOf t = some c ∧ dep t ≤ n ∧ cn t < BIG ∧ ∀ H', Same H H' → Q (.int (cn t : Nat)) H'
theorem len_values {n : Nat} {c : Cl} : Len (spValues K n c) ["self"] := fun vs H Q E h => by
  obtain ⟨a, t, rfl, _⟩ := h
  rfl
abbrev ValAt (P : Program) (w : World) (K : PySem.W.Frag) (mg : Str → Option Value) (base : Heap) (n : Nat) : Prop := ∀ c : Cl, MeAt P w K mg base CX0 (2 * n + 1) (c.addr K) "value_count" ["self"] (spValues K n c)
theorem val_ask {n : Nat} {σ : L2.St} {H : Hp} {t : Ty} {a : Addr} {Q : VK} (h : Lays K H t false [a]) (hf : Fine t) (hc : (clOf t).isSome = true) (hn : dep t ≤ n) (hb : cn t < BIG) (q : ∀ H', Same H H' → Q (.int (cn t : Nat)) H') :
    ∃ (c : Cl) (a' dx : Addr) (fs : List (Str × V)), V.ref a = .ref a' ∧ H a' = some (.ins (c.addr K) dx fs) ∧ fs.lookup ("value_count" : Str) = none ∧ tNil σ H fun vs H2 => spValues K n c (V.ref a :: vs) H2 Q E0 := by
  obtain ⟨c, dx, fs, e1, e2, e3⟩ := h.cl hc (m := "value_count") (by decide)
  exact ⟨c, a, dx, fs, rfl, e2, e3, a, t, rfl, h, hf, e1, hn, hb, q⟩
def spCountRow (K : PySem.W.Frag) (n : Nat) : Sp := fun vs H Q _ => ∃ (l : Addr) (cs : List Addr) (ts : List Ty), vs = [.ref l] ∧ H l = some (.lst (cs.map V.ref)) ∧ PartsAt K H cs ts ∧ (∀ t ∈ ts, PartOk n t) ∧ cprod ts < BIG ∧ ∀ H', Same H H' → Q (.int (cprod ts : Nat)) H'
theorem cprod_snoc {ts : List Ty} {i : Nat} {t : Ty} (h : ts[i]? = some t) : cprod (ts.take (i + 1)) = cprod (ts.take i) * cn t := by
  rw [← take_snoc h, cprod_append]
  show _ * (cn t * 1) = _
  rw [Nat.mul_one]
theorem ok_count_row (T : Txt K mg) {n : Nat} (G_U_value_count : ValAt P w K mg base n) : FnAt P w K mg base CX0 (2 * n + 2) "count_row" ["parts"] (spCountRow K n) := by
  refine T.d_count_row.ok sc_count_row (fun vs H Q E h => by obtain ⟨l, cs, ts, rfl, _⟩ := h; rfl) fun f cdv A outer s H vs Q E hr h => ?_
  obtain ⟨l, cs, ts, rfl, hl, hP, hO, hB, q⟩ := h
  have hpos := PartOk.pos hO
  refine ⟨_, (pss_cons (ps_set (i := 1) sc_count_row.nd rfl (Or.inl rfl) pe_int)
  (pss_cons (ps_for PassesOwn.never rfl (pi_list (pv 0)) (pg_name (i := 2) sc_count_row.nd rfl (Or.inl rfl)) (pss_one (ps_aug (i := 1) sc_count_row.nd rfl (Or.inl rfl) (pe_meU0 (pv 2) G_U_value_count hr (by first | decide | omega)) ip_mulN)))
  (pss_one (ps_ret (pv 1))))), ?_⟩
  refine ⟨_, rfl, l, rfl, ⟨_, SqL.of hl⟩, for_list (K := K) (a := l) (xs := cs.map V.ref) (fun i σ H' => ∃ (x : Option V), σ = [some (.ref l), some (.int (cprod (ts.take i) : Nat)), x] ∧ Same H H')
    ⟨none, rfl, Same.refl H⟩ (fun i σ H' _ z => by obtain ⟨x, _, s2⟩ := z; exact SqL.of (s2 _ _ hl)) ?_ ?_⟩
  · rintro i y σ H' hy ⟨x, rfl, s2⟩
    obtain ⟨c, hc, rfl⟩ := ref_item hy
    obtain ⟨t, ht, hlt⟩ := paired_at hP hc
    have hm := List.mem_of_getElem? ht
    have ho := hO t hm
    have hct : cn t < BIG := Nat.lt_of_le_of_lt (cprod_part hpos t hm) hB
    refine ⟨_, rfl, _, rfl, val_ask (Lays.keeps (same_keeps s2) _ _ _ hlt) ho.fine ho.sh ho.dp hct fun H3 s3 => ?_⟩
    refine ⟨_, _, rfl, rfl, Nat.lt_of_le_of_lt (cprod_take hpos i) hB, hct, ?_⟩
    refine ⟨some (.ref c), ?_, s2.trans s3⟩
    rw [cprod_snoc ht]
    rfl
  · rintro σ H' ⟨x, rfl, s2⟩
    refine ⟨_, rfl, ?_⟩
    rw [List.length_map, paired_len hP, List.take_length]
    exact q H' s2
def spManyRow (K : PySem.W.Frag) : Sp := fun vs H Q _ => ∃ (a b : Addr) (n : Nat), vs = [.ref a] ∧ Ins H a (cY K) [("times", .int n), ("inner", .ref b)] ∧ n ≤ 8 ∧ ∀ (p : Addr) (H' : Hp), H p = none → Same H H' → H' p = some (.lst ((List.replicate n b).map V.ref)) → Q (.ref p) H'
theorem ok_Many_row (T : Txt K mg) : MeAt P w K mg base CX0 1 (cY K) "row" ["self"] (spManyRow K) := by
  refine T.m_Many_row.ok sc_Many_row (fun vs H Q E h => by obtain ⟨a, b, n, rfl, _⟩ := h; rfl) fun f cdv A outer s H vs Q E hr h => ?_
  obtain ⟨a, b, n, rfl, ⟨dx, h1⟩, hn, q⟩ := h
  refine ⟨_, (pss_one (ps_ret (pe_op op_rep (pe_lst (pa_cons (pe_fl T.c_Many T.na_Many_inner (pv 0)) pa_nil)) (pe_fl T.c_Many T.na_Many_times (pv 0))))), ?_⟩
  refine ⟨_, rfl, a, dx, _, _, rfl, h1, rfl, (by show 1 ≤ sizeLine; decide), fun z nz => ⟨_, rfl, a, dx, _, _, rfl, same_upd nz _ _ h1, rfl, ?_⟩⟩
  refine ⟨z, (n : Int), _, rfl, rfl, upd_same, by omega, by omega, ?_, fun p np => ?_⟩
  · show 1 * (n : Int).toNat ≤ sizeLine
    rw [sizeLine_eq]
    omega
  · refine q p _ ((same_upd nz).free np) ((same_upd nz).trans (same_upd np)) ?_
    rw [upd_same, Int.toNat_natCast, List.flatten_replicate_singleton, List.map_replicate]
theorem many_pow {n : Nat} {t : Ty} : cn (.many n t) = cprod (List.replicate n t) := (cprod_rep t n).symm
theorem one_sum {fs : Ty} (h : Fine (.one_ fs)) : cn (.one_ fs) = csum (tys fs) := count_sum h.1 h.2.2.2
theorem int_sum (ts : List Ty) : ((ts.map fun t => (cn t : Int)).sum) = (csum ts : Nat) := by
  induction ts with
  | nil => rfl
  | cons t r ih =>
    rw [List.map_cons, List.sum_cons, ih]
    show _ = ((cn t + csum r : Nat) : Int)
    omega
theorem ok_value_count (T : Txt K mg) : ∀ n : Nat, ValAt P w K mg base n := by
  intro n
  induction n with
  | zero =>
    intro c
    have no : ∀ {vs : List V} {H : Hp} {Q : VK} {E : XK}, spValues K 0 c vs H Q E → False := fun {vs H Q E} h => by
      obtain ⟨a, t, _, _, _, hc, hd, _⟩ := h
      have := dep_pos (t := t) (by rw [hc]; rfl)
      omega
    cases c with
    | num => exact T.m_Number_value_count.ok sc_Number_value_count len_values fun f cdv A outer s H vs Q E hr h => (no h).elim
    | maybe => exact T.m_Maybe_value_count.ok sc_Maybe_value_count len_values fun f cdv A outer s H vs Q E hr h => (no h).elim
    | many => exact T.m_Many_value_count.ok sc_Many_value_count len_values fun f cdv A outer s H vs Q E hr h => (no h).elim
    | one => exact T.m_One_value_count.ok sc_One_value_count len_values fun f cdv A outer s H vs Q E hr h => (no h).elim
    | named => exact T.m_Named_value_count.ok sc_Named_value_count len_values fun f cdv A outer s H vs Q E hr h => (no h).elim
  | succ n ih =>
    have G_U_value_count : ValAt P w K mg base n := ih
    have G_count_row := ok_count_row (P := P) (w := w) (base := base) T ih
    have G_Many_row := ok_Many_row (P := P) (w := w) (base := base) T
    intro c
    cases c with
    | num =>
      refine T.m_Number_value_count.ok sc_Number_value_count len_values fun f cdv A outer s H vs Q E hr h => ?_
      obtain ⟨a, t, rfl, hl, hf, hc, hd, hB, q⟩ := h
      cases t <;> first | cases hc | skip
      rename_i lo hi al
      obtain ⟨_, e, dx, h1⟩ := hl
      cases e
      refine ⟨_, (pss_one (ps_ret (pe_op op_add (pe_op op_sub (pe_fl T.c_Number T.na_Number_last (pv 0)) (pe_fl T.c_Number T.na_Number_first (pv 0))) pe_int))), ?_⟩
      refine ⟨_, rfl, a, dx, _, _, rfl, h1, rfl, _, rfl, a, dx, _, _, rfl, h1, rfl, _, _, rfl, rfl, _, _, rfl, rfl, ?_⟩
      have := q H (Same.refl H)
      have e : ((cn (.num lo hi al) : Nat) : Int) = hi - lo + 1 := by
        show (((hi - lo + 1).toNat : Nat) : Int) = _
        have := hf.2.1
        omega
      rw [e] at this
      exact this
    | maybe =>
      refine T.m_Maybe_value_count.ok sc_Maybe_value_count len_values fun f cdv A outer s H vs Q E hr h => ?_
      obtain ⟨a, t, rfl, hl, hf, hc, hd, hB, q⟩ := h
      cases t <;> first | cases hc | skip
      rename_i t
      obtain ⟨_, b, e, ⟨dx, h1⟩, h2⟩ := hl
      cases e
      have ec : cn (.maybe t) = 1 + cn t := rfl
      refine ⟨_, (pss_one (ps_ret (pe_op op_add pe_int (pe_meU0 (pe_fl T.c_Maybe T.na_Maybe_inner (pv 0)) G_U_value_count hr (by first | decide | omega))))), ?_⟩
      refine ⟨_, rfl, a, dx, _, _, rfl, h1, rfl, val_ask h2 hf.2 hf.1 (by simp only [dep] at hd; omega) (by omega) fun H' s' => ⟨_, _, rfl, rfl, ?_⟩⟩
      have := q H' s'
      rw [ec, Int.natCast_add] at this
      exact this
    | many =>
      refine T.m_Many_value_count.ok sc_Many_value_count len_values fun f cdv A outer s H vs Q E hr h => ?_
      obtain ⟨a, t, rfl, hl, hf, hc, hd, hB, q⟩ := h
      cases t <;> first | cases hc | skip
      rename_i k t
      obtain ⟨_, b, e, ⟨dx, h1⟩, h2⟩ := hl
      cases e
      rw [many_pow] at hB q
      refine ⟨_, (pss_one (ps_ret (pe_fn G_count_row hr (by first | decide | omega) (pa_cons (pe_me0 (pv 0) G_Many_row hr (by first | decide | omega)) pa_nil)))), ?_⟩
      refine ⟨_, rfl, a, dx, _, rfl, h1, rfl, a, b, k, rfl, ⟨dx, h1⟩, hf.2.1, fun p H2 np s2 hp => ?_⟩
      refine ⟨p, _, _, rfl, hp, parts_rep (Lays.keeps (same_keeps s2) _ _ _ h2) k, fun u hu => ?_, hB, fun H3 s3 => q H3 (s2.trans s3)⟩
      rw [(List.mem_replicate.mp hu).2]
      exact ⟨hf.2.2.2, hf.2.2.1, by simp only [dep] at hd; omega⟩
    | one =>
      refine T.m_One_value_count.ok sc_One_value_count len_values fun f cdv A outer s H vs Q E hr h => ?_
      obtain ⟨a, t, rfl, hl, hf, hc, hd, hB, q⟩ := h
      cases t <;> first | cases hc | skip
      rename_i fs
      obtain ⟨_, l, bs, e, ⟨dx, h1⟩, h2, h3⟩ := hl
      cases e
      rw [one_sum hf] at hB q
      have hrow := Lays.row hf.1 hf.2.2.2 h3
      refine ⟨_, (pss_one (ps_ret (pe_callB (cr_sum rfl) (by rfl) T.f_sum (by decide +kernel) (pa_cons (by exact (pe_lc (own := [("alternative", 1)]) (g := (gName 1)) (tt := tYes) (by rfl) sc_One_value_count.nd (pi_list (pe_fl T.c_One T.na_One_alternatives (pv 0))) (blkOk_by (own := [("alternative", 1)]) (N := ["self", "alternative"]) (sc := defScope s_One_value_count) (by decide +kernel)) (fun _ _ _ _ _ => by exact (pg_name (i := 1) sc_One_value_count.nd rfl (Or.inl rfl))) (fun _ _ _ _ _ => pts_nil) (fun _ _ _ _ _ => by exact (pe_meU0 (pe_fl T.c_Alternative T.na_Alternative_inner (pv 1)) G_U_value_count hr (by first | decide | omega))))) pa_nil)))), ?_⟩
      refine ⟨_, rfl, a, dx, _, _, rfl, h1, rfl, l, rfl, ⟨_, SqL.of h2⟩, fun D nD => lc_to (K := K) (a := l) (ys := ((tys fs).map fun t => (cn t : Int)).map V.int) nD (SqL.of h2) (by unfold tys; simp only [List.length_map]; rw [paired_len hrow]) (fun i y z H2 hy hz s2 e2 => ?_) fun H2 s2 e2 => ?_⟩
      · obtain ⟨b, hb, rfl⟩ := ref_item hy
        obtain ⟨p, hp, c, hi, hli⟩ := paired_at hrow hb
        have hi' : Ins H b (cA K) [("name", .str (strB p.1.name)), ("inner", .ref c)] := by
          rw [if_neg (by decide)] at hi
          exact hi
        obtain ⟨db, hi'⟩ := hi'
        have ez : z = V.int (cn p.2.2 : Nat) := by
          unfold tys at hz
          rw [List.getElem?_map, List.getElem?_map, List.getElem?_map, hp] at hz
          exact (Option.some.inj hz).symm
        subst ez
        have hpm := List.mem_of_getElem? hp
        have fp := fine_rowL hf.2.2.2 p hpm
        have dp := dep_row p hpm
        have cb : cn p.2.2 ≤ csum (tys fs) := csum_part _ (List.mem_map.mpr ⟨p, hpm, rfl⟩)
        refine ⟨rfl, ?_⟩
        refine ⟨_, rfl, b, db, _, _, rfl, s2 _ _ hi', rfl, val_ask (Lays.keeps (same_keeps s2) _ _ _ hli) fp.2.2.2.2 fp.2.2.2.1 (by simp only [dep] at hd; omega) (by omega) fun H4 s4 => ?_⟩
        exact lc_put nD (s2.trans s4) (s4 _ _ e2) hz (by rw [List.length_map, List.length_map, tys_length, sizeLine_eq]; have := hf.2.2.1; omega)
      · refine ⟨D, _, rfl, SqL.of e2, ?_⟩
        rw [int_sum]
        exact q H2 s2
    | named =>
      refine T.m_Named_value_count.ok sc_Named_value_count len_values fun f cdv A outer s H vs Q E hr h => ?_
      obtain ⟨a, t, rfl, hl, hf, hc, hd, hB, q⟩ := h
      cases t <;> first | cases hc | skip
      rename_i x t
      obtain ⟨_, r, l, lv, pl, bs, ls, cs, e, ⟨dx, h1⟩, ⟨dr, h2⟩, h3, h4, h5, h6, h7, h8⟩ := hl
      cases e
      refine ⟨_, (pss_one (ps_ret (pe_fl T.c_Record T.na_Record_total (pe_fl T.c_Named T.na_Named_record (pv 0))))), ?_⟩
      exact ⟨_, rfl, a, dx, _, _, rfl, h1, rfl, r, dr, _, _, rfl, h2, rfl, q H (Same.refl H)⟩
end
end Lv
set_option Elab.async false
set_option linter.all false
set_option maxRecDepth 100000
set_option maxHeartbeats 4000000
set_option exponentiation.threshold 1000
namespace Lv
open PySem PySem.Spec PyProof.Rows L2 TL
open Valaya (Ty)
/-- a field as it is read -/
structure FieldIn (m : Nat) (p : ValayBase.PName × Nat × Ty) : Prop where
  nm : nameOk p.1.name
  h1 : 1 ≤ p.2.1
  h2 : p.2.1 ≤ 1000
  sh : (clOf p.2.2).isSome = true
  fine : Fine p.2.2
  dp : dep p.2.2 ≤ 6
  nb : nb m p.2.2
def leafSum (ps : List (ValayBase.PName × Nat × Ty)) : Nat := (ps.map fun p => Valaya.countLeaves p.2.2).sum
theorem count_rowOf : ∀ ps : List (ValayBase.PName × Nat × Ty), Valaya.countLeaves (Valaya.rowOf ps) = leafSum ps
  | [] => rfl
  | p :: ps => by
    show Valaya.countLeaves p.2.2 + Valaya.countLeaves (Valaya.rowOf ps) = _
    rw [count_rowOf ps]
    rfl
/-- the leaves of fields -/
def fldLeaves : List (ValayBase.PName × Nat × Ty) → Nat → List Valaya.Leaf
  | [], _ => []
  | p :: r, k => Valaya.leavesBy p.2.2 k p.1.name p.2.1 [] none ++ fldLeaves r (k + Valaya.countLeaves p.2.2)
theorem fld_is : ∀ (ps : List (ValayBase.PName × Nat × Ty)) (k : Nat), Valaya.leavesBy (Valaya.rowOf ps) k [] 1 [] none = fldLeaves ps k
  | [], _ => rfl
  | p :: ps, k => by
    show Valaya.leavesBy p.2.2 k (Valaya.dotted [] p.1.name) (1 * p.2.1) [] none ++ Valaya.leavesBy (Valaya.rowOf ps) (k + Valaya.countLeaves p.2.2) [] 1 [] none = _
    rw [fld_is ps, Nat.one_mul]
    rfl
theorem fld_snoc (p : ValayBase.PName × Nat × Ty) : ∀ (l : List (ValayBase.PName × Nat × Ty)) (k : Nat), fldLeaves (l ++ [p]) k = fldLeaves l k ++ Valaya.leavesBy p.2.2 (k + (fldLeaves l k).length) p.1.name p.2.1 [] none
  | [], k => by simp [fldLeaves]
  | a :: l, k => by
    show _ ++ fldLeaves (l ++ [p]) _ = (_ ++ fldLeaves l _) ++ _
    rw [fld_snoc p l, List.append_assoc]
    congr 2
    simp only [fldLeaves, List.length_append, leaves_length]
    congr 1
    omega
theorem fld_len : ∀ (l : List (ValayBase.PName × Nat × Ty)) (k : Nat), (fldLeaves l k).length = leafSum l
  | [], _ => rfl
  | a :: l, k => by
    show (_ ++ fldLeaves l _).length = _
    rw [List.length_append, leaves_length, fld_len l]
    rfl
section
variable {P : Program} {w : World} {K : PySem.W.Frag} {mg : Str → Option Value} {base : Heap}
def FieldsAt (K : PySem.W.Frag) (H : Hp) (bs : List Addr) (ps : List (ValayBase.PName × Nat × Ty)) : Prop := Paired (fun b p => ItemAt K H true b p) bs ps
theorem ItemAt.keeps {H H' : Hp} (k : Keeps K H H') {f : Bool} {b : Addr} {p : ValayBase.PName × Nat × Ty} (h : ItemAt K H f b p) : ItemAt K H' f b p := by
  obtain ⟨c, h1, h2⟩ := h
  refine ⟨c, ?_, Lays.keeps k _ _ _ h2⟩
  by_cases hf : f = true
  · rw [if_pos hf] at h1 ⊢
    exact k.ins _ _ _ h1 (by simp; decide) (by simp; decide) (by simp; decide)
  · rw [if_neg hf] at h1 ⊢
    exact k.ins _ _ _ h1 (by simp; decide) (by simp; decide) (by simp; decide)
theorem FieldsAt.keeps {H H' : Hp} (k : Keeps K H H') {bs : List Addr} {ps : List (ValayBase.PName × Nat × Ty)} (h : FieldsAt K H bs ps) : FieldsAt K H' bs ps := paired_mono (fun _ _ z => ItemAt.keeps k z) h
def spCountLeaves (K : PySem.W.Frag) : Sp := fun vs H Q _ => ∃ (l : Addr) (bs : List Addr) (ps : List (ValayBase.PName × Nat × Ty)) (m : Nat), vs = [.ref l] ∧ H l = some (.lst (bs.map V.ref)) ∧ FieldsAt K H bs ps ∧ (∀ p ∈ ps, FieldIn m p) ∧ ps.length ≤ 8192 ∧ ∀ H', Same H H' → Q (.int (leafSum ps : Nat)) H'
theorem ok_count_leaves (T : Txt K mg) : FnAt P w K mg base CX0 8 "count_leaves" ["fields"] (spCountLeaves K) := by
  have G_U_leaf_count := ok_leaf_count (P := P) (w := w) (base := base) T 6
  refine T.d_count_leaves.ok sc_count_leaves (fun vs H Q E h => by obtain ⟨l, bs, ps, m, rfl, _⟩ := h; rfl) fun f cdv A outer s H vs Q E hr h => ?_
  obtain ⟨l, bs, ps, m, rfl, hl, hF, hI, hz, q⟩ := h
  refine ⟨_, (pss_one (ps_ret (pe_callB (cr_sum rfl) (by rfl) T.f_sum (by decide +kernel) (pa_cons (by exact (pe_lc (own := [("field", 1)]) (g := (gName 1)) (tt := tYes) (by rfl) sc_count_leaves.nd (pi_list (pv 0)) (blkOk_by (own := [("field", 1)]) (N := ["fields", "field"]) (sc := defScope s_count_leaves) (by decide +kernel)) (fun _ _ _ _ _ => by exact (pg_name (i := 1) sc_count_leaves.nd rfl (Or.inl rfl))) (fun _ _ _ _ _ => pts_nil) (fun _ _ _ _ _ => by exact (pe_meU0 (pe_fl T.c_Field T.na_Field_inner (pv 1)) G_U_leaf_count hr (by first | decide | omega))))) pa_nil)))), ?_⟩
  refine ⟨_, rfl, l, rfl, ⟨_, SqL.of hl⟩, fun D nD => lc_to (K := K) (a := l) (ys := (ps.map fun p => (Valaya.countLeaves p.2.2 : Int)).map V.int) nD (SqL.of hl) (by rw [List.length_map, List.length_map, List.length_map, paired_len hF]) (fun i y z H2 hy hz2 s2 e2 => ?_) fun H2 s2 e2 => ?_⟩
  · obtain ⟨b, hb, rfl⟩ := ref_item hy
    obtain ⟨p, hp, c, hi, hli⟩ := paired_at hF hb
    rw [if_pos rfl] at hi
    obtain ⟨db, hi'⟩ := hi
    have ez : z = V.int (Valaya.countLeaves p.2.2 : Nat) := by
      rw [List.getElem?_map, List.getElem?_map, hp] at hz2
      exact (Option.some.inj hz2).symm
    subst ez
    have fp := hI p (List.mem_of_getElem? hp)
    refine ⟨rfl, ?_⟩
    refine ⟨_, rfl, b, db, _, _, rfl, s2 _ _ hi', rfl, cnt_ask (Lays.keeps (same_keeps s2) _ _ _ hli) fp.fine fp.sh fp.dp fun H4 s4 => ?_⟩
    exact lc_put nD (s2.trans s4) (s4 _ _ e2) hz2 (by rw [List.length_map, List.length_map, sizeLine_eq]; omega)
  · refine ⟨D, _, rfl, SqL.of e2, ?_⟩
    have es : ((ps.map fun p => (Valaya.countLeaves p.2.2 : Int)).sum) = (leafSum ps : Nat) := by
      have : ∀ l : List (ValayBase.PName × Nat × Ty), ((l.map fun p => (Valaya.countLeaves p.2.2 : Int)).sum) = (leafSum l : Nat) := by
        intro l
        induction l with
        | nil => rfl
        | cons x l ih =>
          rw [List.map_cons, List.sum_cons, ih]
          show _ = (((Valaya.countLeaves x.2.2 + leafSum l : Nat)) : Int)
          omega
      exact this _
    rw [es]
    exact q H2 s2
def spLaidOut (K : PySem.W.Frag) : Sp := fun vs H Q _ => ∃ (l : Addr) (bs : List Addr) (ps : List (ValayBase.PName × Nat × Ty)) (m : Nat), vs = [.ref l] ∧ H l = some (.lst (bs.map V.ref)) ∧ FieldsAt K H bs ps ∧ (∀ p ∈ ps, FieldIn m p) ∧ m ≤ 2000 ∧ leafSum ps ≤ 24 ∧
  ∀ (H' : Hp) (p : Addr) (ls : List Addr), H p = none → Same H H' → H' p = some (.lst (ls.map V.ref)) → LeafL K H' ls (fldLeaves ps 0) → Q (.ref p) H'
theorem sum_take_le {ps : List (ValayBase.PName × Nat × Ty)} {i : Nat} {p : ValayBase.PName × Nat × Ty} (hp : ps[i]? = some p) : leafSum (ps.take i) + Valaya.countLeaves p.2.2 ≤ leafSum ps := by
  have e0 := List.take_append_drop (i + 1) ps
  have : leafSum (ps.take (i + 1)) ≤ leafSum ps := by
    conv => rhs; rw [← e0]
    unfold leafSum
    rw [List.map_append, List.sum_append]
    omega
  rw [← take_snoc hp] at this
  unfold leafSum at this ⊢
  rw [List.map_append, List.sum_append] at this
  simpa using this
theorem ok_laid_out (T : Txt K mg) : FnAt P w K mg base CX0 11 "laid_out" ["fields"] (spLaidOut K) := by
  have G_U_lay := ok_lay (P := P) (w := w) (base := base) T 6
  refine T.d_laid_out.ok sc_laid_out (fun vs H Q E h => by obtain ⟨l, bs, ps, m, rfl, _⟩ := h; rfl) fun f cdv A outer s H vs Q E hr h => ?_
  obtain ⟨fl, bs, ps, m, rfl, hl, hF, hI, hm, h24, q⟩ := h
  refine ⟨_, (pss_cons (ps_set (i := 1) sc_laid_out.nd rfl (Or.inl rfl) (pe_lst pa_nil))
  (pss_cons (ps_for PassesOwn.never rfl (pi_list (pv 0)) (pg_name (i := 2) sc_laid_out.nd rfl (Or.inl rfl)) (pss_one (ps_expr (pe_meU (pe_fl T.c_Field T.na_Field_inner (pv 2)) G_U_lay hr (by first | decide | omega) (pa_cons (pv 1) (pa_cons (pe_fl T.c_Field T.na_Field_name (pv 2)) (pa_cons (pe_fl T.c_Field T.na_Field_hot (pv 2)) (pa_cons (pe_tup pa_nil) pa_nil))))))))
  (pss_one (ps_ret (pv 1))))), ?_⟩
  refine ⟨by decide, fun l nl => ?_⟩
  have s1 : Same H (upd H l (.lst [])) := same_upd nl
  have sd1 : Same H (del (upd H l (.lst [])) l) := fun b o h => by
    rw [del_upd, del_ne (ne_of_none h nl)]
    exact h
  refine ⟨_, rfl, fl, rfl, ⟨_, SqL.of (s1 _ _ hl)⟩, for_list (K := K) (a := fl) (xs := bs.map V.ref) (fun i σ H' => ∃ (v : Option V) (ls : List Addr), σ = [some (.ref fl), some (.ref l), v] ∧ Same H (del H' l) ∧ H' l = some (.lst (ls.map V.ref)) ∧ LeafL K (del H' l) ls (fldLeaves (ps.take i) 0))
    ⟨none, [], rfl, sd1, upd_same, .nil⟩ (fun i σ H' _ z => by obtain ⟨v, ls, _, s, _⟩ := z; exact SqL.of (del_same' _ _ (s _ _ hl))) ?_ ?_⟩
  · rintro i y σ H' hy ⟨v, ls, rfl, s2, l2, L2⟩
    obtain ⟨b, hb, rfl⟩ := ref_item hy
    obtain ⟨p, hp, c, hi, hli⟩ := paired_at hF hb
    rw [if_pos rfl] at hi
    obtain ⟨db, hi'⟩ := hi
    have fp := hI p (List.mem_of_getElem? hp)
    have hib := del_same' _ _ (s2 _ _ hi')
    have hli2 : Lays K (del H' l) p.2.2 false [c] := Lays.keeps (same_keeps s2) _ _ _ hli
    obtain ⟨cl, dc, fc, ec, hcc, lk⟩ := lay_at hli2 fp.sh
    have lslen : ls.length = leafSum (ps.take i) := by rw [paired_len L2, fld_len]
    have tot := sum_take_le hp
    have hlne : H' l ≠ none := by rw [l2]; simp
    have nxl := fp.nm.2
    refine ⟨_, rfl, b, db, _, _, rfl, hib, rfl, cl, c, dc, fc, rfl, hcc, lk, ?_⟩
    refine ⟨_, rfl, _, rfl, b, db, _, _, rfl, hib, rfl, _, rfl, b, db, _, _, rfl, hib, rfl, by decide, fun g ng => ?_⟩
    have s3 : Same H' (upd H' g (.tup [])) := same_upd ng
    have hgl : g ≠ l := fun z => hlne (z ▸ ng)
    refine ⟨c, l, g, p.2.2, ls, p.1.name, p.2.1, m, [], rfl, Lays.keeps (same_keeps (same_del s3)) _ _ _ hli2, fp.fine, ec, fp.dp, fp.nb, ?_, fun H6 new b6 l6 L6 => ?_⟩
    · refine ⟨s3 _ _ l2, ⟨[], SqT.of (by rw [del_ne hgl, upd_same]; rfl), .nil⟩, by simp, fp.nm.1, by omega, fp.h2, hm, by omega⟩
    · refine ⟨_, ls ++ new, rfl, s2.trans ((same_del s3).trans (but_del b6)), l6, ?_⟩
      have et : fldLeaves (ps.take (i + 1)) 0 = fldLeaves (ps.take i) 0 ++ Valaya.leavesBy p.2.2 ls.length p.1.name p.2.1 [] none := by
        rw [← take_snoc hp, fld_snoc, fld_len, ← lslen, Nat.zero_add]
      rw [et]
      exact paired_append (leafL_but L2 ((same_but s3).trans b6)) L6
  · rintro σ H' ⟨v, ls, rfl, s2, l2, L2⟩
    rw [List.length_map, paired_len hF, List.take_length] at L2
    exact ⟨_, rfl, q H' l ls nl (s2.trans del_same') l2 (L2.keeps (same_keeps del_same'))⟩
/-! ### a record -/
theorem sqT_ins {H : Hp} {p C dx : Addr} {fs0 : List (Str × V)} {o : HO} (hp : H p = some (.ins C dx fs0)) {a : Addr} {xs : List V} (h : SqT K H a xs) : SqT K (upd H p o) a xs := by
  rcases h with (h | ⟨u, h⟩) | h
  · refine .inl (.inl ?_)
    rw [upd_ne fun z => by rw [z, hp] at h; cases h]
    exact h
  · refine .inl (.inr ⟨u, ?_⟩)
    rw [upd_ne fun z => by rw [z, hp] at h; cases h]
    exact h
  · exact .inr h
theorem leafL_ins {H : Hp} {p C dx : Addr} {fs0 : List (Str × V)} {o : HO} (hp : H p = some (.ins C dx fs0)) (hl : fs0.length ≠ 7) {ls : List Addr} {fs : List Valaya.Leaf} (h : LeafL K H ls fs) : LeafL K (upd H p o) ls fs := by
  refine paired_mono (fun a f z => ?_) h
  obtain ⟨g, ⟨d, h1⟩, as, h2, h3⟩ := z
  refine ⟨g, ⟨d, ?_⟩, as, sqT_ins hp h2, paired_mono (fun b q z => ?_) h3⟩
  · rw [upd_ne fun z => by
      rw [z, hp] at h1
      cases h1
      exact hl rfl]
    exact h1
  · show upd H p o b = _
    have z' : H b = some (.tup [.int q.1, .int q.2]) := z
    rw [upd_ne fun e => by rw [e, hp] at z'; cases z']
    exact z'
theorem count_rowOf' : ∀ ps : List (ValayBase.PName × Nat × Ty), Valaya.countBy (Valaya.rowOf ps) false = cprod (ps.map fun p => p.2.2)
  | [] => rfl
  | p :: ps => by
    show (if false = true then _ else Valaya.countBy p.2.2 false * Valaya.countBy (Valaya.rowOf ps) false) = cn p.2.2 * cprod (ps.map fun p => p.2.2)
    rw [if_neg (by decide), count_rowOf' ps]
theorem lsum_leafSum : ∀ ps : List (ValayBase.PName × Nat × Ty), lsum (ps.map fun p => p.2.2) = leafSum ps
  | [] => rfl
  | p :: ps => by
    show Valaya.countLeaves p.2.2 + lsum (ps.map fun p => p.2.2) = Valaya.countLeaves p.2.2 + leafSum ps
    rw [lsum_leafSum ps]
theorem cprod_le : ∀ {ts : List Ty}, (∀ t ∈ ts, Fine t) → cprod ts ≤ 2 ^ (21 * lsum ts)
  | [], _ => Nat.le_refl 1
  | t :: r, h => by
    show cn t * cprod r ≤ 2 ^ (21 * (Valaya.countLeaves t + lsum r))
    rw [Nat.mul_add, Nat.pow_add]
    exact Nat.mul_le_mul (count_le (h t (List.mem_cons_self ..))).1 (cprod_le fun u hu => h u (List.mem_cons_of_mem _ hu))
theorem cprod_big {ts : List Ty} (h : ∀ t ∈ ts, Fine t) (h24 : lsum ts ≤ 24) : cprod ts < BIG := by
  refine Nat.lt_of_le_of_lt (cprod_le h) ?_
  show _ < 2 ^ 600
  exact Nat.pow_lt_pow_right (by decide) (by omega)
theorem inner_fields {H : Hp} : ∀ {ps : List (ValayBase.PName × Nat × Ty)} {bs : List Addr}, FieldsAt K H bs ps → ∃ cs, InnerOf K H bs cs ∧ PartsAt K H cs (ps.map fun p => p.2.2)
  | [], _, h => by
    cases h
    exact ⟨[], .nil, .nil⟩
  | p :: ps, _, h => by
    cases h with
    | cons h1 h2 =>
      obtain ⟨c, h3, h4⟩ := h1
      obtain ⟨cs, a, b⟩ := inner_fields h2
      rw [if_pos rfl] at h3
      exact ⟨c :: cs, .cons ⟨_, _, h3⟩ a, .cons h4 b⟩
def spRecInit (K : PySem.W.Frag) : Sp := fun vs H Q _ => ∃ (p dx l : Addr) (x : ValayBase.Bytes) (bs : List Addr) (ps : List (ValayBase.PName × Nat × Ty)) (m : Nat), vs = [.ref p, .str (strB x), .ref l] ∧ H p = some (.ins (cR K) dx []) ∧ H l = some (.lst (bs.map V.ref)) ∧ FieldsAt K (del H p) bs ps ∧ (∀ p ∈ ps, FieldIn m p) ∧ m ≤ 2000 ∧ leafSum ps ≤ 24 ∧ ps.length ≤ 8192 ∧
  ∀ (H' : Hp) (lv pl : Addr) (ls cs : List Addr), H' p = some (.ins (cR K) dx (recF x l lv pl (cprod (ps.map fun p => p.2.2) : Nat))) → But p H H' → H' lv = some (.lst (ls.map V.ref)) → LeafL K H' ls (fldLeaves ps 0) → H' pl = some (.lst (cs.map V.ref)) → InnerOf K H' bs cs → Q .non H'
theorem ok_Record (T : Txt K mg) : MkAt P w K mg base 15 "Record" (cR K) ["self", "name", "fields"] (spRecInit K) := by
  have G_laid_out := ok_laid_out (P := P) (w := w) (base := base) T
  have G_count_row := ok_count_row (P := P) (w := w) (base := base) T (ok_value_count (P := P) (w := w) (base := base) T 6)
  refine T.i_Record.ok sc_Record_init (fun vs H Q E h => by obtain ⟨p, dx, l, x, bs, ps, m, rfl, _⟩ := h; rfl) fun f cdv A outer s H vs Q E hr h => ?_
  obtain ⟨p, dx, l, x, bs, ps, m, rfl, hp, hl, hF, hI, hm, h24, hpz, q⟩ := h
  have hlp : l ≠ p := fun z => by
    rw [z, hp] at hl
    cases hl
  refine ⟨_, (pss_cons (ps_fl T.c_Record T.na_Record_name (pv 0) (pv 1))
  (pss_cons (ps_fl T.c_Record T.na_Record_fields (pv 0) (pv 2))
  (pss_cons (ps_fl T.c_Record T.na_Record_leaves (pv 0) (pe_fn G_laid_out hr (by first | decide | omega) (pa_cons (pv 2) pa_nil)))
  (pss_cons (ps_fl T.c_Record T.na_Record_parts (pv 0) (by exact (pe_lc (own := [("field", 3)]) (g := (gName 3)) (tt := tYes) (by rfl) sc_Record_init.nd (pi_list (pv 2)) (blkOk_by (own := [("field", 3)]) (N := ["self", "name", "fields", "field"]) (sc := defScope s_Record_init) (by decide +kernel)) (fun _ _ _ _ _ => by exact (pg_name (i := 3) sc_Record_init.nd rfl (Or.inl rfl))) (fun _ _ _ _ _ => pts_nil) (fun _ _ _ _ _ => by exact (pe_fl T.c_Field T.na_Field_inner (pv 3))))))
  (pss_one (ps_fl T.c_Record T.na_Record_total (pv 0) (pe_fn G_count_row hr (by first | decide | omega) (pa_cons (pe_fl T.c_Record T.na_Record_parts (pv 0)) pa_nil)))))))), ?_⟩
  refine ⟨_, rfl, _, rfl, p, dx, _, rfl, hp, (by show 0 < 1000; decide), ?_⟩
  refine ⟨_, rfl, _, rfl, p, dx, _, rfl, upd_same, (by show 1 < 1000; decide), ?_⟩
  have hp2 : (upd (upd H p (.ins (cR K) dx [("name", .str (strB x))])) p (.ins (cR K) dx [("name", .str (strB x)), ("fields", .ref l)])) p = some (.ins (cR K) dx [("name", .str (strB x)), ("fields", .ref l)]) := upd_same
  have b2 : But p H (upd (upd H p (.ins (cR K) dx [("name", .str (strB x))])) p (.ins (cR K) dx [("name", .str (strB x)), ("fields", .ref l)])) := but_put but_upd
  have e1 : putF ("name" : Str) (V.str (strB x)) [] = ([("name", .str (strB x))] : List (Str × V)) := rfl
  have e2 : putF ("fields" : Str) (V.ref l) ([("name", .str (strB x))] : List (Str × V)) = ([("name", .str (strB x)), ("fields", .ref l)] : List (Str × V)) := if_neg (by decide +kernel)
  rw [e1, e2]
  generalize upd (upd H p (.ins (cR K) dx [("name", .str (strB x))])) p (.ins (cR K) dx [("name", .str (strB x)), ("fields", .ref l)]) = H2 at *
  have sd : Same (del H p) H2 := (but_del b2).trans del_same'
  refine ⟨_, rfl, l, bs, ps, m, rfl, b2 _ _ hl hlp, FieldsAt.keeps (same_keeps sd) hF, hI, hm, h24, fun H3 lv ls nlv s3 hlv L3 => ?_⟩
  have hp3 := s3 _ _ hp2
  refine ⟨_, rfl, p, dx, _, rfl, hp3, (by show 2 < 1000; decide), ?_⟩
  have hlvp : lv ≠ p := fun z => by
    rw [z, hp3] at hlv
    cases hlv
  have e3 : putF ("leaves" : Str) (V.ref lv) ([("name", .str (strB x)), ("fields", .ref l)] : List (Str × V)) = ([("name", .str (strB x)), ("fields", .ref l), ("leaves", .ref lv)] : List (Str × V)) := by
    simp only [putF]
    rw [if_neg (by decide +kernel), if_neg (by decide +kernel)]
  rw [e3]
  have b4 : But p H (upd H3 p (.ins (cR K) dx [("name", .str (strB x)), ("fields", .ref l), ("leaves", .ref lv)])) := but_put (b2.trans (same_but s3))
  have L4 := leafL_ins (o := .ins (cR K) dx [("name", .str (strB x)), ("fields", .ref l), ("leaves", .ref lv)]) hp3 (by show 2 ≠ 7; decide) L3
  have hlv4 : (upd H3 p (.ins (cR K) dx [("name", .str (strB x)), ("fields", .ref l), ("leaves", .ref lv)])) lv = some (.lst (ls.map V.ref)) := by
    rw [upd_ne hlvp]
    exact hlv
  have hp4 : (upd H3 p (.ins (cR K) dx [("name", .str (strB x)), ("fields", .ref l), ("leaves", .ref lv)])) p = some (.ins (cR K) dx [("name", .str (strB x)), ("fields", .ref l), ("leaves", .ref lv)]) := upd_same
  generalize upd H3 p (.ins (cR K) dx [("name", .str (strB x)), ("fields", .ref l), ("leaves", .ref lv)]) = H4 at *
  obtain ⟨cs, hIn, hPa⟩ := inner_fields hF
  have sd4 : Same (del H p) H4 := (but_del b4).trans del_same'
  have hl4 := b4 _ _ hl hlp
  have hcl : cs.length = bs.length := (paired_len hIn).symm
  have hbl : bs.length = ps.length := paired_len hF
  refine ⟨_, rfl, l, rfl, ⟨_, SqL.of hl4⟩, fun D nD => lc_to (K := K) (a := l) (ys := cs.map V.ref) nD (SqL.of hl4) (by rw [List.length_map, List.length_map, hcl]) (fun i y z H5 hy hz s5 e5 => ?_) fun H5 s5 hD5 => ?_⟩
  · obtain ⟨b, hb, rfl⟩ := ref_item hy
    obtain ⟨c, hc, x0, hh, hi⟩ := paired_at (hIn.keeps (same_keeps (sd4.trans s5))) hb
    obtain ⟨db, hi⟩ := hi
    have ez : z = V.ref c := by
      rw [List.getElem?_map, hc] at hz
      exact (Option.some.inj hz).symm
    subst ez
    refine ⟨rfl, ?_⟩
    refine ⟨_, rfl, b, db, _, _, rfl, hi, rfl, ?_⟩
    exact lc_put nD s5 e5 hz (by rw [List.length_map, sizeLine_eq]; omega)
  · have hp5 := s5 _ _ hp4
    refine ⟨_, rfl, p, dx, _, rfl, hp5, (by show 3 < 1000; decide), ?_⟩
    have hDp : D ≠ p := fun z => by
      rw [z, hp5] at hD5
      cases hD5
    have e4 : putF ("parts" : Str) (V.ref D) ([("name", .str (strB x)), ("fields", .ref l), ("leaves", .ref lv)] : List (Str × V)) = ([("name", .str (strB x)), ("fields", .ref l), ("leaves", .ref lv), ("parts", .ref D)] : List (Str × V)) := by
      simp only [putF]
      rw [if_neg (by decide +kernel), if_neg (by decide +kernel), if_neg (by decide +kernel)]
    rw [e4]
    have b6 : But p H (upd H5 p (.ins (cR K) dx [("name", .str (strB x)), ("fields", .ref l), ("leaves", .ref lv), ("parts", .ref D)])) := but_put (b4.trans (same_but s5))
    have L6 := leafL_ins (o := .ins (cR K) dx [("name", .str (strB x)), ("fields", .ref l), ("leaves", .ref lv), ("parts", .ref D)]) hp5 (by show 3 ≠ 7; decide) (L4.keeps (same_keeps s5))
    have hlv6 : (upd H5 p (.ins (cR K) dx [("name", .str (strB x)), ("fields", .ref l), ("leaves", .ref lv), ("parts", .ref D)])) lv = some (.lst (ls.map V.ref)) := by
      rw [upd_ne hlvp]
      exact s5 _ _ hlv4
    have hD6 : (upd H5 p (.ins (cR K) dx [("name", .str (strB x)), ("fields", .ref l), ("leaves", .ref lv), ("parts", .ref D)])) D = some (.lst (cs.map V.ref)) := by
      rw [upd_ne hDp]
      exact hD5
    have hp6 : (upd H5 p (.ins (cR K) dx [("name", .str (strB x)), ("fields", .ref l), ("leaves", .ref lv), ("parts", .ref D)])) p = some (.ins (cR K) dx [("name", .str (strB x)), ("fields", .ref l), ("leaves", .ref lv), ("parts", .ref D)]) := upd_same
    generalize upd H5 p (.ins (cR K) dx [("name", .str (strB x)), ("fields", .ref l), ("leaves", .ref lv), ("parts", .ref D)]) = H6 at *
    have sd6 : Same (del H p) H6 := (but_del b6).trans del_same'
    have hfine : ∀ t ∈ ps.map fun p => p.2.2, Fine t := fun t ht => by
      obtain ⟨y, hy, rfl⟩ := List.mem_map.mp ht
      exact (hI y hy).fine
    refine ⟨_, rfl, p, dx, _, _, rfl, hp6, rfl, D, cs, _, rfl, hD6, hPa.keeps (same_keeps sd6), fun t ht => ?_, cprod_big hfine (by rw [lsum_leafSum]; exact h24), fun H7 s7 => ?_⟩
    · obtain ⟨y, hy, rfl⟩ := List.mem_map.mp ht
      exact ⟨(hI y hy).fine, (hI y hy).sh, (hI y hy).dp⟩
    have hp7 := s7 _ _ hp6
    refine ⟨_, rfl, p, dx, _, rfl, hp7, (by show 4 < 1000; decide), ?_⟩
    have e5 : putF ("total" : Str) (V.int (cprod (ps.map fun p => p.2.2) : Nat)) ([("name", .str (strB x)), ("fields", .ref l), ("leaves", .ref lv), ("parts", .ref D)] : List (Str × V)) = recF x l lv D (cprod (ps.map fun p => p.2.2) : Nat) := by
      simp only [putF]
      rw [if_neg (by decide +kernel), if_neg (by decide +kernel), if_neg (by decide +kernel), if_neg (by decide +kernel)]
      rfl
    rw [e5]
    have b8 : But p H (upd H7 p (.ins (cR K) dx (recF x l lv D (cprod (ps.map fun p => p.2.2) : Nat)))) := but_put (b6.trans (same_but s7))
    refine q _ lv D ls cs upd_same b8 ?_ (leafL_ins hp7 (by show 4 ≠ 7; decide) (L6.keeps (same_keeps s7))) ?_ (hIn.keeps (same_keeps ((but_del b8).trans del_same')))
    · rw [upd_ne hlvp]
      exact s7 _ _ hlv6
    · rw [upd_ne hDp]
      exact s7 _ _ hD6
/-- a new record -/
theorem rec_made {H1 : Hp} {x dx l : Addr} {nm : ValayBase.Bytes} {bs : List Addr} {ps : List (ValayBase.PName × Nat × Ty)} {m : Nat} {R : Hp → Prop} (nx : H1 x = none) (nd : H1 dx = none) (ne : dx ≠ x) (hl : H1 l = some (.lst (bs.map V.ref))) (hF : FieldsAt K H1 bs ps) (hI : ∀ p ∈ ps, FieldIn m p) (hm : m ≤ 2000) (h24 : leafSum ps ≤ 24) (hpz : ps.length ≤ 8192)
    (q : ∀ H2 : Hp, Same H1 H2 → RecAt K H2 x nm (.rec_ (Valaya.rowOf ps)) → R H2) :
    spRecInit K [.ref x, .str (strB nm), .ref l] (upd (upd H1 dx (.own x)) x (.ins (cR K) dx [])) (fun v H2 => v = .non ∧ R H2) E0 := by
  have s1 : Same H1 (del (upd (upd H1 dx (.own x)) x (.ins (cR K) dx [])) x) := fun b o h => by
    rw [del_upd, del_ne (ne_of_none h nx), upd_ne (ne_of_none h nd)]
    exact h
  refine ⟨x, dx, l, nm, bs, ps, m, rfl, upd_same, del_same' _ _ (s1 _ _ hl), FieldsAt.keeps (same_keeps s1) hF, hI, hm, h24, hpz, fun H' lv pl ls cs hx b' hlv L' hpl hin => ⟨rfl, q H' ?_ ?_⟩⟩
  · exact s1.trans ((but_del b').trans del_same')
  · have s2 : Same H1 H' := s1.trans ((but_del b').trans del_same')
    rw [← count_rowOf'] at hx
    refine ⟨l, lv, pl, bs, ls, cs, ⟨dx, hx⟩, s2 _ _ hl, row_lays (FieldsAt.keeps (same_keeps s2) hF), hlv, ?_, hpl, hin⟩
    show LeafL K H' ls (Valaya.leavesBy (Valaya.rowOf ps) 0 [] 1 [] none)
    rw [fld_is]
    exact L'
end
end Lv
set_option Elab.async false
set_option linter.all false
set_option maxRecDepth 100000
set_option maxHeartbeats 4000000
namespace Lv
open PySem PySem.Spec PyProof.Rows L2 TL
open ValayBase (PTok Toks)
/-! ### kinds of tokens -/
/-- what a token's kind says -/
def KindIs (k : Str) (q : ValayBase.Tok → Bool) : Prop := ∀ t : ValayBase.Tok, (tokKind t = k) ↔ q t = true
theorem ofString_strB {s : String} {b : ValayBase.Bytes} (h : Str.ofString s = strB (ValayBase.word s)) (e : strB b = Str.ofString s) : b = ValayBase.word s := strB_inj (e.trans h)
theorem kind_word {s : String} (h : Str.ofString s = strB (ValayBase.word s)) (hr : ValayBase.RESERVED.contains (ValayBase.word s) = true) (n1 : Str.ofString s ≠ Str.ofString "name") (n2 : Str.ofString s ≠ Str.ofString "number") (n3 : Str.ofString s ≠ Str.ofString "end") (n4 : (Str.ofString s).length ≠ 1) :
    KindIs (Str.ofString s) (fun t => ValayBase.tokEq t (.name (ValayBase.word s))) := by
  intro t
  cases t with
  | name b =>
    show (if ValayBase.RESERVED.contains b = true then strB b else Str.ofString "name") = Str.ofString s ↔ (b == ValayBase.word s) = true
    rw [beq_iff_eq]
    constructor
    · intro e
      by_cases c : ValayBase.RESERVED.contains b = true
      · rw [if_pos c] at e
        exact ofString_strB h e
      · rw [if_neg c] at e
        exact absurd e.symm n1
    · intro e
      rw [e, if_pos hr, h]
  | num n =>
    show Str.ofString "number" = Str.ofString s ↔ false = true
    exact ⟨fun e => absurd e.symm n2, fun e => by cases e⟩
  | sign c =>
    show chr1 c = Str.ofString s ↔ false = true
    exact ⟨fun e => absurd (by rw [← e]; rfl) n4, fun e => by cases e⟩
  | last =>
    show Str.ofString "end" = Str.ofString s ↔ false = true
    exact ⟨fun e => absurd e.symm n3, fun e => by cases e⟩
theorem reserved_long {b : ValayBase.Bytes} (h : ValayBase.RESERVED.contains b = true) : b.length ≠ 1 := by
  have : ∀ x ∈ ValayBase.RESERVED, x.length ≠ 1 := by decide +kernel
  exact this b (by simpa using h)
theorem kind_sign {s : String} {c : Nat} (h : Str.ofString s = chr1 c) : KindIs (Str.ofString s) (fun t => ValayBase.tokEq t (.sign c)) := by
  have l1 : (Str.ofString s).length = 1 := by rw [h]; rfl
  intro t
  cases t with
  | name b =>
    show (if ValayBase.RESERVED.contains b = true then strB b else Str.ofString "name") = Str.ofString s ↔ false = true
    refine ⟨fun e => ?_, fun e => by cases e⟩
    exfalso
    by_cases z : ValayBase.RESERVED.contains b = true
    · rw [if_pos z] at e
      refine reserved_long z ?_
      have : (strB b).length = b.length := by rw [len_tl, tl_strB, List.length_map]
      rw [← this, e, l1]
    · rw [if_neg z] at e
      rw [← e] at l1
      exact absurd l1 (by decide)
  | num n =>
    show Str.ofString "number" = Str.ofString s ↔ false = true
    exact ⟨fun e => absurd (by rw [e]; exact l1) (show (Str.ofString "number").length ≠ 1 by decide), fun e => by cases e⟩
  | sign d =>
    show chr1 d = Str.ofString s ↔ (d == c) = true
    rw [h, beq_iff_eq]
    exact ⟨fun e => by have := congrArg tl e; simpa [chr1] using this, fun e => by rw [e]⟩
  | last =>
    show Str.ofString "end" = Str.ofString s ↔ false = true
    exact ⟨fun e => absurd (by rw [e]; exact l1) (show (Str.ofString "end").length ≠ 1 by decide), fun e => by cases e⟩
def isName : ValayBase.Tok → Bool
  | .name b => !ValayBase.RESERVED.contains b
  | _ => false
def isNum : ValayBase.Tok → Bool
  | .num _ => true
  | _ => false
def isLast : ValayBase.Tok → Bool
  | .last => true
  | _ => false
theorem reserved_not {b : ValayBase.Bytes} (h : ValayBase.RESERVED.contains b = true) : strB b ≠ Str.ofString "name" ∧ strB b ≠ Str.ofString "number" ∧ strB b ≠ Str.ofString "end" := by
  have : ∀ x ∈ ValayBase.RESERVED, strB x ≠ Str.ofString "name" ∧ strB x ≠ Str.ofString "number" ∧ strB x ≠ Str.ofString "end" := by decide +kernel
  exact this b (by simpa using h)
theorem chr1_not (c : Nat) : chr1 c ≠ Str.ofString "name" ∧ chr1 c ≠ Str.ofString "number" ∧ chr1 c ≠ Str.ofString "end" := by
  refine ⟨fun e => ?_, fun e => ?_, fun e => ?_⟩ <;> exact absurd (congrArg Str.length e) (by show 1 ≠ _; decide)
theorem kind_name : KindIs "name" isName := by
  intro t
  cases t with
  | name b =>
    show (if ValayBase.RESERVED.contains b = true then strB b else Str.ofString "name") = Str.ofString "name" ↔ (!ValayBase.RESERVED.contains b) = true
    by_cases c : ValayBase.RESERVED.contains b = true
    · rw [if_pos c, c]
      exact ⟨fun e => absurd e (reserved_not c).1, fun e => by cases e⟩
    · rw [if_neg c, eq_false_of_ne_true c]
      exact ⟨fun _ => rfl, fun _ => rfl⟩
  | num n => exact ⟨fun e => absurd e (show Str.ofString "number" ≠ Str.ofString "name" by decide), fun e => by cases e⟩
  | sign c => exact ⟨fun e => absurd e (chr1_not c).1, fun e => by cases e⟩
  | last => exact ⟨fun e => absurd e (show Str.ofString "end" ≠ Str.ofString "name" by decide), fun e => by cases e⟩
theorem kind_num : KindIs "number" isNum := by
  intro t
  cases t with
  | name b =>
    show (if ValayBase.RESERVED.contains b = true then strB b else Str.ofString "name") = Str.ofString "number" ↔ false = true
    refine ⟨fun e => ?_, fun e => by cases e⟩
    by_cases c : ValayBase.RESERVED.contains b = true
    · rw [if_pos c] at e
      exact absurd e (reserved_not c).2.1
    · rw [if_neg c] at e
      exact absurd e (by decide)
  | num n => exact ⟨fun _ => rfl, fun _ => rfl⟩
  | sign c => exact ⟨fun e => absurd e (chr1_not c).2.1, fun e => by cases e⟩
  | last => exact ⟨fun e => absurd e (show Str.ofString "end" ≠ Str.ofString "number" by decide), fun e => by cases e⟩
theorem kind_last : KindIs "end" isLast := by
  intro t
  cases t with
  | name b =>
    show (if ValayBase.RESERVED.contains b = true then strB b else Str.ofString "name") = Str.ofString "end" ↔ false = true
    refine ⟨fun e => ?_, fun e => by cases e⟩
    by_cases c : ValayBase.RESERVED.contains b = true
    · rw [if_pos c] at e
      exact absurd e (reserved_not c).2.2
    · rw [if_neg c] at e
      exact absurd e (by decide)
  | num n => exact ⟨fun e => absurd e (show Str.ofString "number" ≠ Str.ofString "end" by decide), fun e => by cases e⟩
  | sign c => exact ⟨fun e => absurd e (chr1_not c).2.2, fun e => by cases e⟩
  | last => exact ⟨fun _ => rfl, fun _ => rfl⟩
/-- tokens to the text's end -/
def Ends (l : Toks) : Prop := ∃ (pre : Toks) (p : Nat), l = pre ++ [⟨p, .last⟩] ∧ ∀ t ∈ pre, isLast t.tok = false
theorem Ends.cons {l : Toks} (h : Ends l) : ∃ t r, l = t :: r ∧ (isLast t.tok = false → Ends r) := by
  obtain ⟨pre, p, rfl, hp⟩ := h
  cases pre with
  | nil => exact ⟨_, [], rfl, fun z => by cases z⟩
  | cons a pre => exact ⟨a, pre ++ [⟨p, .last⟩], rfl, fun _ => ⟨pre, p, rfl, fun t ht => hp t (List.mem_cons_of_mem _ ht)⟩⟩
theorem tokenOf_nl {part : List Int} {j : Nat} {t : PTok} (h : tokenOf part j = .ok t) : isLast t.tok = false := by
  unfold tokenOf at h
  split at h
  · cases h
  · split at h
    · split at h
      · cases h
      · cases h; rfl
    · split at h
      · split at h
        · cases h
        · cases h; rfl
      · split at h
        · cases h; rfl
        · cases h
theorem lexFrom_ends {ns : List Int} : ∀ (m j : Nat) (ts : Toks), lexFrom ns m j = .ok ts → Ends ts
  | 0, _, ts, h => by
    cases h
    exact ⟨[], _, rfl, fun t ht => by cases ht⟩
  | m + 1, j, ts, h => by
    unfold lexFrom at h
    by_cases c : j < ns.length
    · rw [if_pos c] at h
      cases e : tokenOf (partOf ns j) j with
      | error f =>
        rw [e] at h
        cases h
      | ok t =>
        rw [e] at h
        cases e2 : lexFrom ns m (skipTo ns (behindTok ns j)) with
        | error f =>
          have h' : ((lexFrom ns m (skipTo ns (behindTok ns j))).map fun l => t :: l) = .ok ts := h
          rw [e2] at h'
          cases h'
        | ok l =>
          have h' : ((lexFrom ns m (skipTo ns (behindTok ns j))).map fun l => t :: l) = .ok ts := h
          rw [e2] at h'
          have e3 : ts = t :: l := (Except.ok.inj h').symm
          obtain ⟨pre, p, e4, hp⟩ := lexFrom_ends m _ l e2
          refine ⟨t :: pre, p, by rw [e3, e4]; rfl, fun u hu => ?_⟩
          rcases List.mem_cons.mp hu with rfl | hu
          · exact tokenOf_nl e
          · exact hp u hu
    · rw [if_neg c] at h
      cases h
      exact ⟨[], _, rfl, fun t ht => by cases ht⟩
end Lv
set_option Elab.async false
set_option linter.all false
set_option maxRecDepth 100000
set_option maxHeartbeats 4000000
namespace Lv
open PySem PySem.Spec PyProof.Rows L2 TL
open ValayBase (PTok Toks)
/-! ### the reader -/
abbrev cRd (K : PySem.W.Frag) : Addr := He.ga K "Reader"
def readF (tl : Addr) (i : Nat) (rd : Addr) : List (Str × V) := [("tokens", .ref tl), ("reached", .int i), ("records", .ref rd)]
/-- the reader at r stands before the tokens l -/
def RdAt (K : PySem.W.Frag) (H : Hp) (r tl rd : Addr) (l : Toks) : Prop := ∃ (dx : Addr) (as : List Addr) (ts : Toks) (i : Nat), H r = some (.ins (cRd K) dx (readF tl i rd)) ∧ H tl = some (.lst (as.map V.ref)) ∧ TokL K H as ts ∧ ts.drop i = l ∧ Ends l ∧ ts.length ≤ 5000
def FallsR (K : PySem.W.Frag) (H : Hp) (r : Addr) (E : XK) (f : ValayBase.Fault) : Prop := ∀ (d : Addr) (H' : Hp), But r H H' → H' d = some (.xd (faultF (.int f.code) (.int f.place))) → E (.ref (cFault K)) (some d) H'
section
variable {P : Program} {w : World} {K : PySem.W.Frag} {mg : Str → Option Value} {base : Heap}
theorem RdAt.same {H H' : Hp} {r tl rd : Addr} {l : Toks} (h : RdAt K H r tl rd l) (s : Same H H') : RdAt K H' r tl rd l := by
  obtain ⟨dx, as, ts, i, h1, h2, h3, h4, h5, h6⟩ := h
  exact ⟨dx, as, ts, i, s _ _ h1, s _ _ h2, h3.same s, h4, h5, h6⟩
theorem RdAt.keeps {H H' : Hp} {r tl rd : Addr} {l : Toks} (h : RdAt K H r tl rd l) (b : But r H H') : Keeps K H H' := by
  obtain ⟨dx, as, ts, i, h1, _⟩ := h
  refine ⟨fun a C fs hi n1 _ _ => ?_, fun a xs ha => ?_, fun a xs ha => ?_, fun a xs ha => ?_⟩
  · obtain ⟨d, hi⟩ := hi
    refine ⟨d, b _ _ hi fun z => ?_⟩
    rw [z, h1] at hi
    cases hi
    exact n1 rfl
  · exact b _ _ ha fun z => by rw [z, h1] at ha; cases ha
  · rcases ha with (ha | ⟨o, ha⟩) | ha
    · exact .inl (.inl (b _ _ ha fun z => by rw [z, h1] at ha; cases ha))
    · exact .inl (.inr ⟨o, b _ _ ha fun z => by rw [z, h1] at ha; cases ha⟩)
    · exact .inr ha
  · exact b _ _ ha fun z => by rw [z, h1] at ha; cases ha
theorem RdAt.ne {H : Hp} {r tl rd : Addr} {l : Toks} (h : RdAt K H r tl rd l) {d : Addr} {o : HO} (hd : H d = some o) (no : ∀ C dx fs, o ≠ .ins C dx fs) : d ≠ r := fun z => by
  obtain ⟨dx, as, ts, i, h1, _⟩ := h
  rw [z, h1] at hd
  exact no _ _ _ (Option.some.inj hd).symm
/-- the token ahead -/
theorem RdAt.head {H : Hp} {r tl rd : Addr} {t : PTok} {l : Toks} (h : RdAt K H r tl rd (t :: l)) : ∃ (dx : Addr) (as : List Addr) (i : Nat) (a : Addr), H r = some (.ins (cRd K) dx (readF tl i rd)) ∧ H tl = some (.lst (as.map V.ref)) ∧ as[i]? = some a ∧ TokAt K H a t := by
  obtain ⟨dx, as, ts, i, h1, h2, h3, h4, h5, h6⟩ := h
  have hi : ts[i]? = some t := by
    have : (ts.drop i)[0]? = some t := by rw [h4]; rfl
    rw [List.getElem?_drop] at this
    simpa using this
  have hlt : i < as.length := by
    rw [paired_len h3]
    exact (List.getElem?_eq_some_iff.mp hi).1
  obtain ⟨a, ha⟩ : ∃ a, as[i]? = some a := ⟨as[i], by simp [hlt]⟩
  obtain ⟨t', ht', hat⟩ := paired_at h3 ha
  rw [hi] at ht'
  cases ht'
  exact ⟨dx, as, i, a, h1, h2, ha, hat⟩
/-- the first field's name -/
def headKey : Option HO → Option Str
  | some (.ins _ _ ((k, _) :: _)) => some k
  | _ => none
/-- one token on -/
theorem RdAt.next {H : Hp} {r tl rd : Addr} {t : PTok} {l : Toks} (h : RdAt K H r tl rd (t :: l)) (nl : isLast t.tok = false) : ∃ (dx : Addr) (i : Nat), H r = some (.ins (cRd K) dx (readF tl i rd)) ∧ RdAt K (upd H r (.ins (cRd K) dx (readF tl (i + 1) rd))) r tl rd l := by
  obtain ⟨dx, as, ts, i, h1, h2, h3, h4, h5, h6⟩ := h
  refine ⟨dx, i, h1, dx, as, ts, i + 1, upd_same, ?_, ?_, ?_, ?_, h6⟩
  · rw [upd_ne fun z => by rw [z, h1] at h2; cases h2]
    exact h2
  · refine paired_mono (fun a u z => ?_) h3
    obtain ⟨d, z⟩ := z
    refine ⟨d, ?_⟩
    rw [upd_ne fun e => by
      rw [e, h1] at z
      have := congrArg headKey z
      exact absurd this (by show some (Str.ofString "tokens") ≠ some (Str.ofString "kind"); decide)]
    exact z
  · rw [← List.drop_drop, h4]
    rfl
  · obtain ⟨t', r', e, hr⟩ := h5.cons
    cases e
    exact hr nl
def spHead (K : PySem.W.Frag) : Sp := fun vs H Q _ => ∃ (r tl rd : Addr) (t : PTok) (l : Toks), vs = [.ref r] ∧ RdAt K H r tl rd (t :: l) ∧ ∀ a, TokAt K H a t → Q (.ref a) H
theorem ok_Reader_head (T : Txt K mg) : MeAt P w K mg base CX0 1 (cRd K) "head" ["self"] (spHead K) := by
  refine T.m_Reader_head.ok sc_Reader_head (fun vs H Q E h => by obtain ⟨r, tl, rd, t, l, rfl, _⟩ := h; rfl) fun f cdv A outer s H vs Q E hr h => ?_
  obtain ⟨r, tl, rd, t, l, rfl, hR, q⟩ := h
  obtain ⟨dx, as, i, a, h1, h2, h3, h4⟩ := hR.head
  refine ⟨_, (pss_one (ps_ret (pe_ix ix_list (pe_fl T.c_Reader T.na_Reader_tokens (pv 0)) (pe_fl T.c_Reader T.na_Reader_reached (pv 0)) (fun _ _ => rfl)))), ?_⟩
  exact ⟨_, rfl, r, dx, _, _, rfl, h1, rfl, _, rfl, r, dx, _, _, rfl, h1, rfl, tl, _, _, _, rfl, rfl, SqL.of h2, atI_nat (by rw [List.getElem?_map, h3]; rfl), q a h4⟩
def spTake (K : PySem.W.Frag) : Sp := fun vs H Q E => ∃ (r tl rd : Addr) (k : Str) (p : ValayBase.Tok → Bool) (t : PTok) (l : Toks), vs = [.ref r, .str k] ∧ KindIs k p ∧ p .last = false ∧ RdAt K H r tl rd (t :: l) ∧
  (p t.tok = true → ∀ (a : Addr) (H' : Hp), But r H H' → RdAt K H' r tl rd l → TokAt K H' a t → Q (.ref a) H') ∧ (p t.tok = false → FallsR K H r E ⟨3, t.place⟩)
theorem tok_but {H : Hp} {r dx tl rd : Addr} {i j : Nat} {a : Addr} {t : PTok} (h1 : H r = some (.ins (cRd K) dx (readF tl i rd))) (h : TokAt K H a t) : TokAt K (upd H r (.ins (cRd K) dx (readF tl j rd))) a t := by
  obtain ⟨d, z⟩ := h
  refine ⟨d, ?_⟩
  rw [upd_ne fun e => by
    rw [e, h1] at z
    have := congrArg headKey z
    exact absurd this (by show some (Str.ofString "tokens") ≠ some (Str.ofString "kind"); decide)]
  exact z
theorem nl_of {p : ValayBase.Tok → Bool} (hp : p .last = false) {t : ValayBase.Tok} (h : p t = true) : isLast t = false := by
  cases t with
  | last => rw [hp] at h; cases h
  | _ => rfl
theorem faultR_at {H : Hp} {r : Addr} {E : XK} {f : ValayBase.Fault} {c p : Int} (h : FallsR K H r E f) {H1 : Hp} (b : But r H H1) (hc : (f.code : Int) = c) (hp : (f.place : Int) = p) (d : Addr) (nd : H1 d = none) : E (.ref (cFault K)) (some d) (upd H1 d (.xd (gFault [.int c, .int p]))) := by
  subst hc hp
  exact h d _ (b.trans (same_but (same_upd nd))) upd_same
theorem reach_put {tl rd : Addr} {i : Nat} : putF ("reached" : Str) (V.int ((i : Int) + 1)) (readF tl i rd) = readF tl (i + 1) rd := by
  show putF _ _ (("tokens", V.ref tl) :: _) = _
  rw [putF, if_neg (by decide +kernel), putF, if_pos rfl]
  rfl
theorem ok_Reader_take (T : Txt K mg) : MeAt P w K mg base (L2.CX P w) 3 (cRd K) "take" ["self", "kind"] (spTake K) := by
  have G_Fault := ok_Fault (P := P) (w := w) (base := base) T
  have G_Reader_head := ok_Reader_head (P := P) (w := w) (base := base) T
  refine T.m_Reader_take.okX sc_Reader_take (fun vs H Q E h => by obtain ⟨r, tl, rd, k, p, t, l, rfl, _⟩ := h; rfl) fun f cdv A outer s H vs Q E hr h tk => ?_
  obtain ⟨r, tl, rd, k, p, t, l, rfl, hk, hp, hR, qO, qE⟩ := h
  obtain ⟨dx, i, h1, hN⟩ : ∃ (dx : Addr) (i : Nat), H r = some (.ins (cRd K) dx (readF tl i rd)) ∧ True := by
    obtain ⟨dx, as, i, a, h1, _⟩ := hR.head
    exact ⟨dx, i, h1, trivial⟩
  refine ⟨_, (pss_cons (ps_set (i := 2) sc_Reader_take.nd rfl (Or.inl rfl) (pe_me0 (pv 0) G_Reader_head hr (by first | decide | omega)))
  (pss_cons (ps_if (pt_cmpR op_ne (pe_fl T.c_Token T.na_Token_kind (pv 2)) (pv 1) (nomark _)) (pss_one (ps_raise rfl tk (pmk_rz G_Fault hr (by first | decide | omega) (pa_cons (pe_num T.n_NOT_ALLOWED) (pa_cons (pe_fl T.c_Token T.na_Token_place (pv 2)) pa_nil))))) pss_nil)
  (pss_cons (ps_flAdd T.c_Reader T.na_Reader_reached (pv 0) pe_int)
  (pss_one (ps_ret (pv 2)))))), ?_⟩
  refine ⟨_, rfl, r, dx, _, rfl, h1, rfl, r, tl, rd, t, l, rfl, hR, fun a ha => ?_⟩
  have ha2 := ha
  obtain ⟨da, hai⟩ := ha2
  refine ⟨_, rfl, a, da, _, _, rfl, hai, rfl, _, rfl, rfl, _, rfl, ?_⟩
  by_cases c : p t.tok = true
  · refine if_f ?_ ?_
    · rw [(hk t.tok).mpr c]
      simp
    · obtain ⟨dx', i', h1', hR'⟩ := hR.next (nl_of hp c)
      refine ⟨_, rfl, r, dx', _, (i' : Int), rfl, h1', rfl, 1, rfl, h1', (by show 3 < 1000; decide), ?_⟩
      rw [reach_put]
      exact ⟨_, rfl, qO c a _ but_upd hR' (tok_but h1' ha)⟩
  · refine if_t ?_ ?_
    · have : tokKind t.tok ≠ k := fun z => c ((hk t.tok).mp z)
      simp [this]
    · exact ⟨_, rfl, a, da, _, _, rfl, hai, rfl, rfl, by decide, faultR_at (qE (eq_false_of_ne_true c)) (But.refl _ _) rfl rfl⟩
def spTakes (K : PySem.W.Frag) : Sp := fun vs H Q _ => ∃ (r tl rd : Addr) (k : Str) (p : ValayBase.Tok → Bool) (t : PTok) (l : Toks), vs = [.ref r, .str k] ∧ KindIs k p ∧ p .last = false ∧ RdAt K H r tl rd (t :: l) ∧
  (p t.tok = true → ∀ (H' : Hp), But r H H' → RdAt K H' r tl rd l → Q (.bl true) H') ∧ (p t.tok = false → Q (.bl false) H)
theorem ok_Reader_takes (T : Txt K mg) : MeAt P w K mg base CX0 2 (cRd K) "takes" ["self", "kind"] (spTakes K) := by
  have G_Reader_head := ok_Reader_head (P := P) (w := w) (base := base) T
  refine T.m_Reader_takes.ok sc_Reader_takes (fun vs H Q E h => by obtain ⟨r, tl, rd, k, p, t, l, rfl, _⟩ := h; rfl) fun f cdv A outer s H vs Q E hr h => ?_
  obtain ⟨r, tl, rd, k, p, t, l, rfl, hk, hp, hR, qO, qE⟩ := h
  obtain ⟨dx, i, h1, hN⟩ : ∃ (dx : Addr) (i : Nat), H r = some (.ins (cRd K) dx (readF tl i rd)) ∧ True := by
    obtain ⟨dx, as, i, a, h1, _⟩ := hR.head
    exact ⟨dx, i, h1, trivial⟩
  refine ⟨_, (pss_cons (ps_if (pt_cmpR op_ne (pe_fl T.c_Token T.na_Token_kind (pe_me0 (pv 0) G_Reader_head hr (by first | decide | omega))) (pv 1) (nomark _)) (pss_one (ps_ret pe_bl)) pss_nil)
  (pss_cons (ps_flAdd T.c_Reader T.na_Reader_reached (pv 0) pe_int)
  (pss_one (ps_ret pe_bl)))), ?_⟩
  refine ⟨_, rfl, r, dx, _, rfl, h1, rfl, r, tl, rd, t, l, rfl, hR, fun a ha => ?_⟩
  obtain ⟨da, hai⟩ := ha
  refine ⟨a, da, _, _, rfl, hai, rfl, _, rfl, rfl, _, rfl, ?_⟩
  by_cases c : p t.tok = true
  · refine if_f ?_ ?_
    · rw [(hk t.tok).mpr c]
      simp
    · obtain ⟨dx', i', h1', hR'⟩ := hR.next (nl_of hp c)
      refine ⟨_, rfl, r, dx', _, (i' : Int), rfl, h1', rfl, 1, rfl, h1', (by show 3 < 1000; decide), ?_⟩
      rw [reach_put]
      exact qO c _ but_upd hR'
  · refine if_t ?_ (qE (eq_false_of_ne_true c))
    have : tokKind t.tok ≠ k := fun z => c ((hk t.tok).mp z)
    simp [this]
/-! ### names and numbers -/
def spNewName (K : PySem.W.Frag) : Sp := fun vs H Q E => ∃ (r tl rd d : Addr) (kvs : List (Key × V)) (l : Toks), vs = [.ref r, .ref d] ∧ H d = some (.dK kvs) ∧ RdAt K H r tl rd l ∧
  (∀ f, ValayBase.takeName l = .error f → FallsR K H r E f) ∧
  (∀ x l', ValayBase.takeName l = .ok (x, l') → (valV kvs (Sum.inr (strB x.name)) = none → ∀ H', But r H H' → RdAt K H' r tl rd l' → Q (.str (strB x.name)) H') ∧ (valV kvs (Sum.inr (strB x.name)) ≠ none → FallsR K H r E ⟨5, x.place⟩))
theorem RdAt.cons {H : Hp} {r tl rd : Addr} {l : Toks} (h : RdAt K H r tl rd l) : ∃ t l', l = t :: l' := by
  obtain ⟨dx, as, ts, i, h1, h2, h3, h4, h5, h6⟩ := h
  obtain ⟨t, r', e, _⟩ := h5.cons
  exact ⟨t, r', e⟩
theorem RdAt.ins {H : Hp} {r tl rd : Addr} {l : Toks} (h : RdAt K H r tl rd l) : ∃ (dx : Addr) (i : Nat), H r = some (.ins (cRd K) dx (readF tl i rd)) := by
  obtain ⟨dx, as, ts, i, h1, _⟩ := h
  exact ⟨dx, i, h1⟩
theorem rdm {tl rd : Addr} {i : Nat} {m : Str} (h1 : m ≠ "tokens") (h2 : m ≠ "reached") (h3 : m ≠ "records") : (readF tl i rd).lookup m = none := lk_none h1 (lk_none h2 (lk_none h3 rfl))
theorem takeName_name {p : Nat} {b : ValayBase.Bytes} {l : Toks} (h : isName (.name b) = true) : ValayBase.takeName (⟨p, .name b⟩ :: l) = .ok (⟨p, b⟩, l) := by
  have : ¬ ValayBase.RESERVED.contains b = true := by
    intro z
    have h' : (!ValayBase.RESERVED.contains b) = true := h
    rw [z] at h'
    cases h'
  show (if ValayBase.RESERVED.contains b = true then _ else _) = _
  rw [if_neg this]
theorem takeName_not {t : PTok} {l : Toks} (h : isName t.tok = false) : ValayBase.takeName (t :: l) = .error ⟨3, t.place⟩ := by
  obtain ⟨p, k⟩ := t
  cases k with
  | name b =>
    have : ValayBase.RESERVED.contains b = true := by
      have h' : (!ValayBase.RESERVED.contains b) = false := h
      cases e : ValayBase.RESERVED.contains b with
      | true => rfl
      | false =>
        rw [e] at h'
        cases h'
    show (if ValayBase.RESERVED.contains b = true then _ else _) = _
    rw [if_pos this]
    rfl
  | _ => rfl
theorem isName_name {t : ValayBase.Tok} (h : isName t = true) : ∃ b, t = .name b := by
  cases t with
  | name b => exact ⟨b, rfl⟩
  | _ => cases h
theorem ok_Reader_take_new_name (T : Txt K mg) : MeAt P w K mg base (L2.CX P w) 4 (cRd K) "take_new_name" ["self", "told_before"] (spNewName K) := by
  have G_Fault := ok_Fault (P := P) (w := w) (base := base) T
  have G_Reader_take := ok_Reader_take (P := P) (w := w) (base := base) T
  refine T.m_Reader_take_new_name.okX sc_Reader_take_new_name (fun vs H Q E h => by obtain ⟨r, tl, rd, d, kvs, l, rfl, _⟩ := h; rfl) fun f cdv A outer s H vs Q E hr h tk => ?_
  obtain ⟨r, tl, rd, d, kvs, l, rfl, hd, hR, qE, qO⟩ := h
  obtain ⟨dx, i, h1⟩ := hR.ins
  obtain ⟨t, l', rfl⟩ := hR.cons
  have hdr := hR.ne hd (fun _ _ _ z => by cases z)
  have hu := hu_of hr
  refine ⟨_, (pss_cons (ps_set (i := 2) sc_Reader_take_new_name.nd rfl (Or.inl rfl) (pe_meX (pv 0) G_Reader_take hr (by first | decide | omega) tk (pa_cons pe_str pa_nil)))
  (pss_cons (ps_if (pt_cmp (pc_din hu (pe_fl T.c_Token T.na_Token_told (pv 2)) (pv 1))) (pss_one (ps_raise rfl tk (pmk_rz G_Fault hr (by first | decide | omega) (pa_cons (pe_num T.n_TOLD_TWICE) (pa_cons (pe_fl T.c_Token T.na_Token_place (pv 2)) pa_nil))))) pss_nil)
  (pss_one (ps_ret (pe_fl T.c_Token T.na_Token_told (pv 2)))))), ?_⟩
  refine ⟨_, rfl, r, dx, _, rfl, h1, rdm (by decide) (by decide) (by decide), r, tl, rd, _, isName, t, l', rfl, kind_name, rfl, hR, fun c a H1 b1 hR1 ha => ?_, fun c => qE _ (takeName_not c)⟩
  obtain ⟨b, eb⟩ := isName_name c
  have ha2 := ha
  obtain ⟨da, hai⟩ := ha2
  have hd1 := b1 _ _ hd hdr
  obtain ⟨pl, tok⟩ := t
  subst eb
  have tn := takeName_name (p := pl) (l := l') c
  obtain ⟨q1, q2⟩ := qO _ _ tn
  refine ⟨_, rfl, a, da, _, _, rfl, hai, rfl, _, rfl, d, _, rfl, DGet.k (k := Sum.inr (strB b)) hd1, _, rfl, ?_⟩
  cases e : valV kvs (Sum.inr (strB b)) with
  | none => exact if_f rfl ⟨_, rfl, a, da, _, _, rfl, hai, rfl, q1 e H1 b1 hR1⟩
  | some v => exact if_t rfl ⟨_, rfl, a, da, _, _, rfl, hai, rfl, rfl, by decide, faultR_at (q2 (by rw [e]; simp)) b1 rfl rfl⟩
def spNumber (K : PySem.W.Frag) : Sp := fun vs H Q E => ∃ (r tl rd : Addr) (lo hi : Nat) (l : Toks), vs = [.ref r, .int lo, .int hi] ∧ RdAt K H r tl rd l ∧
  (∀ f, Valaya.takeCount lo hi l = .error f → FallsR K H r E f) ∧
  (∀ n l', Valaya.takeCount lo hi l = .ok (n, l') → ∀ (a : Addr) (H' : Hp), But r H H' → RdAt K H' r tl rd l' → TokAt K H' a ⟨ValayBase.here l, .num n⟩ → Q (.ref a) H')
theorem isNum_num {t : ValayBase.Tok} (h : isNum t = true) : ∃ n, t = .num n := by
  cases t with
  | num n => exact ⟨n, rfl⟩
  | _ => cases h
theorem takeCount_not {lo hi : Nat} {t : PTok} {l : Toks} (h : isNum t.tok = false) : Valaya.takeCount lo hi (t :: l) = .error ⟨3, t.place⟩ := by
  obtain ⟨p, k⟩ := t
  cases k with
  | num n => cases h
  | _ => rfl
theorem ok_Reader_take_number (T : Txt K mg) : MeAt P w K mg base (L2.CX P w) 4 (cRd K) "take_number" ["self", "least", "greatest"] (spNumber K) := by
  have G_Fault := ok_Fault (P := P) (w := w) (base := base) T
  have G_Reader_take := ok_Reader_take (P := P) (w := w) (base := base) T
  refine T.m_Reader_take_number.okX sc_Reader_take_number (fun vs H Q E h => by obtain ⟨r, tl, rd, lo, hi, l, rfl, _⟩ := h; rfl) fun f cdv A outer s H vs Q E hr h tk => ?_
  obtain ⟨r, tl, rd, lo, hi, l, rfl, hR, qE, qO⟩ := h
  obtain ⟨dx, i, h1⟩ := hR.ins
  obtain ⟨t, l', rfl⟩ := hR.cons
  refine ⟨_, (pss_cons (ps_set (i := 3) sc_Reader_take_number.nd rfl (Or.inl rfl) (pe_meX (pv 0) G_Reader_take hr (by first | decide | omega) tk (pa_cons pe_str pa_nil)))
  (pss_cons (ps_if (pt_not (pt_chain op_le op_le (pv 1) (pe_fl T.c_Token T.na_Token_told (pv 3)) (pv 2))) (pss_one (ps_raise rfl tk (pmk_rz G_Fault hr (by first | decide | omega) (pa_cons (pe_num T.n_OUT_OF_BOUNDS) (pa_cons (pe_fl T.c_Token T.na_Token_place (pv 3)) pa_nil))))) pss_nil)
  (pss_one (ps_ret (pv 3))))), ?_⟩
  refine ⟨_, rfl, r, dx, _, rfl, h1, rdm (by decide) (by decide) (by decide), r, tl, rd, _, isNum, t, l', rfl, kind_num, rfl, hR, fun c a H1 b1 hR1 ha => ?_, fun c => qE _ (takeCount_not c)⟩
  obtain ⟨n, en⟩ := isNum_num c
  have ha2 := ha
  obtain ⟨da, hai⟩ := ha2
  obtain ⟨pl, tok⟩ := t
  subst en
  have tc : Valaya.takeCount lo hi (⟨pl, .num n⟩ :: l') = if n < lo ∨ hi < n then .error ⟨7, pl⟩ else .ok (n, l') := rfl
  refine ⟨_, rfl, _, rfl, a, da, _, _, rfl, hai, rfl, _, _, rfl, rfl, _, rfl, ?_⟩
  by_cases c1 : lo ≤ n
  · refine if_t (decide_eq_true (by omega)) ⟨_, rfl, _, _, rfl, rfl, _, rfl, ?_⟩
    by_cases c2 : n ≤ hi
    · rw [if_neg (by omega)] at tc
      refine if_f ?_ ⟨_, rfl, qO n l' tc a H1 b1 hR1 ha⟩
      rw [decide_eq_true (show (n : Int) ≤ hi by omega)]
      rfl
    · rw [if_pos (by omega)] at tc
      refine if_t ?_ ⟨_, rfl, a, da, _, _, rfl, hai, rfl, rfl, by decide, faultR_at (qE _ tc) b1 rfl rfl⟩
      rw [decide_eq_false (show ¬ (n : Int) ≤ hi by omega)]
      rfl
  · rw [if_pos (by omega)] at tc
    exact if_f (decide_eq_false (by omega)) ⟨_, rfl, if_t rfl ⟨_, rfl, a, da, _, _, rfl, hai, rfl, rfl, by decide, faultR_at (qE _ tc) b1 rfl rfl⟩⟩
end
end Lv
set_option linter.all false
/-! What is read is fine. -/
namespace Lv
open Valaya ValayBase
def TokOk (t : PTok) : Prop := match t.tok with
  | .name b => nameOk b
  | _ => True
def Good (l : Toks) : Prop := ∀ t ∈ l, TokOk t
theorem Good.drop {l : Toks} (h : Good l) (n : Nat) : Good (l.drop n) := fun t ht => h t (List.mem_of_mem_drop ht)
theorem Good.tail {t : PTok} {l : Toks} (h : Good (t :: l)) : Good l := fun u hu => h u (List.mem_cons_of_mem _ hu)
theorem takeName_ok {l l' : Toks} {x : PName} (h : takeName l = .ok (x, l')) (hg : Good l) : nameOk x.name ∧ Good l' ∧ l'.length < l.length := by
  unfold takeName at h
  split at h
  · split at h
    · cases h
    · cases h
      exact ⟨hg _ (List.mem_cons_self ..), hg.tail, by simp⟩
  · cases h
theorem taken_ok {t : Tok} {l l' : Toks} (h : taken t l = .ok l') (hg : Good l) : Good l' ∧ l'.length ≤ l.length := by
  unfold taken at h
  split at h
  · cases h
    exact ⟨hg.drop 1, by simp⟩
  · cases h
theorem takeInt_ok {l l' : Toks} {v : Int} {q : Nat} (h : takeInt l = .ok (v, q, l')) (hg : Good l) : -1000000 ≤ v ∧ v ≤ 1000000 ∧ Good l' ∧ l'.length ≤ l.length := by
  unfold takeInt at h
  dsimp only at h
  split at h
  · rename_i q' n r e
    split at h
    · cases h
    · rename_i hn
      cases h
      have hn' : n ≤ 1000000 := by unfold LARGE at hn; omega
      have hr : Good l' ∧ l'.length ≤ l.length := by
        split at e
        · have g := hg.drop 1
          rw [e] at g
          have el := congrArg List.length e
          simp at el
          exact ⟨g.tail, by omega⟩
        · rw [e] at hg ⊢
          exact ⟨hg.tail, by simp⟩
      split
      · exact ⟨by omega, by omega, hr⟩
      · exact ⟨by omega, by omega, hr⟩
  · cases h
theorem takeCount_ok {lo hi n : Nat} {l l' : Toks} (h : takeCount lo hi l = .ok (n, l')) (hg : Good l) : lo ≤ n ∧ n ≤ hi ∧ Good l' ∧ l'.length ≤ l.length := by
  unfold takeCount at h
  split at h
  · split at h
    · cases h
    · cases h
      exact ⟨by omega, by omega, hg.tail, by simp⟩
  · cases h
theorem takeAlign_ok {n : Nat} {l l' : Toks} (h : takeAlign l = .ok (n, l')) (hg : Good l) : n ∈ ALIGNS ∧ Good l' ∧ l'.length ≤ l.length := by
  unfold takeAlign at h
  split at h
  · cases h
    exact ⟨by decide, hg, Nat.le_refl _⟩
  · split at h
    · rename_i q n' r e
      split at h
      · rename_i hc
        cases h
        have g := hg.drop 1
        rw [e] at g
        have el := congrArg List.length e
        simp at el
        exact ⟨by simpa using hc, g.tail, by omega⟩
      · cases h
    · cases h
/-- how deep with what stands in named records -/
def dd : Ty → Nat
  | .num _ _ _ => 1
  | .maybe t => dd t + 1
  | .many _ t => dd t + 1
  | .one_ fs => dd fs + 1
  | .named _ t => dd t + 1
  | .rec_ fs => dd fs
  | .nil => 0
  | .field _ _ t r => max (dd t) (dd r)
/-- within named records, too, types stand at most 6 deep -/
def Dep6 : Ty → Prop
  | .num _ _ _ => True
  | .maybe t => Dep6 t
  | .many _ t => Dep6 t
  | .one_ fs => Dep6 fs
  | .named _ t => dep t ≤ 6 ∧ Dep6 t
  | .rec_ fs => Dep6 fs
  | .nil => True
  | .field _ _ t r => Dep6 t ∧ Dep6 r
theorem dd_pos {t : Ty} (h : (clOf t).isSome = true) : 1 ≤ dd t := by
  cases t <;> first | (simp only [dd]; omega) | cases h
theorem dd_row {fs : Ty} : ∀ p ∈ rowL fs, dd p.2.2 ≤ dd fs := by
  induction fs with
  | field x h t r _ ih =>
    intro p hp
    simp only [dd]
    rcases List.mem_cons.mp hp with rfl | hp
    · exact Nat.le_max_left ..
    · exact Nat.le_trans (ih p hp) (Nat.le_max_right ..)
  | _ => intro p hp; cases hp
theorem d6_row {fs : Ty} : Dep6 fs → ∀ p ∈ rowL fs, Dep6 p.2.2 := by
  induction fs with
  | field x h t r _ ih =>
    intro z p hp
    rcases List.mem_cons.mp hp with rfl | hp
    · exact z.1
    · exact ih z.2 p hp
  | _ => intro _ p hp; cases hp
theorem dd_rowOf {d : Nat} : ∀ {l : List (PName × Nat × Ty)}, (∀ p ∈ l, dd p.2.2 ≤ d) → dd (rowOf l) ≤ d
  | [], _ => Nat.zero_le _
  | x :: l, h => Nat.max_le.mpr ⟨h x (List.mem_cons_self ..), dd_rowOf fun p hp => h p (List.mem_cons_of_mem _ hp)⟩
theorem d6_rowOf : ∀ {l : List (PName × Nat × Ty)}, (∀ p ∈ l, Dep6 p.2.2) → Dep6 (rowOf l)
  | [], _ => trivial
  | x :: l, h => ⟨h x (List.mem_cons_self ..), d6_rowOf fun p hp => h p (List.mem_cons_of_mem _ hp)⟩
structure TyOk (m d : Nat) (t : Ty) : Prop where
  fine : Fine t
  sh : (clOf t).isSome = true
  dp : dep t ≤ d
  nb : nb m t
  dd : dd t ≤ d + m / 30
  d6 : Dep6 t
theorem bind_ok {α β : Type} {x : Except Fault α} {f : α → Except Fault β} {b : β} (h : x.bind f = .ok b) : ∃ a, x = .ok a ∧ f a = .ok b := by
  cases x with
  | error e => cases h
  | ok a => exact ⟨a, rfl, h⟩
theorem map_ok {α β : Type} {x : Except Fault α} {f : α → β} {b : β} (h : x.map f = .ok b) : ∃ a, x = .ok a ∧ f a = b := by
  cases x with
  | error e => cases h
  | ok a => exact ⟨a, rfl, Except.ok.inj h⟩
def AltOk (m d : Nat) (p : PName × Nat × Ty) : Prop := nameOk p.1.name ∧ p.2.1 = 1 ∧ TyOk m d p.2.2
theorem takeAlts_ok {m d : Nat} {part : Toks → Except Fault (Ty × Toks)} (hp : ∀ l t l', Good l → part l = .ok (t, l') → TyOk m d t ∧ Good l' ∧ l'.length ≤ l.length) :
    ∀ (n : Nat) (as : List (PName × Nat × Ty)) (l : Toks) (t : Ty) (l' : Toks), (∀ p ∈ as, AltOk m d p) → Good l → takeAlts part n as l = .ok (t, l') →
      ∃ bs, t = .one_ (rowOf bs) ∧ 2 ≤ bs.length ∧ bs.length ≤ 4 ∧ (∀ p ∈ bs, AltOk m d p) ∧ Good l' ∧ l'.length ≤ l.length
  | 0, as, l, t, l', _, _, h => by cases h
  | n + 1, as, l, t, l', ha, hg, h => by
    unfold takeAlts at h
    split at h
    · cases h
    · rename_i h4
      obtain ⟨x, hx, h⟩ := bind_ok h
      obtain ⟨nx, gx, lx⟩ := takeName_ok (x := x.1) (l' := x.2) hx hg
      split at h
      · cases h
      · obtain ⟨m1, hm1, h⟩ := bind_ok h
        obtain ⟨g1, l1⟩ := taken_ok hm1 gx
        obtain ⟨ty, hty, h⟩ := bind_ok h
        obtain ⟨ok, g2, l2⟩ := hp _ ty.1 ty.2 g1 hty
        have hb : ∀ p ∈ as ++ [(x.1, 1, ty.1)], AltOk m d p := fun p hp' => by
          rcases List.mem_append.mp hp' with z | z
          · exact ha p z
          · rw [List.mem_singleton.mp z]
            exact ⟨nx, rfl, ok⟩
        dsimp only at h
        split at h
        · obtain ⟨bs, e, r1, r2, r3, r4, r5⟩ := takeAlts_ok hp n _ _ t l' hb (g2.drop 1) h
          refine ⟨bs, e, r1, r2, r3, r4, ?_⟩
          have : (ty.2.drop 1).length ≤ ty.2.length := by simp
          omega
        · split at h
          · cases h
          · rename_i h2
            obtain ⟨m2, hm2, h⟩ := map_ok h
            cases h
            obtain ⟨g3, l3⟩ := taken_ok hm2 g2
            refine ⟨_, rfl, by omega, ?_, hb, g3, by omega⟩
            rw [List.length_append, List.length_singleton]
            unfold ALTS at h4
            omega
/-- what is known of the records told so far -/
structure RsOk (m : Nat) (rs : List Rec) : Prop where
  fine : ∀ r ∈ rs, nameOk r.x.name ∧ (∃ fs, r.t = .rec_ fs) ∧ Fine r.t
  nb : ∀ r ∈ rs, ∀ f ∈ leavesOf r.t, f.name.length ≤ m ∧ f.guards.length ≤ m
  dd : ∀ r ∈ rs, dd r.t ≤ m / 30
  d6 : ∀ r ∈ rs, dep r.t ≤ 6 ∧ Dep6 r.t
theorem ones_of : ∀ {l : List (PName × Nat × Ty)}, (∀ p ∈ l, p.2.1 = 1) → ones (rowOf l) = true
  | [], _ => rfl
  | x :: l, h => by
    show (x.2.1 == 1 && ones (rowOf l)) = true
    rw [h x (List.mem_cons_self ..), ones_of fun p hp => h p (List.mem_cons_of_mem _ hp)]
    rfl
theorem nb_rowOf {m : Nat} : ∀ {l : List (PName × Nat × Ty)}, (∀ p ∈ l, Lv.nb m p.2.2) → Lv.nb m (rowOf l)
  | [], _ => trivial
  | x :: l, h => ⟨h x (List.mem_cons_self ..), nb_rowOf fun p hp => h p (List.mem_cons_of_mem _ hp)⟩
theorem dep_rowOf {d : Nat} : ∀ {l : List (PName × Nat × Ty)}, (∀ p ∈ l, dep p.2.2 ≤ d) → dep (rowOf l) ≤ d
  | [], _ => Nat.zero_le _
  | x :: l, h => Nat.max_le.mpr ⟨h x (List.mem_cons_self ..), dep_rowOf fun p hp => h p (List.mem_cons_of_mem _ hp)⟩
theorem takeTy_ok {m : Nat} {rs : List Rec} (hr : RsOk m rs) : ∀ (n : Nat) (l : Toks) (t : Ty) (l' : Toks), Good l → takeTy rs n l = .ok (t, l') → TyOk m n t ∧ Good l' ∧ l'.length ≤ l.length
  | 0, l, t, l', _, h => by cases h
  | n + 1, l, t, l', hg, h => by
    have ld : (l.drop 1).length ≤ l.length := by simp
    unfold takeTy at h
    split at h
    · obtain ⟨a, ha, h⟩ := bind_ok h
      obtain ⟨a1, a2, ga, la⟩ := takeInt_ok (v := a.1) (q := a.2.1) (l' := a.2.2) ha (hg.drop 1)
      obtain ⟨l2, hw, h⟩ := bind_ok h
      obtain ⟨gw, lw⟩ := taken_ok hw ga
      obtain ⟨b, hb, h⟩ := bind_ok h
      obtain ⟨b1, b2, gb, lb⟩ := takeInt_ok (v := b.1) (q := b.2.1) (l' := b.2.2) hb gw
      split at h
      · cases h
      · rename_i hab
        obtain ⟨c, hc, h⟩ := map_ok h
        obtain ⟨c1, gc, lc⟩ := takeAlign_ok (n := c.1) (l' := c.2) hc gb
        cases h
        exact ⟨⟨⟨a1, by omega, b2, c1⟩, rfl, by simp only [dep]; omega, trivial, by simp only [Lv.dd]; omega, trivial⟩, gc, by omega⟩
    · split at h
      · obtain ⟨x, hx, h⟩ := map_ok h
        obtain ⟨ok, gx, lx⟩ := takeTy_ok hr n _ x.1 x.2 (hg.drop 1) hx
        cases h
        exact ⟨⟨⟨ok.sh, ok.fine⟩, rfl, by simp only [dep]; have := ok.dp; omega, ok.nb, by simp only [Lv.dd]; have := ok.dd; omega, ok.d6⟩, gx, by omega⟩
      · split at h
        · obtain ⟨k, hk, h⟩ := bind_ok h
          obtain ⟨k1, k2, gk, lk⟩ := takeCount_ok (n := k.1) (l' := k.2) hk (hg.drop 1)
          obtain ⟨x, hx, h⟩ := map_ok h
          obtain ⟨ok, gx, lx⟩ := takeTy_ok hr n _ x.1 x.2 gk hx
          cases h
          exact ⟨⟨⟨k1, k2, ok.sh, ok.fine⟩, rfl, by simp only [dep]; have := ok.dp; omega, ok.nb, by simp only [Lv.dd]; have := ok.dd; omega, ok.d6⟩, gx, by omega⟩
        · split at h
          · obtain ⟨l2, hw, h⟩ := bind_ok h
            obtain ⟨gw, lw⟩ := taken_ok hw (hg.drop 1)
            obtain ⟨bs, e, r1, r2, r3, r4, r5⟩ := takeAlts_ok (m := m) (d := n) (fun l t l' g e => takeTy_ok hr n l t l' g e) _ [] _ t l' (fun p hp => by cases hp) gw h
            subst e
            refine ⟨⟨⟨isRow_rowOf bs, by rw [rowLength_rowOf]; exact r1, by rw [rowLength_rowOf]; exact r2, fine_rowOf fun p hp => ?_⟩, rfl, ?_, ⟨ones_of fun p hp => (r3 p hp).2.1, nb_rowOf fun p hp => (r3 p hp).2.2.nb⟩, ?_, d6_rowOf fun p hp => (r3 p hp).2.2.d6⟩, r4, by omega⟩
            · obtain ⟨q1, q2, q3⟩ := r3 p hp
              exact ⟨q1, by omega, by omega, q3.sh, q3.fine⟩
            · simp only [dep]
              have := dep_rowOf (d := n) (l := bs) fun p hp => (r3 p hp).2.2.dp
              omega
            · simp only [Lv.dd]
              have := dd_rowOf (d := n + m / 30) (l := bs) fun p hp => (r3 p hp).2.2.dd
              omega
          · obtain ⟨x, hx, h⟩ := bind_ok h
            obtain ⟨nx, gx, lx⟩ := takeName_ok (x := x.1) (l' := x.2) hx hg
            split at h
            · cases h
            · rename_i r hf
              cases h
              have hm := List.mem_of_find?_eq_some hf
              obtain ⟨f1, f2, f3⟩ := hr.fine r hm
              exact ⟨⟨⟨f1, f2, f3⟩, rfl, by simp only [dep]; omega, hr.nb r hm, by simp only [Lv.dd]; have := hr.dd r hm; omega, hr.d6 r hm⟩, gx, by omega⟩
/-- a field that is read -/
structure FieldRd (m : Nat) (p : PName × Nat × Ty) : Prop where
  nm : nameOk p.1.name
  h1 : 1 ≤ p.2.1
  h2 : p.2.1 ≤ 1000
  ty : TyOk m 6 p.2.2
theorem takeFields_ok {m : Nat} {rs : List Rec} (hr : RsOk m rs) : ∀ (n : Nat) (fs : List (PName × Nat × Ty)) (l : Toks) (t : Ty) (l' : Toks), (∀ p ∈ fs, FieldRd m p) → Good l → takeFields rs n fs l = .ok (t, l') →
    ∃ ps, t = .rec_ (rowOf ps) ∧ 1 ≤ ps.length ∧ ps.length ≤ fs.length + l.length ∧ (∀ p ∈ ps, FieldRd m p) ∧ Good l' ∧ l'.length ≤ l.length
  | 0, fs, l, t, l', _, _, h => by cases h
  | n + 1, fs, l, t, l', hf, hg, h => by
    unfold takeFields at h
    split at h
    · rename_i hc
      cases h
      refine ⟨fs, rfl, ?_, by omega, hf, hg.drop 1, by simp⟩
      have := hc.2
      cases fs with
      | nil => cases this
      | cons _ _ => simp
    · obtain ⟨x, hx, h⟩ := bind_ok h
      obtain ⟨nx, gx, lx⟩ := takeName_ok (x := x.1) (l' := x.2) hx hg
      split at h
      · cases h
      · obtain ⟨m1, hm1, h⟩ := bind_ok h
        obtain ⟨g1, l1⟩ := taken_ok hm1 gx
        obtain ⟨ty, hty, h⟩ := bind_ok h
        obtain ⟨ok, g2, l2⟩ := takeTy_ok hr DEPTH _ ty.1 ty.2 g1 hty
        obtain ⟨k, hk, h⟩ := bind_ok h
        have hk' : 1 ≤ k.1 ∧ k.1 ≤ 1000 ∧ Good k.2 ∧ k.2.length ≤ ty.2.length := by
          split at hk
          · obtain ⟨a, b, c, d⟩ := takeCount_ok (n := k.1) (l' := k.2) hk (g2.drop 1)
            refine ⟨a, b, c, ?_⟩
            have : (ty.2.drop 1).length ≤ ty.2.length := by simp
            omega
          · cases hk
            exact ⟨Nat.le_refl 1, (by show 1 ≤ 1000; decide), g2, Nat.le_refl _⟩
        obtain ⟨m2, hm2, h⟩ := bind_ok h
        obtain ⟨g3, l3⟩ := taken_ok hm2 hk'.2.2.1
        obtain ⟨ps, e, r1, r2, r3, r4, r5⟩ := takeFields_ok hr n _ _ t l' (fun p hp => by
          rcases List.mem_append.mp hp with z | z
          · exact hf p z
          · rw [List.mem_singleton.mp z]
            exact ⟨nx, hk'.1, hk'.2.1, ok⟩) g3 h
        refine ⟨ps, e, r1, ?_, r3, r4, by omega⟩
        rw [List.length_append, List.length_singleton] at r2
        omega
/-- one record more -/
theorem rec_more {m : Nat} {rs : List Rec} {r : Rec} {ps : List (PName × Nat × Ty)} (hr : RsOk m rs) (hn : nameOk r.x.name) (ht : r.t = .rec_ (rowOf ps)) (h1 : 1 ≤ ps.length) (hp : ∀ p ∈ ps, FieldRd m p) : RsOk (m + 200) (rs ++ [r]) := by
  have hfine : Fine (rowOf ps) := fine_rowOf fun p hp' => ⟨(hp p hp').nm, (hp p hp').h1, (hp p hp').h2, (hp p hp').ty.sh, (hp p hp').ty.fine⟩
  have hrow : isRow (rowOf ps) = true := isRow_rowOf ps
  have hnb : Lv.nb m (rowOf ps) := nb_rowOf fun p hp' => (hp p hp').ty.nb
  have hdp : dep (rowOf ps) ≤ 6 := dep_rowOf fun p hp' => (hp p hp').ty.dp
  constructor
  · intro r' hr'
    rcases List.mem_append.mp hr' with z | z
    · exact hr.fine r' z
    · rw [List.mem_singleton.mp z]
      refine ⟨hn, ⟨_, ht⟩, ?_⟩
      rw [ht]
      exact ⟨hrow, by rw [rowLength_rowOf]; exact h1, hfine⟩
  · intro r' hr' f hf
    rcases List.mem_append.mp hr' with z | z
    · have := hr.nb r' z f hf
      exact ⟨by omega, by omega⟩
    · rw [List.mem_singleton.mp z, ht] at hf
      have hf' : f ∈ leavesBy (rowOf ps) 0 [] 1 [] none := hf
      have a := (names_le m hfine hnb).2 hrow _ _ _ _ _ f hf'
      have b := (guards_le m hfine hnb).2 hrow _ _ _ _ _ f hf'
      simp only [List.length_nil] at a b
      exact ⟨by omega, by omega⟩
  · intro r' hr'
    rcases List.mem_append.mp hr' with z | z
    · have := hr.dd r' z
      omega
    · rw [List.mem_singleton.mp z, ht]
      have := dd_rowOf (d := 6 + m / 30) (l := ps) fun p hp' => (hp p hp').ty.dd
      show Lv.dd (rowOf ps) ≤ _
      omega
  · intro r' hr'
    rcases List.mem_append.mp hr' with z | z
    · exact hr.d6 r' z
    · rw [List.mem_singleton.mp z, ht]
      exact ⟨hdp, d6_rowOf fun p hp' => (hp p hp').ty.d6⟩
end Lv
set_option Elab.async false
set_option linter.all false
set_option maxRecDepth 100000
set_option maxHeartbeats 4000000
namespace Lv
open PySem PySem.Spec PyProof.Rows L2 TL
open ValayBase (PTok Toks Fault)
section
variable {P : Program} {w : World} {K : PySem.W.Frag} {mg : Str → Option Value} {base : Heap}
/-! ### what becomes of reading -/
theorem FallsR.but {H H1 : Hp} {r : Addr} {E : XK} {f : Fault} (h : FallsR K H r E f) (b : But r H H1) : FallsR K H1 r E f := fun d H' b' hd => h d H' (b.trans b') hd
/-- x: what the specification reads; lt: the tokens that are left of it -/
def Outc (K : PySem.W.Frag) (r tl rd : Addr) (E : XK) {B : Type} (lt : B → Toks) (H : Hp) (x : Except Fault B) (k : B → Hp → Prop) : Prop := match x with
  | .error f => FallsR K H r E f
  | .ok b => ∀ H', But r H H' → RdAt K H' r tl rd (lt b) → k b H'
theorem Outc.but {r tl rd : Addr} {E : XK} {B : Type} {lt : B → Toks} {H H1 : Hp} {x : Except Fault B} {k : B → Hp → Prop} (h : Outc K r tl rd E lt H x k) (b : But r H H1) : Outc K r tl rd E lt H1 x k := by
  cases x with
  | error f => exact FallsR.but (K := K) h b
  | ok y => exact fun H' b' hR => h H' (b.trans b') hR
theorem Outc.bind {r tl rd : Addr} {E : XK} {A B : Type} {la : A → Toks} {lb : B → Toks} {H : Hp} {x : Except Fault A} {f : A → Except Fault B} {k : B → Hp → Prop} (h : Outc K r tl rd E lb H (x.bind f) k) : Outc K r tl rd E la H x (fun a H' => Outc K r tl rd E lb H' (f a) k) := by
  cases x with
  | error e => exact h
  | ok a => exact fun H' b' _ => Outc.but (x := f a) h b'
theorem Outc.map {r tl rd : Addr} {E : XK} {A B : Type} {la : A → Toks} {lb : B → Toks} {H : Hp} {x : Except Fault A} {f : A → B} {k : B → Hp → Prop} (h : Outc K r tl rd E lb H (x.map f) k) (hl : ∀ a, lb (f a) = la a) : Outc K r tl rd E la H x (fun a H' => k (f a) H') := by
  cases x with
  | error e => exact h
  | ok a => exact fun H' b' hR => h H' b' (by rw [hl]; exact hR)
theorem Outc.imp {r tl rd : Addr} {E : XK} {B : Type} {lt : B → Toks} {H : Hp} {x : Except Fault B} {k k' : B → Hp → Prop} (h : Outc K r tl rd E lt H x k) (i : ∀ b H', x = .ok b → But r H H' → RdAt K H' r tl rd (lt b) → k b H' → k' b H') : Outc K r tl rd E lt H x k' := by
  cases x with
  | error e => exact h
  | ok a => exact fun H' b' hR => i a H' rfl b' hR (h H' b' hR)
/-- .. and what it holds of any later heap -/
theorem Outc.on {r tl rd : Addr} {E : XK} {B : Type} {lt : B → Toks} {H : Hp} {x : Except Fault B} {k k' : B → Hp → Prop} (h : Outc K r tl rd E lt H x k) (i : ∀ b H', x = .ok b → But r H H' → RdAt K H' r tl rd (lt b) → (∀ H2, But r H' H2 → RdAt K H2 r tl rd (lt b) → k b H2) → k' b H') : Outc K r tl rd E lt H x k' := by
  cases x with
  | error e => exact h
  | ok a => exact fun H' b' hR => i a H' rfl b' hR fun H2 b2 hR2 => h H2 (b'.trans b2) hR2
/-! ### the words and the signs -/
theorem kw_record : KindIs "record" (fun t => ValayBase.tokEq t (.name (ValayBase.word "record"))) := kind_word rfl (by decide +kernel) (by decide) (by decide) (by decide) (by decide)
theorem kw_from : KindIs "from" (fun t => ValayBase.tokEq t (.name (ValayBase.word "from"))) := kind_word rfl (by decide +kernel) (by decide) (by decide) (by decide) (by decide)
theorem kw_to : KindIs "to" (fun t => ValayBase.tokEq t (.name (ValayBase.word "to"))) := kind_word rfl (by decide +kernel) (by decide) (by decide) (by decide) (by decide)
theorem kw_at : KindIs "at" (fun t => ValayBase.tokEq t (.name (ValayBase.word "at"))) := kind_word rfl (by decide +kernel) (by decide) (by decide) (by decide) (by decide)
theorem kw_maybe : KindIs "maybe" (fun t => ValayBase.tokEq t (.name (ValayBase.word "maybe"))) := kind_word rfl (by decide +kernel) (by decide) (by decide) (by decide) (by decide)
theorem kw_many : KindIs "many" (fun t => ValayBase.tokEq t (.name (ValayBase.word "many"))) := kind_word rfl (by decide +kernel) (by decide) (by decide) (by decide) (by decide)
theorem kw_one : KindIs "one" (fun t => ValayBase.tokEq t (.name (ValayBase.word "one"))) := kind_word rfl (by decide +kernel) (by decide) (by decide) (by decide) (by decide)
theorem kw_hot : KindIs "hot" (fun t => ValayBase.tokEq t (.name (ValayBase.word "hot"))) := kind_word rfl (by decide +kernel) (by decide) (by decide) (by decide) (by decide)
theorem ks_open : KindIs "{" (fun t => ValayBase.tokEq t (.sign 123)) := kind_sign rfl
theorem ks_close : KindIs "}" (fun t => ValayBase.tokEq t (.sign 125)) := kind_sign rfl
theorem ks_comma : KindIs "," (fun t => ValayBase.tokEq t (.sign 44)) := kind_sign rfl
theorem ks_semi : KindIs ";" (fun t => ValayBase.tokEq t (.sign 59)) := kind_sign rfl
theorem ks_colon : KindIs ":" (fun t => ValayBase.tokEq t (.sign 58)) := kind_sign rfl
theorem ks_minus : KindIs "-" (fun t => ValayBase.tokEq t (.sign 45)) := kind_sign rfl
/-! ### arguments that are written -/
theorem arg1 {sp : Sp} {x v : V} {σ : L2.St} {H : Hp} {Q : VK} {E : XK} (h : sp [x, v] H Q E) : tCons (tC v) tNil σ H (fun vs H2 => sp (x :: vs) H2 Q E) := h
theorem arg2 {sp : Sp} {x v u : V} {σ : L2.St} {H : Hp} {Q : VK} {E : XK} (h : sp [x, v, u] H Q E) : tCons (tC v) (tCons (tC u) tNil) σ H (fun vs H2 => sp (x :: vs) H2 Q E) := h
theorem argS {sp : Sp} {x v : V} {i : Nat} {σ : L2.St} {H : Hp} {Q : VK} {E : XK} (hi : σ[i]? = some (some v)) (h : sp [x, v] H Q E) : tCons (tVar i) tNil σ H (fun vs H2 => sp (x :: vs) H2 Q E) := ⟨v, hi, h⟩
theorem fn1 {sp : Sp} {v : V} {i : Nat} {σ : L2.St} {H : Hp} {Q : VK} {E : XK} (hi : σ[i]? = some (some v)) (h : sp [v] H Q E) : tCons (tVar i) tNil σ H (fun vs H2 => sp vs H2 Q E) := ⟨v, hi, h⟩
/-! ### what the reader's methods are asked -/
theorem ask_take {H : Hp} {r tl rd : Addr} {l : Toks} {k : Str} {t0 : ValayBase.Tok} {Q : VK} {E : XK} (hk : KindIs k (fun t => ValayBase.tokEq t t0)) (h0 : ValayBase.tokEq .last t0 = false) (hR : RdAt K H r tl rd l)
    (h : Outc K r tl rd E (fun l' => l') H (ValayBase.taken t0 l) (fun _ H' => ∀ a, Q (.ref a) H')) : spTake K [.ref r, .str k] H Q E := by
  obtain ⟨t, l', rfl⟩ := hR.cons
  refine ⟨r, tl, rd, k, _, t, l', rfl, hk, h0, hR, fun c a H' b hR' _ => ?_, fun c => ?_⟩
  · have e : ValayBase.taken t0 (t :: l') = .ok l' := if_pos c
    rw [e] at h
    exact h H' b hR' a
  · have e : ValayBase.taken t0 (t :: l') = .error ⟨3, t.place⟩ := if_neg (by show ¬ ValayBase.tokEq t.tok t0 = true; rw [c]; decide)
    rw [e] at h
    exact h
/-- with the token that is taken -/
theorem ask_takeT {H : Hp} {r tl rd : Addr} {l : Toks} {k : Str} {t0 : ValayBase.Tok} {Q : VK} {E : XK} (hk : KindIs k (fun t => ValayBase.tokEq t t0)) (h0 : ValayBase.tokEq .last t0 = false) (hR : RdAt K H r tl rd l)
    (h : Outc K r tl rd E (fun l' => l') H (ValayBase.taken t0 l) (fun _ H' => ∀ a t, t.place = ValayBase.here l → TokAt K H' a t → Q (.ref a) H')) : spTake K [.ref r, .str k] H Q E := by
  obtain ⟨t, l', rfl⟩ := hR.cons
  refine ⟨r, tl, rd, k, _, t, l', rfl, hk, h0, hR, fun c a H' b hR' ht => ?_, fun c => ?_⟩
  · have e : ValayBase.taken t0 (t :: l') = .ok l' := if_pos c
    rw [e] at h
    exact h H' b hR' a t rfl ht
  · have e : ValayBase.taken t0 (t :: l') = .error ⟨3, t.place⟩ := if_neg (by show ¬ ValayBase.tokEq t.tok t0 = true; rw [c]; decide)
    rw [e] at h
    exact h
theorem ask_takes {H : Hp} {r tl rd : Addr} {l : Toks} {k : Str} {t0 : ValayBase.Tok} {Q : VK} {E : XK} (hk : KindIs k (fun t => ValayBase.tokEq t t0)) (h0 : ValayBase.tokEq .last t0 = false) (hR : RdAt K H r tl rd l)
    (hy : ValayBase.next t0 l = true → ∀ H', But r H H' → RdAt K H' r tl rd (l.drop 1) → Q (.bl true) H') (hn : ValayBase.next t0 l = false → Q (.bl false) H) : spTakes K [.ref r, .str k] H Q E := by
  obtain ⟨t, l', rfl⟩ := hR.cons
  exact ⟨r, tl, rd, k, _, t, l', rfl, hk, h0, hR, fun c H' b hR' => hy c H' b hR', fun c => hn c⟩
/-! ### numbers -/
/-- what - may stand ahead of -/
def signed (l : Toks) : Toks := if ValayBase.next (.sign 45) l = true then l.drop 1 else l
theorem takeInt_eq (l : Toks) : Valaya.takeInt l = (Valaya.takeCount 0 1000000 (signed l)).map fun c => (if ValayBase.next (.sign 45) l = true then -(c.1 : Int) else (c.1 : Int), ValayBase.here (signed l), c.2) := by
  unfold Valaya.takeInt signed
  dsimp only
  generalize (if ValayBase.next (.sign 45) l = true then l.drop 1 else l) = m
  unfold Valaya.takeCount Valaya.LARGE
  match m with
  | [] => rfl
  | ⟨q, .num n⟩ :: r =>
    dsimp only
    by_cases c : 1000000 < n
    · rw [if_pos c, if_pos (by omega)]
      rfl
    · rw [if_neg c, if_neg (show ¬ (n < 0 ∨ 1000000 < n) by omega)]
      rfl
  | ⟨q, .name _⟩ :: r => rfl
  | ⟨q, .sign _⟩ :: r => rfl
  | ⟨q, .last⟩ :: r => rfl
def spValue (K : PySem.W.Frag) : Sp := fun vs H Q E => ∃ (r tl rd : Addr) (L : Int) (l : Toks), vs = [.ref r, .int L] ∧ RdAt K H r tl rd l ∧
  Outc K r tl rd E (fun b : Int × Nat × Toks => b.2.2) H (Valaya.takeInt l) (fun b H' => (b.1 < L → FallsR K H' r E ⟨7, b.2.1⟩) ∧ (¬ b.1 < L → Q (.int b.1) H'))
theorem ask_number {H : Hp} {r tl rd : Addr} {l : Toks} {lo hi : Nat} {Q : VK} {E : XK} (hR : RdAt K H r tl rd l)
    (h : Outc K r tl rd E (fun b : Nat × Toks => b.2) H (Valaya.takeCount lo hi l) (fun b H' => ∀ a, TokAt K H' a ⟨ValayBase.here l, .num b.1⟩ → Q (.ref a) H')) : spNumber K [.ref r, .int lo, .int hi] H Q E := by
  refine ⟨r, tl, rd, lo, hi, l, rfl, hR, fun f e => ?_, fun n l' e a H' b hR' ha => ?_⟩
  · rw [e] at h
    exact h
  · rw [e] at h
    exact h H' b hR' a ha
theorem ok_read_value (T : Txt K mg) : FnAt P w K mg base (L2.CX P w) 5 "read_value" ["reader", "least"] (spValue K) := by
  have G_Fault := ok_Fault (P := P) (w := w) (base := base) T
  have G_Reader_takes := ok_Reader_takes (P := P) (w := w) (base := base) T
  have G_Reader_take_number := ok_Reader_take_number (P := P) (w := w) (base := base) T
  refine T.d_read_value.okX sc_read_value (fun vs H Q E h => by obtain ⟨r, tl, rd, L, l, rfl, _⟩ := h; rfl) fun f cdv A outer s H vs Q E hr h tk => ?_
  obtain ⟨r, tl, rd, L, l, rfl, hR, h⟩ := h
  obtain ⟨dx, i, h1⟩ := hR.ins
  rw [takeInt_eq] at h
  have h := Outc.map (la := fun b : Nat × Toks => b.2) h (fun _ => rfl)
  dsimp only at h
  refine ⟨_, (pss_cons (ps_set (i := 2) sc_read_value.nd rfl (Or.inl rfl) (pe_me (pv 0) G_Reader_takes hr (by first | decide | omega) (pa_cons pe_str pa_nil)))
  (pss_cons (ps_set (i := 3) sc_read_value.nd rfl (Or.inl rfl) (pe_meX (pv 0) G_Reader_take_number hr (by first | decide | omega) tk (pa_cons pe_int (pa_cons (pe_num T.n_FARTHEST) pa_nil))))
  (pss_cons (ps_set (i := 4) sc_read_value.nd rfl (Or.inl rfl) (pe_ifExp (pt_val (pv 2)) (pe_un un_neg (pe_fl T.c_Token T.na_Token_told (pv 3))) (pe_fl T.c_Token T.na_Token_told (pv 3))))
  (pss_cons (ps_if (pt_cmpR op_lt (pv 4) (pv 1) (nomark _)) (pss_one (ps_raise rfl tk (pmk_rz G_Fault hr (by first | decide | omega) (pa_cons (pe_num T.n_OUT_OF_BOUNDS) (pa_cons (pe_fl T.c_Token T.na_Token_place (pv 3)) pa_nil))))) pss_nil)
  (pss_one (ps_ret (pv 4))))))), ?_⟩
  refine ⟨_, rfl, r, dx, _, rfl, h1, rdm (by decide) (by decide) (by decide), arg1 (ask_takes ks_minus rfl hR (fun en H1 b1 hR1 => ?_) (fun en => ?_))⟩
  · have es : signed l = l.drop 1 := by unfold signed; rw [en]; rfl
    rw [es] at h
    obtain ⟨dx1, i1, h11⟩ := hR1.ins
    refine ⟨_, rfl, r, dx1, _, rfl, h11, rdm (by decide) (by decide) (by decide), arg2 (ask_number (lo := 0) (hi := 1000000) hR1 (Outc.imp (h.but b1) fun b H2 _ b2 hR2 k a ha => ?_))⟩
    obtain ⟨da, hai⟩ := ha
    rw [en] at k
    refine ⟨_, rfl, true, rfl, if_t rfl ⟨_, rfl, a, da, _, _, rfl, hai, rfl, _, rfl, _, rfl, _, rfl, _, _, rfl, rfl, _, rfl, ?_⟩⟩
    by_cases c : (-(b.1 : Int)) < L
    · exact if_t (decide_eq_true c) ⟨_, rfl, a, da, _, _, rfl, hai, rfl, rfl, by decide, faultR_at (k.1 c) (But.refl _ _) rfl rfl⟩
    · exact if_f (decide_eq_false c) ⟨_, rfl, k.2 c⟩
  · have b1 := But.refl r H
    have hR1 := hR
    have es : signed l = l := by unfold signed; rw [en]; rfl
    rw [es] at h
    obtain ⟨dx1, i1, h11⟩ := hR1.ins
    refine ⟨_, rfl, r, dx1, _, rfl, h11, rdm (by decide) (by decide) (by decide), arg2 (ask_number (lo := 0) (hi := 1000000) hR1 (Outc.imp (h.but b1) fun b H2 _ b2 hR2 k a ha => ?_))⟩
    obtain ⟨da, hai⟩ := ha
    rw [en] at k
    refine ⟨_, rfl, false, rfl, if_f rfl ⟨_, rfl, a, da, _, _, rfl, hai, rfl, _, rfl, _, rfl, _, _, rfl, rfl, _, rfl, ?_⟩⟩
    by_cases c : ((b.1 : Int)) < L
    · exact if_t (decide_eq_true c) ⟨_, rfl, a, da, _, _, rfl, hai, rfl, rfl, by decide, faultR_at (k.1 c) (But.refl _ _) rfl rfl⟩
    · exact if_f (decide_eq_false c) ⟨_, rfl, k.2 c⟩
end
end Lv
set_option Elab.async false
set_option linter.all false
set_option maxRecDepth 100000
set_option maxHeartbeats 4000000
namespace Lv
open PySem PySem.Spec PyProof.Rows L2 TL
open ValayBase (PTok Toks Fault)
open Valaya (Ty Rec)
section
variable {P : Program} {w : World} {K : PySem.W.Frag} {mg : Str → Option Value} {base : Heap}
/-! ### how a number is aligned -/
theorem in_aligns (n : Nat) : inV (.int n) [.int 1, .int 2, .int 4, .int 8, .int 16, .int 32] = Valaya.ALIGNS.contains n := by
  show ((1 : Int) == (n : Int) || ((2 : Int) == n || ((4 : Int) == n || ((8 : Int) == n || ((16 : Int) == n || ((32 : Int) == n || false)))))) = _
  unfold Valaya.ALIGNS
  rw [Bool.eq_iff_iff]
  simp
  omega
def spAlign (K : PySem.W.Frag) : Sp := fun vs H Q E => ∃ (r tl rd : Addr) (l : Toks), vs = [.ref r] ∧ RdAt K H r tl rd l ∧ Outc K r tl rd E (fun b : Nat × Toks => b.2) H (Valaya.takeAlign l) (fun b H' => Q (.int (b.1 : Nat)) H')
theorem ok_read_alignment (T : Txt K mg) : FnAt P w K mg base (L2.CX P w) 4 "read_alignment" ["reader"] (spAlign K) := by
  have G_Fault := ok_Fault (P := P) (w := w) (base := base) T
  have G_Reader_takes := ok_Reader_takes (P := P) (w := w) (base := base) T
  have G_Reader_take := ok_Reader_take (P := P) (w := w) (base := base) T
  refine T.d_read_alignment.okX sc_read_alignment (fun vs H Q E h => by obtain ⟨r, tl, rd, l, rfl, _⟩ := h; rfl) fun f cdv A outer s H vs Q E hr h tk => ?_
  obtain ⟨r, tl, rd, l, rfl, hR, h⟩ := h
  obtain ⟨dx, i, h1⟩ := hR.ins
  refine ⟨_, (pss_cons (ps_if (pt_not (pt_val (pe_me (pv 0) G_Reader_takes hr (by first | decide | omega) (pa_cons pe_str pa_nil)))) (pss_one (ps_ret pe_int)) pss_nil)
  (pss_cons (ps_set (i := 1) sc_read_alignment.nd rfl (Or.inl rfl) (pe_meX (pv 0) G_Reader_take hr (by first | decide | omega) tk (pa_cons pe_str pa_nil)))
  (pss_cons (ps_if (pt_cmpR op_notIn_seq (pe_fl T.c_Token T.na_Token_told (pv 1)) (pe_adr T.a_ALIGNMENTS) (by rfl)) (pss_one (ps_raise rfl tk (pmk_rz G_Fault hr (by first | decide | omega) (pa_cons (pe_num T.n_OUT_OF_BOUNDS) (pa_cons (pe_fl T.c_Token T.na_Token_place (pv 1)) pa_nil))))) pss_nil)
  (pss_one (ps_ret (pe_fl T.c_Token T.na_Token_told (pv 1))))))), ?_⟩
  refine ⟨_, rfl, r, dx, _, rfl, h1, rdm (by decide) (by decide) (by decide), arg1 (ask_takes kw_at rfl hR (fun en H1 b1 hR1 => ?_) (fun en => ?_))⟩
  · refine ⟨true, rfl, if_f rfl ?_⟩
    have e : Valaya.takeAlign l = match l.drop 1 with
      | ⟨q, .num n⟩ :: r => if Valaya.ALIGNS.contains n = true then .ok (n, r) else .error ⟨7, q⟩
      | m => ValayBase.wrong m := if_neg (by show ¬ ValayBase.next _ l = false; rw [en]; decide)
    rw [e] at h
    obtain ⟨t, l', el⟩ := hR1.cons
    rw [el] at h hR1
    obtain ⟨dx1, i1, h11⟩ := hR1.ins
    refine ⟨_, rfl, r, dx1, _, rfl, h11, rdm (by decide) (by decide) (by decide), arg1 ⟨r, tl, rd, _, isNum, t, l', rfl, kind_num, rfl, hR1, fun c a H2 b2 hR2 ha => ?_, fun c => ?_⟩⟩
    · obtain ⟨n, en2⟩ := isNum_num c
      obtain ⟨pl, tok⟩ := t
      subst en2
      obtain ⟨da, hai⟩ := ha
      refine ⟨_, rfl, a, da, _, _, rfl, hai, rfl, _, _, rfl, .inr (T.tup_ALIGNMENTS _), rfl, rfl, _, rfl, ?_⟩
      dsimp only at h
      have ia := in_aligns n
      by_cases c2 : Valaya.ALIGNS.contains n = true
      · rw [if_pos c2] at h
        refine if_f (by show (!inV _ _) = false; rw [show inV (tokTold (.num n)) _ = _ from ia, c2]; rfl) ?_
        exact ⟨_, rfl, a, da, _, _, rfl, hai, rfl, h H2 (b1.trans b2) hR2⟩
      · rw [if_neg c2] at h
        refine if_t (by show (!inV _ _) = true; rw [show inV (tokTold (.num n)) _ = _ from ia, eq_false_of_ne_true c2]; rfl) ?_
        exact ⟨_, rfl, a, da, _, _, rfl, hai, rfl, rfl, by decide, faultR_at (FallsR.but (K := K) h (b1.trans b2)) (But.refl _ _) rfl rfl⟩
    · obtain ⟨pl, tok⟩ := t
      cases tok with
      | num n => cases c
      | _ => exact FallsR.but (K := K) h b1
  · have e : Valaya.takeAlign l = .ok (1, l) := if_pos en
    rw [e] at h
    exact ⟨false, rfl, if_t rfl (h H (But.refl _ _) hR)⟩
/-! ### a heap with some lists hidden -/
def hide (X : List Addr) (H : Hp) : Hp := fun a => if a ∈ X then none else H a
theorem hide_in {X : List Addr} {H : Hp} {a : Addr} (h : a ∈ X) : hide X H a = none := if_pos h
theorem hide_out {X : List Addr} {H : Hp} {a : Addr} (h : a ∉ X) : hide X H a = H a := if_neg h
theorem hide_some {X : List Addr} {H : Hp} {a : Addr} {o : HO} (h : hide X H a = some o) : H a = some o ∧ a ∉ X := by
  by_cases c : a ∈ X
  · rw [hide_in c] at h
    cases h
  · rw [hide_out c] at h
    exact ⟨h, c⟩
/-- what is hidden: lists -/
def Lsts (H : Hp) (X : List Addr) : Prop := ∀ x ∈ X, ∃ xs, H x = some (.lst xs)
theorem Lsts.out {H : Hp} {X : List Addr} (h : Lsts H X) {a : Addr} (n : H a = none) : a ∉ X := fun m => by
  obtain ⟨xs, e⟩ := h a m
  rw [n] at e
  cases e
theorem Lsts.ins {H : Hp} {X : List Addr} (h : Lsts H X) {a c d : Addr} {fs : List (Str × V)} (n : H a = some (.ins c d fs)) : a ∉ X := fun m => by
  obtain ⟨xs, e⟩ := h a m
  rw [n] at e
  cases e
theorem Lsts.but {H H' : Hp} {X : List Addr} (h : Lsts H X) {r tl rd : Addr} {l : Toks} (hR : RdAt K H r tl rd l) (b : But r H H') : Lsts H' X := fun x m => by
  obtain ⟨xs, e⟩ := h x m
  obtain ⟨dx, i, h1⟩ := hR.ins
  exact ⟨xs, b _ _ e fun z => by rw [z, h1] at e; cases e⟩
theorem but_hide {H H' : Hp} {r : Addr} {X : List Addr} (b : But r H H') : But r (hide X H) (hide X H') := fun a o h n => by
  obtain ⟨h, m⟩ := hide_some h
  rw [hide_out m]
  exact b a o h n
theorem same_hide {H H' : Hp} {X : List Addr} (b : Same H H') : Same (hide X H) (hide X H') := fun a o h => by
  obtain ⟨h, m⟩ := hide_some h
  rw [hide_out m]
  exact b a o h
theorem hide_same {H : Hp} {x : Addr} {X : List Addr} : Same (hide (x :: X) H) (hide X H) := fun a o h => by
  obtain ⟨h, m⟩ := hide_some h
  rw [hide_out fun z => m (List.mem_cons_of_mem _ z)]
  exact h
theorem hide_nil {H : Hp} : hide [] H = H := rfl
theorem hide_upd {H : Hp} {x : Addr} {o : HO} {X : List Addr} (m : x ∈ X) : hide X (upd H x o) = hide X H := by
  funext a
  by_cases c : a ∈ X
  · rw [hide_in c, hide_in c]
  · rw [hide_out c, hide_out c, upd_ne fun z => c (by rw [z]; exact m)]
theorem hide_upd' {H : Hp} {x : Addr} {o : HO} {X : List Addr} (m : x ∉ X) : hide X (upd H x o) = upd (hide X H) x o := by
  funext a
  by_cases c : a ∈ X
  · rw [hide_in c, upd_ne (fun z => m (by rw [← z]; exact c)), hide_in c]
  · rw [hide_out c]
    by_cases e : a = x
    · rw [e, upd_same, upd_same]
    · rw [upd_ne e, upd_ne e, hide_out c]
theorem ins_hide {H : Hp} {X : List Addr} {a c : Addr} {fs : List (Str × V)} (h : Ins H a c fs) (m : a ∉ X) : Ins (hide X H) a c fs := by
  obtain ⟨d, h⟩ := h
  exact ⟨d, by rw [hide_out m]; exact h⟩
theorem keeps_rd {H H' : Hp} {r tl rd dx : Addr} {i : Nat} (h1 : H r = some (.ins (cRd K) dx (readF tl i rd))) (b : But r H H') : Keeps K H H' := by
  refine ⟨fun a C fs hi n1 _ _ => ?_, fun a xs ha => ?_, fun a xs ha => ?_, fun a xs ha => ?_⟩
  · obtain ⟨d, hi⟩ := hi
    refine ⟨d, b _ _ hi fun z => ?_⟩
    rw [z, h1] at hi
    cases hi
    exact n1 rfl
  · exact b _ _ ha fun z => by rw [z, h1] at ha; cases ha
  · rcases ha with (ha | ⟨o, ha⟩) | ha
    · exact .inl (.inl (b _ _ ha fun z => by rw [z, h1] at ha; cases ha))
    · exact .inl (.inr ⟨o, b _ _ ha fun z => by rw [z, h1] at ha; cases ha⟩)
    · exact .inr ha
  · exact b _ _ ha fun z => by rw [z, h1] at ha; cases ha
theorem keeps_hide {H H' : Hp} {r tl rd : Addr} {l : Toks} {X : List Addr} (hR : RdAt K H r tl rd l) (hX : Lsts H X) (b : But r H H') : Keeps K (hide X H) (hide X H') := by
  obtain ⟨dx, i, h1⟩ := hR.ins
  exact keeps_rd (r := r) (tl := tl) (rd := rd) (by rw [hide_out (hX.ins h1)]; exact h1) (but_hide b)
/-! ### a number's type -/
def numTy (l : Toks) : Except Fault (Ty × Toks) := (Valaya.takeInt l).bind fun a => (ValayBase.takeWord "to" a.2.2).bind fun l => (Valaya.takeInt l).bind fun b => if b.1 < a.1 then .error ⟨7, b.2.1⟩ else (Valaya.takeAlign b.2.2).map fun c => (.num a.1 b.1 c.1, c.2)
def spRd (K : PySem.W.Frag) (g : Toks → Except Fault (Ty × Toks)) : Sp := fun vs H Q E => ∃ (r tl rd : Addr) (l : Toks) (X : List Addr), vs = [.ref r] ∧ RdAt K H r tl rd l ∧ Lsts H X ∧ Outc K r tl rd E (fun b : Ty × Toks => b.2) H (g l) (fun b H' => ∀ a, Lays K (hide X H') b.1 false [a] → Q (.ref a) H')
theorem ok_read_number (T : Txt K mg) : FnAt P w K mg base (L2.CX P w) 6 "read_number" ["reader"] (spRd K numTy) := by
  have G_Reader_take := ok_Reader_take (P := P) (w := w) (base := base) T
  have G_read_value := ok_read_value (P := P) (w := w) (base := base) T
  have G_read_alignment := ok_read_alignment (P := P) (w := w) (base := base) T
  have G_Number := ok_Number (P := P) (w := w) (base := base) T
  refine T.d_read_number.okX sc_read_number (fun vs H Q E h => by obtain ⟨r, tl, rd, l, X, rfl, _⟩ := h; rfl) fun f cdv A outer s H vs Q E hr h tk => ?_
  obtain ⟨r, tl, rd, l, X, rfl, hR, hX, h⟩ := h
  have h := Outc.bind (la := fun b : Int × Nat × Toks => b.2.2) h
  refine ⟨_, (pss_cons (ps_set (i := 1) sc_read_number.nd rfl (Or.inl rfl) (pe_fnX G_read_value hr (by first | decide | omega) tk (pa_cons (pv 0) (pa_cons (pe_un un_neg (pe_num T.n_FARTHEST)) pa_nil))))
  (pss_cons (ps_expr (pe_meX (pv 0) G_Reader_take hr (by first | decide | omega) tk (pa_cons pe_str pa_nil)))
  (pss_cons (ps_set (i := 2) sc_read_number.nd rfl (Or.inl rfl) (pe_fnX G_read_value hr (by first | decide | omega) tk (pa_cons (pv 0) (pa_cons (pv 1) pa_nil))))
  (pss_one (ps_ret (pe_mk G_Number hr (by first | decide | omega) (pa_cons (pv 1) (pa_cons (pv 2) (pa_cons (pe_fnX G_read_alignment hr (by first | decide | omega) tk (pa_cons (pv 0) pa_nil)) pa_nil))))))))), ?_⟩
  refine ⟨_, rfl, _, rfl, r, tl, rd, _, l, rfl, hR, Outc.imp h fun a H1 ea b1 hR1 k => ⟨fun c => ?_, fun _ => ?_⟩⟩
  · exfalso
    have : -1000000 ≤ a.1 := by
      rw [takeInt_eq] at ea
      obtain ⟨c0, hc0, rfl⟩ := map_ok ea
      have : c0.1 ≤ 1000000 := by
        unfold Valaya.takeCount at hc0
        split at hc0
        · split at hc0
          · cases hc0
          · cases hc0
            dsimp only
            omega
        · cases hc0
      dsimp only
      split <;> omega
    omega
  · have k := Outc.bind (la := fun l' : Toks => l') k
    obtain ⟨dx1, i1, h11⟩ := hR1.ins
    refine ⟨_, rfl, r, dx1, _, rfl, h11, rdm (by decide) (by decide) (by decide), arg1 (ask_take kw_to rfl hR1 (Outc.imp k fun l2 H2 _ b2 hR2 k2 _ => ?_))⟩
    have k2 := Outc.bind (la := fun b : Int × Nat × Toks => b.2.2) k2
    refine ⟨_, rfl, _, rfl, r, tl, rd, _, l2, rfl, hR2, Outc.imp k2 fun b H3 eb b3 hR3 k3 => ⟨fun c => ?_, fun c => ?_⟩⟩
    · rw [if_pos c] at k3
      exact k3
    · rw [if_neg c] at k3
      have k3 := Outc.map (la := fun b : Nat × Toks => b.2) k3 (fun _ => rfl)
      refine ⟨_, rfl, _, rfl, _, rfl, r, tl, rd, b.2.2, rfl, hR3, Outc.on k3 fun c4 H4 _ b4 hR4 k4 => fun p dx np nd ne => made rfl np nd ne fun H5 s5 h5 => ?_⟩
      exact k4 H5 (same_but s5) (hR4.same s5) p ⟨p, rfl, ins_hide h5 (((((hX.but hR b1).but hR1 b2).but hR2 b3).but hR3 b4).out np)⟩
/-! ### a record told before -/
/-- the dict of records -/
def RecsAt (K : PySem.W.Frag) (H : Hp) (kvs : List (Key × V)) (rs : List Rec) : Prop := Paired (fun kv r => ∃ a, kv = (Sum.inr (strB r.x.name), V.ref a) ∧ RecAt K H a r.x.name r.t) kvs rs
theorem RecsAt.keeps {H H' : Hp} (k : Keeps K H H') {kvs : List (Key × V)} {rs : List Rec} (h : RecsAt K H kvs rs) : RecsAt K H' kvs rs := paired_mono (fun kv r z => by obtain ⟨a, e, z⟩ := z; exact ⟨a, e, RecAt.keeps k z⟩) h
theorem recs_find {H : Hp} {kvs : List (Key × V)} {rs : List Rec} (h : RecsAt K H kvs rs) (b : ValayBase.Bytes) : match rs.find? fun r => r.x.name == b with
    | none => valV kvs (Sum.inr (strB b)) = none
    | some r => ∃ a, valV kvs (Sum.inr (strB b)) = some (.ref a) ∧ RecAt K H a r.x.name r.t := by
  induction h with
  | nil => rfl
  | @cons kv r kvs rs z _ ih =>
    obtain ⟨a, e, z⟩ := z
    subst e
    by_cases c : r.x.name = b
    · rw [List.find?_cons_of_pos (by simpa using c)]
      refine ⟨a, ?_, z⟩
      unfold valV
      rw [List.find?_cons_of_pos (by simp [c])]
      rfl
    · rw [List.find?_cons_of_neg (by simpa using c)]
      have e2 : valV ((Sum.inr (strB r.x.name), V.ref a) :: kvs) (Sum.inr (strB b)) = valV kvs (Sum.inr (strB b)) := by
        unfold valV
        rw [List.find?_cons_of_neg (by
          simp only [decide_eq_true_eq, Sum.inr.injEq]
          exact fun e => c (strB_inj e))]
      rw [e2]
      exact ih
theorem recs_any {H : Hp} {kvs : List (Key × V)} {rs : List Rec} (h : RecsAt K H kvs rs) (b : ValayBase.Bytes) : (rs.any fun r => r.x.name == b) = (valV kvs (Sum.inr (strB b))).isSome := by
  have := recs_find h b
  cases e : rs.find? fun r => r.x.name == b with
  | none =>
    rw [e] at this
    rw [this]
    rw [List.find?_eq_none] at e
    show _ = false
    rw [Bool.eq_false_iff]
    intro z
    obtain ⟨x, hx, hz⟩ := List.any_eq_true.mp z
    exact e x hx hz
  | some r =>
    rw [e] at this
    obtain ⟨a, ea, _⟩ := this
    rw [ea]
    have h1 := List.mem_of_find?_eq_some e
    have h2 := List.find?_some e
    exact List.any_eq_true.mpr ⟨r, h1, h2⟩
def namedTy (rs : List Rec) (l : Toks) : Except Fault (Ty × Toks) := (ValayBase.takeName l).bind fun x => match rs.find? fun r => r.x.name == x.1.name with
  | none => .error ⟨6, x.1.place⟩
  | some r => .ok (.named r.x.name r.t, x.2)
def spNamed (K : PySem.W.Frag) : Sp := fun vs H Q E => ∃ (r tl rd : Addr) (l : Toks) (kvs : List (Key × V)) (rs : List Rec) (X : List Addr), vs = [.ref r] ∧ RdAt K H r tl rd l ∧ H rd = some (.dK kvs) ∧ Lsts H X ∧ RecsAt K (hide X H) kvs rs ∧ Outc K r tl rd E (fun b : Ty × Toks => b.2) H (namedTy rs l) (fun b H' => ∀ a, Lays K (hide X H') b.1 false [a] → Q (.ref a) H')
theorem ok_read_named (T : Txt K mg) : FnAt P w K mg base (L2.CX P w) 4 "read_named" ["reader"] (spNamed K) := by
  have G_Fault := ok_Fault (P := P) (w := w) (base := base) T
  have G_Reader_take := ok_Reader_take (P := P) (w := w) (base := base) T
  have G_Named := ok_Named (P := P) (w := w) (base := base) T
  refine T.d_read_named.okX sc_read_named (fun vs H Q E h => by obtain ⟨r, tl, rd, l, kvs, rs, X, rfl, _⟩ := h; rfl) fun f cdv A outer s H vs Q E hr h tk => ?_
  obtain ⟨r, tl, rd, l, kvs, rs, X, rfl, hR, hd, hX, hS, h⟩ := h
  obtain ⟨dx, i, h1⟩ := hR.ins
  obtain ⟨t, l', rfl⟩ := hR.cons
  have hdr := hR.ne hd (fun _ _ _ z => by cases z)
  have hu := hu_of hr
  refine ⟨_, (pss_cons (ps_set (i := 1) sc_read_named.nd rfl (Or.inl rfl) (pe_meX (pv 0) G_Reader_take hr (by first | decide | omega) tk (pa_cons pe_str pa_nil)))
  (pss_cons (ps_if (pt_cmp (pc_dnotin hu (pe_fl T.c_Token T.na_Token_told (pv 1)) (pe_fl T.c_Reader T.na_Reader_records (pv 0)))) (pss_one (ps_raise rfl tk (pmk_rz G_Fault hr (by first | decide | omega) (pa_cons (pe_num T.n_NOT_TOLD_BEFORE) (pa_cons (pe_fl T.c_Token T.na_Token_place (pv 1)) pa_nil))))) pss_nil)
  (pss_one (ps_ret (pe_mk G_Named hr (by first | decide | omega) (pa_cons (pe_dget hu (pe_fl T.c_Reader T.na_Reader_records (pv 0)) (pe_fl T.c_Token T.na_Token_told (pv 1)) (fun _ _ => rfl)) pa_nil)))))), ?_⟩
  refine ⟨_, rfl, r, dx, _, rfl, h1, rdm (by decide) (by decide) (by decide), arg1 ⟨r, tl, rd, _, isName, t, l', rfl, kind_name, rfl, hR, fun c a H1 b1 hR1 ha => ?_, fun c => ?_⟩⟩
  · obtain ⟨b, eb⟩ := isName_name c
    obtain ⟨pl, tok⟩ := t
    subst eb
    obtain ⟨da, hai⟩ := ha
    unfold namedTy at h
    rw [takeName_name c] at h
    have h : Outc K r tl rd E (fun b : Ty × Toks => b.2) H (match rs.find? fun r => r.x.name == b with
      | none => .error ⟨6, pl⟩
      | some r => .ok (.named r.x.name r.t, l')) (fun b H' => ∀ a, Lays K (hide X H') b.1 false [a] → Q (.ref a) H') := h
    have kp := keeps_hide hR hX b1
    have hX1 := hX.but hR b1
    have hd1 := b1 _ _ hd hdr
    have hS1 := RecsAt.keeps kp hS
    obtain ⟨dx1, i1, h11⟩ := hR1.ins
    have fnd := recs_find hS1 b
    refine ⟨_, rfl, a, da, _, _, rfl, hai, rfl, _, rfl, r, dx1, _, _, rfl, h11, rfl, rd, _, rfl, DGet.k (k := Sum.inr (strB b)) hd1, _, rfl, ?_⟩
    cases e : rs.find? fun r => r.x.name == b with
    | none =>
      rw [e] at h fnd
      rw [fnd]
      exact if_t rfl ⟨_, rfl, a, da, _, _, rfl, hai, rfl, rfl, by decide, faultR_at (FallsR.but (K := K) h b1) (But.refl _ _) rfl rfl⟩
    | some r0 =>
      rw [e] at h fnd
      obtain ⟨ra, ev, hra⟩ := fnd
      rw [ev]
      refine if_f rfl ?_
      refine ⟨_, rfl, r, dx1, _, _, rfl, h11, rfl, _, rfl, a, da, _, _, rfl, hai, rfl, rd, V.ref ra, rfl, ?_, fun p dx np nd ne => made rfl np nd ne fun H5 s5 h5 => ?_⟩
      · rw [← ev]
        exact DGet.k (k := Sum.inr (strB b)) hd1
      · refine h H5 (b1.trans (same_but s5)) (hR1.same s5) p ?_
        obtain ⟨l0, lv, pl, bs, ls, cs, g1, g2, g3, g4, g5, g6, g7⟩ := RecAt.keeps (same_keeps (K := K) (same_hide s5)) hra
        exact ⟨p, ra, l0, lv, pl, bs, ls, cs, rfl, ins_hide h5 (hX1.out np), g1, g2, g3, g4, g5, g6, g7⟩
  · unfold namedTy at h
    rw [takeName_not c] at h
    exact h
end
end Lv
set_option Elab.async false
set_option linter.all false
set_option maxRecDepth 100000
set_option maxHeartbeats 4000000
namespace Lv
open PySem PySem.Spec PyProof.Rows L2 TL
open ValayBase (PTok Toks Fault)
open Valaya (Ty Rec)
section
variable {P : Program} {w : World} {K : PySem.W.Frag} {mg : Str → Option Value} {base : Heap}
/-! ### from a heap that lies behind -/
theorem Outc.call {r tl rd : Addr} {E : XK} {A B : Type} {la : A → Toks} {lb : B → Toks} {H1 Hc : Hp} {x : Except Fault A} {f : A → Except Fault B} {k : B → Hp → Prop} {k' : A → Hp → Prop} (h : Outc K r tl rd E lb H1 (x.bind f) k) (bb : But r H1 Hc)
    (c : ∀ a H', x = .ok a → But r Hc H' → RdAt K H' r tl rd (la a) → Outc K r tl rd E lb H1 (f a) k → k' a H') : Outc K r tl rd E la Hc x k' := by
  cases x with
  | error e => exact FallsR.but (K := K) h bb
  | ok a => exact fun H' b' hR => c a H' rfl b' hR h
/-! ### what stays -/
theorem keeps_dict {H : Hp} {d : Addr} {kvs kvs' : List (Key × V)} (hd : H d = some (.dK kvs)) : Keeps K H (upd H d (.dK kvs')) := by
  refine ⟨fun a C fs hi _ _ _ => ?_, fun a xs ha => ?_, fun a xs ha => ?_, fun a xs ha => ?_⟩
  · obtain ⟨e, hi⟩ := hi
    refine ⟨e, ?_⟩
    rw [upd_ne fun z => by rw [z, hd] at hi; cases hi]
    exact hi
  · rw [upd_ne fun z => by rw [z, hd] at ha; cases ha]
    exact ha
  · rcases ha with (ha | ⟨o, ha⟩) | ha
    · refine .inl (.inl ?_)
      rw [upd_ne fun z => by rw [z, hd] at ha; cases ha]
      exact ha
    · refine .inl (.inr ⟨o, ?_⟩)
      rw [upd_ne fun z => by rw [z, hd] at ha; cases ha]
      exact ha
    · exact .inr ha
  · rw [upd_ne fun z => by rw [z, hd] at ha; cases ha]
    exact ha
theorem RdAt.put {H : Hp} {r tl rd l0 : Addr} {l : Toks} {xs : List V} {o : HO} (h : RdAt K H r tl rd l) (h0 : H l0 = some (.lst xs)) (n : tl ≠ l0) : RdAt K (upd H l0 o) r tl rd l := by
  obtain ⟨dx, as, ts, i, h1, h2, h3, h4, h5, h6⟩ := h
  refine ⟨dx, as, ts, i, ?_, ?_, paired_mono (fun a t z => ?_) h3, h4, h5, h6⟩
  · rw [upd_ne fun z => by rw [z, h0] at h1; cases h1]
    exact h1
  · rw [upd_ne n]
    exact h2
  · obtain ⟨d, z⟩ := z
    refine ⟨d, ?_⟩
    rw [upd_ne fun e => by rw [e, h0] at z; cases z]
    exact z
theorem RdAt.dict {H : Hp} {r tl rd d : Addr} {l : Toks} {kvs kvs' : List (Key × V)} (h : RdAt K H r tl rd l) (hd : H d = some (.dK kvs)) : RdAt K (upd H d (.dK kvs')) r tl rd l := by
  obtain ⟨dx, as, ts, i, h1, h2, h3, h4, h5, h6⟩ := h
  refine ⟨dx, as, ts, i, ?_, ?_, paired_mono (fun a t z => ?_) h3, h4, h5, h6⟩
  · rw [upd_ne fun z => by rw [z, hd] at h1; cases h1]
    exact h1
  · rw [upd_ne fun z => by rw [z, hd] at h2; cases h2]
    exact h2
  · obtain ⟨e, z⟩ := z
    refine ⟨e, ?_⟩
    rw [upd_ne fun q => by rw [q, hd] at z; cases z]
    exact z
/-- names told so far -/
def namesK (as : List (ValayBase.PName × Nat × Ty)) : List (Key × V) := as.map fun p => (Sum.inr (strB p.1.name), V.bl true)
theorem names_any (as : List (ValayBase.PName × Nat × Ty)) (b : ValayBase.Bytes) : (as.any fun a => a.1.name == b) = (valV (namesK as) (Sum.inr (strB b))).isSome := by
  induction as with
  | nil => rfl
  | cons a as ih =>
    rw [List.any_cons, ih]
    unfold namesK valV
    rw [List.map_cons]
    by_cases c : a.1.name = b
    · rw [List.find?_cons_of_pos (by simp [c]), beq_iff_eq.mpr c]
      rfl
    · rw [List.find?_cons_of_neg (by
        simp only [decide_eq_true_eq, Sum.inr.injEq]
        exact fun e => c (strB_inj e)), show (a.1.name == b) = false by simpa using c, Bool.false_or]
theorem names_put (as : List (ValayBase.PName × Nat × Ty)) (x : ValayBase.PName) (h : Nat) (t : Ty) (hn : valV (namesK as) (Sum.inr (strB x.name)) = none) : putK (namesK as) (Sum.inr (strB x.name)) (.bl true) = namesK (as ++ [(x, h, t)]) := by
  rw [putK_new _ hn]
  unfold namesK
  rw [List.map_append]
  rfl
/-! ### what a field or a part of it may hold -/
def spShape (K : PySem.W.Frag) (n : Nat) : Sp := fun vs H Q E => ∃ (r tl rd : Addr) (l : Toks) (kvs : List (Key × V)) (rs : List Rec) (m : Nat) (X : List Addr), vs = [.ref r, .int (7 - (n : Int))] ∧ n ≤ 6 ∧ RdAt K H r tl rd l ∧ H rd = some (.dK kvs) ∧ Lsts H X ∧ RecsAt K (hide X H) kvs rs ∧ RsOk m rs ∧ Good l ∧
  Outc K r tl rd E (fun b : Ty × Toks => b.2) H (Valaya.takeTy rs n l) (fun b H' => ∀ a, Lays K (hide X H') b.1 false [a] → Q (.ref a) H')
def oneTy (rs : List Rec) (n : Nat) (l : Toks) : Except Fault (Ty × Toks) := (ValayBase.takeSign 123 l).bind fun l => Valaya.takeAlts (Valaya.takeTy rs n) (l.length + 1) [] l
def spOne (K : PySem.W.Frag) (n : Nat) : Sp := fun vs H Q E => ∃ (r tl rd : Addr) (l : Toks) (kvs : List (Key × V)) (rs : List Rec) (m : Nat) (X : List Addr), vs = [.ref r, .int (6 - (n : Int))] ∧ n ≤ 5 ∧ RdAt K H r tl rd l ∧ H rd = some (.dK kvs) ∧ Lsts H X ∧ RecsAt K (hide X H) kvs rs ∧ RsOk m rs ∧ Good l ∧
  Outc K r tl rd E (fun b : Ty × Toks => b.2) H (oneTy rs n l) (fun b H' => ∀ a, Lays K (hide X H') b.1 false [a] → Q (.ref a) H')
def muOne : L2.St → Hp → Nat := fun σ H => match σ with
  | [_, _, some (.ref al), _, _] => (match H al with
    | some (.lst xs) => 5 - xs.length
    | _ => 0)
  | _ => 0
theorem ok_read_one (T : Txt K mg) (n : Nat) {lv : Nat} (hlv : 4 ≤ lv) (G_read_shape : FnAt P w K mg base (L2.CX P w) lv "read_shape" ["reader", "depth"] (spShape K n)) : FnAt P w K mg base (L2.CX P w) (lv + 1) "read_one" ["reader", "depth"] (spOne K n) := by
  have G_Fault := ok_Fault (P := P) (w := w) (base := base) T
  have G_Reader_head := ok_Reader_head (P := P) (w := w) (base := base) T
  have G_Reader_take := ok_Reader_take (P := P) (w := w) (base := base) T
  have G_Reader_takes := ok_Reader_takes (P := P) (w := w) (base := base) T
  have G_Reader_take_new_name := ok_Reader_take_new_name (P := P) (w := w) (base := base) T
  have G_Alternative := ok_Alternative (P := P) (w := w) (base := base) T
  have G_One := ok_One (P := P) (w := w) (base := base) T
  refine T.d_read_one.okX sc_read_one (fun vs H Q E h => by obtain ⟨r, tl, rd, l, kvs, rs, m, X, rfl, _⟩ := h; rfl) fun f cdv A outer s H vs Q E hr h tk => ?_
  obtain ⟨r, tl, rd, l, kvs, rs, m, X, rfl, hn5, hR, hd, hX, hS, hOk, hG, h⟩ := h
  have hu := hu_of hr
  have hdr := hR.ne hd (fun _ _ _ z => by cases z)
  obtain ⟨otl, hotl, htlr⟩ : ∃ o, H tl = some o ∧ tl ≠ r := by
    obtain ⟨dx, as, ts, i, h1, h2, _⟩ := hR
    exact ⟨_, h2, fun e => by rw [e, h1] at h2; cases h2⟩
  obtain ⟨dx, i, h1⟩ := hR.ins
  refine ⟨_, (pss_cons (ps_expr (pe_meX (pv 0) G_Reader_take hr (by first | decide | omega) tk (pa_cons pe_str pa_nil)))
  (pss_cons (ps_set (i := 2) sc_read_one.nd rfl (Or.inl rfl) (pe_lst pa_nil))
  (pss_cons (ps_set (i := 3) sc_read_one.nd rfl (Or.inl rfl) pe_dnewK)
  (pss_one (ps_while (passes_of rfl) (pt_val pe_bl) (pss_cons (ps_if (pt_cmpR op_eq (pe_callB call_len_seq (by rfl) T.f_len PySem.boot_len (pa_cons (pv 2) pa_nil)) (pe_num T.n_MOST_ALTERNATIVES) (nomark _)) (pss_one (ps_raise rfl tk (pmk_rz G_Fault hr (by first | decide | omega) (pa_cons (pe_num T.n_TOO_MANY) (pa_cons (pe_fl T.c_Token T.na_Token_place (pe_me0 (pv 0) G_Reader_head hr (by first | decide | omega))) pa_nil))))) pss_nil)
  (pss_cons (ps_set (i := 4) sc_read_one.nd rfl (Or.inl rfl) (pe_meX (pv 0) G_Reader_take_new_name hr (by first | decide | omega) tk (pa_cons (pv 3) pa_nil)))
  (pss_cons (ps_dput hu (pv 3) (pv 4) pe_bl rfl)
  (pss_cons (ps_expr (pe_meX (pv 0) G_Reader_take hr (by first | decide | omega) tk (pa_cons pe_str pa_nil)))
  (pss_cons (ps_expr (pe_bm PySem.F.plainAttrs_list PySem.F.slot_list_append PySem.F.type_list_append mt_append (pv 2) (pa_cons (pe_mk G_Alternative hr (by first | decide | omega) (pa_cons (pv 4) (pa_cons (pe_fnX G_read_shape hr (by first | decide | omega) tk (pa_cons (pv 0) (pa_cons (pe_op op_add (pv 1) pe_int) pa_nil))) pa_nil))) pa_nil)))
  (pss_cons (ps_if (PW.pt (pw_and (pt_cmpR op_gt (pe_callB call_len_seq (by rfl) T.f_len PySem.boot_len (pa_cons (pv 2) pa_nil)) pe_int (nomark _)) (pw_and1 (pt_val (pe_me (pv 0) G_Reader_takes hr (by first | decide | omega) (pa_cons pe_str pa_nil)))))) (pss_one (ps_ret (pe_mk G_One hr (by first | decide | omega) (pa_cons (pv 2) pa_nil)))) pss_nil)
  (pss_one (ps_expr (pe_meX (pv 0) G_Reader_take hr (by first | decide | omega) tk (pa_cons pe_str pa_nil))))))))))))))), ?_⟩
  refine ⟨_, rfl, r, dx, _, rfl, h1, rdm (by decide) (by decide) (by decide), arg1 (ask_take ks_open rfl hR (Outc.call h (But.refl _ _) fun l1 H1 e1 b1 hR1 k1 _ => ?_))⟩
  obtain ⟨hG1, _⟩ := taken_ok e1 hG
  -- alternatives = [], names = {}
  refine ⟨by decide, fun al nal => fun nm nnm => ?_⟩
  have s2 : Same H1 (upd H1 al (.lst [])) := same_upd nal
  have s3 : Same (upd H1 al (.lst [])) (upd (upd H1 al (.lst [])) nm (.dK [])) := same_upd nnm
  have halnm : al ≠ nm := fun z => by rw [← z, upd_same] at nnm; cases nnm
  have hal3 : (upd (upd H1 al (.lst [])) nm (.dK [])) al = some (.lst []) := by rw [upd_ne halnm, upd_same]
  have hnm3 : (upd (upd H1 al (.lst [])) nm (.dK [])) nm = some (.dK []) := upd_same
  have s13 := s2.trans s3
  have newr : ∀ {b : Addr} {o : HO}, H b = some o → b ≠ r → b ≠ al ∧ b ≠ nm := fun {b o} hb hbr => by
    have e1 := b1 _ _ hb hbr
    refine ⟨fun z => ?_, fun z => ?_⟩
    · rw [z, nal] at e1
      cases e1
    · have e2 := s2 _ _ e1
      rw [z, nnm] at e2
      cases e2
  have ralnm : r ≠ al ∧ r ≠ nm := by
    obtain ⟨d1, i1, e1⟩ := hR1.ins
    refine ⟨fun z => ?_, fun z => ?_⟩
    · rw [z, nal] at e1
      cases e1
    · have e2 := s2 _ _ e1
      rw [z, nnm] at e2
      cases e2
  have hb1 := b1.trans (same_but s13)
  have hXl : ∀ {Hz : Hp} {xs : List V}, But r H Hz → Hz al = some (.lst xs) → Lsts Hz (al :: X) := fun {Hz xs} bz hz x m => by
    rcases List.mem_cons.mp m with rfl | m
    · exact ⟨_, hz⟩
    · exact hX.but hR bz x m
  have alX : al ∉ X := hX.but hR b1 |>.out nal
  have nmX : ∀ {Hz : Hp} {o}, But r H Hz → Hz nm = some (.dK o) → nm ∉ al :: X := fun {Hz o} bz hz m => by
    rcases List.mem_cons.mp m with e | m
    · exact halnm e.symm
    · obtain ⟨xs, e⟩ := hX.but hR bz nm m
      rw [hz] at e
      cases e
  have recl : ∀ {Hz : Hp}, But r H Hz → RecsAt K (hide (al :: X) Hz) kvs rs := fun {Hz} bz => by
    refine RecsAt.keeps (keeps_rd (r := r) (tl := tl) (rd := rd) (by rw [hide_out (hX.ins h1)]; exact h1) fun a o ha na => ?_) hS
    obtain ⟨ha, nx⟩ := hide_some ha
    rw [hide_out fun z => by
      rcases List.mem_cons.mp z with z | z
      · exact (newr ha na).1 z
      · exact nx z]
    exact bz _ _ ha na
  refine while_go (fun σ H' => ∃ (v : Option V) (as : List (ValayBase.PName × Nat × Ty)) (bs : List Addr) (l' : Toks) (fu : Nat), σ = [some (.ref r), some (.int (6 - (n : Int))), some (.ref al), some (.ref nm), v] ∧ But r H H' ∧ H' al = some (.lst (bs.map V.ref)) ∧ H' nm = some (.dK (namesK as)) ∧
    Paired (fun (b : Addr) (q : ValayBase.PName × Nat × Ty) => ItemAt K (hide (al :: X) H') false b q) bs as ∧ RdAt K H' r tl rd l' ∧ Good l' ∧ l'.length < fu ∧ as.length ≤ 4 ∧ Outc K r tl rd E (fun b : Ty × Toks => b.2) H (Valaya.takeAlts (Valaya.takeTy rs n) fu as l') (fun b H' => ∀ a, Lays K (hide X H') b.1 false [a] → Q (.ref a) H')) muOne
    ⟨none, [], [], l1, l1.length + 1, rfl, hb1, hal3, hnm3, .nil, hR1.same s13, hG1, by omega, by decide, k1⟩ ?_
  rintro σ H' ⟨v, as, bs, l', fu, rfl, bb, hal, hnm, hP, hR', hG', hfu, h4, k⟩
  refine ⟨true, rfl, if_t rfl (turn_on ?_)⟩
  obtain ⟨dx', i', h1'⟩ := hR'.ins
  have blen : bs.length = as.length := paired_len hP
  obtain ⟨fu, rfl⟩ : ∃ g, fu = g + 1 := ⟨fu - 1, by omega⟩
  rw [Valaya.takeAlts] at k
  refine ⟨_, rfl, al, _, rfl, .inl (SqL.of hal), rfl, _, rfl, ?_⟩
  rw [List.length_map, blen]
  obtain ⟨t0, lt0, elt⟩ := hR'.cons
  by_cases c4 : as.length = 4
  · refine if_t (by rw [c4]; rfl) ?_
    rw [if_pos (by unfold Valaya.ALTS; omega)] at k
    rw [elt] at hR' k
    refine ⟨_, rfl, r, dx', _, rfl, h1', rfl, r, tl, rd, t0, lt0, rfl, hR', fun a ha => ?_⟩
    obtain ⟨da, hai⟩ := ha
    exact ⟨a, da, _, _, rfl, hai, rfl, rfl, by decide, faultR_at k bb rfl rfl⟩
  · refine if_f (decide_eq_false fun z => c4 (by have := V.int.inj z; omega)) ?_
    rw [if_neg (by unfold Valaya.ALTS; omega)] at k
    -- name = reader.take_new_name(names)
    refine ⟨_, rfl, r, dx', _, rfl, h1', rdm (by decide) (by decide) (by decide), argS rfl ⟨r, tl, rd, nm, _, l', rfl, hnm, hR', fun f ef => ?_, fun x l2 ex => ⟨fun hnone H2 b2 hR2 => ?_, fun hsome => ?_⟩⟩⟩
    · rw [ef] at k
      exact FallsR.but (K := K) k bb
    · rw [ex] at k
      have k : Outc K r tl rd E (fun b : Ty × Toks => b.2) H (if (as.any fun a => a.1.name == x.name) = true then _ else _) _ := k
      rw [names_any, hnone, if_neg (by decide)] at k
      obtain ⟨nx, hG2, hl2⟩ := takeName_ok ex hG'
      -- names[name] = True
      have hal2 := b2 _ _ hal ralnm.1.symm
      have hnm2 := b2 _ _ hnm ralnm.2.symm
      have bb2 := bb.trans b2
      refine ⟨_, rfl, _, rfl, nm, _, rfl, DPut.k (k := Sum.inr (strB x.name)) hnm2 ?_, ?_⟩
      · unfold namesK
        rw [List.length_map, sizeLine_eq]
        omega
      have hR3 := RdAt.dict (kvs' := putK (namesK as) (Sum.inr (strB x.name)) (.bl true)) hR2 hnm2
      have kd : Keeps K (hide (al :: X) H2) (hide (al :: X) (upd H2 nm (.dK (putK (namesK as) (Sum.inr (strB x.name)) (.bl true))))) := by
        rw [hide_upd' (nmX bb2 hnm2)]
        exact keeps_dict (by rw [hide_out (nmX bb2 hnm2)]; exact hnm2)
      have hal3' : (upd H2 nm (.dK (putK (namesK as) (Sum.inr (strB x.name)) (.bl true)))) al = some (.lst (bs.map V.ref)) := by rw [upd_ne halnm]; exact hal2
      have hnm3' : (upd H2 nm (.dK (putK (namesK as) (Sum.inr (strB x.name)) (.bl true)))) nm = some (.dK (putK (namesK as) (Sum.inr (strB x.name)) (.bl true))) := upd_same
      have bb3 : But r H (upd H2 nm (.dK (putK (namesK as) (Sum.inr (strB x.name)) (.bl true)))) := fun b o hb hbr => by
        rw [upd_ne (newr hb hbr).2]
        exact bb2 _ _ hb hbr
      have hP2 := paired_mono (fun _ _ z => ItemAt.keeps (keeps_hide hR' (hXl bb hal) b2) z) hP
      have hP3 := paired_mono (fun _ _ z => ItemAt.keeps (f := false) kd z) hP2
      generalize upd H2 nm (.dK (putK (namesK as) (Sum.inr (strB x.name)) (.bl true))) = H4 at *
      obtain ⟨dx4, i4, h14⟩ := hR3.ins
      -- reader.take(':')
      refine ⟨_, rfl, r, dx4, _, rfl, h14, rdm (by decide) (by decide) (by decide), arg1 (ask_take ks_colon rfl hR3 (Outc.call k bb3 fun l5 H5 e5 b5 hR5 k5 _ => ?_))⟩
      obtain ⟨hG5, hl5⟩ := taken_ok e5 hG2
      have hal5 := b5 _ _ hal3' ralnm.1.symm
      have hnm5 := b5 _ _ hnm3' ralnm.2.symm
      have bb5 := bb3.trans b5
      have hP5 := paired_mono (fun _ _ z => ItemAt.keeps (keeps_hide hR3 (hXl bb3 hal3') b5) z) hP3
      obtain ⟨dx5, i5, h15⟩ := hR5.ins
      have hd5 := bb5 _ _ hd hdr
      -- alternatives.append(Alternative(name, read_shape(reader, depth + 1)))
      refine ⟨_, rfl, .inl ⟨rfl, _, SqL.of hal5⟩, _, rfl, _, rfl, _, rfl, _, _, rfl, rfl, r, tl, rd, l5, kvs, rs, m, al :: X, ?_, by omega, hR5, hd5, hXl bb5 hal5, recl bb5, hOk, hG5, Outc.call k5 bb5 fun ty H6 e6 b6 hR6 k6 => ?_⟩
      · show [V.ref r, V.int (6 - (n : Int) + 1)] = _
        rw [show (6 - (n : Int) + 1) = 7 - (n : Int) by omega]
      obtain ⟨ok6, hG6, hl6⟩ := takeTy_ok hOk n l5 ty.1 ty.2 hG5 e6
      intro sh hsh
      intro p dp np nd ne
      refine made rfl np nd ne fun H7 s7 h7 => ?_
      have hal6 := b6 _ _ hal5 ralnm.1.symm
      have hnm6 := b6 _ _ hnm5 ralnm.2.symm
      have hal7 := s7 _ _ hal6
      have hnm7 := s7 _ _ hnm6
      have bb7 := (bb5.trans b6).trans (same_but s7)
      have hR7 := hR6.same s7
      refine ⟨al, _, _, rfl, rfl, hal7, ?_, ?_⟩
      · rw [List.length_map, blen, sizeLine_eq]
        omega
      have hnp : p ≠ al := fun z => by
        rw [z, hal6] at np
        cases np
      have hR8 := RdAt.put (o := .lst (bs.map V.ref ++ [V.ref p])) hR7 hal7 (newr hotl htlr).1
      have pX : p ∉ al :: X := (hXl (bb5.trans b6) hal6).out np
      have hP8 : Paired (fun (b : Addr) (q : ValayBase.PName × Nat × Ty) => ItemAt K (hide (al :: X) H7) false b q) (bs ++ [p]) (as ++ [(x, 1, ty.1)]) :=
        paired_append (paired_mono (fun _ _ z => ItemAt.keeps (same_keeps (same_hide s7)) (ItemAt.keeps (keeps_hide hR5 (hXl bb5 hal5) b6) z)) hP5) (.cons ⟨sh, ins_hide h7 pX, Lays.keeps (same_keeps (same_hide s7)) _ _ _ hsh⟩ .nil)
      rw [← hide_upd (o := .lst (bs.map V.ref ++ [V.ref p])) (List.mem_cons_self (l := X))] at hP8
      have hal8 : (upd H7 al (.lst (bs.map V.ref ++ [V.ref p]))) al = some (.lst ((bs ++ [p]).map V.ref)) := by rw [upd_same, List.map_append]; rfl
      have hnm8 : (upd H7 al (.lst (bs.map V.ref ++ [V.ref p]))) nm = some (.dK (namesK (as ++ [(x, 1, ty.1)]))) := by rw [upd_ne halnm.symm, hnm7, names_put _ _ _ _ hnone]
      have bb8 : But r H (upd H7 al (.lst (bs.map V.ref ++ [V.ref p]))) := fun b o hb hbr => by
        rw [upd_ne (newr hb hbr).1]
        exact bb7 _ _ hb hbr
      generalize upd H7 al (.lst (bs.map V.ref ++ [V.ref p])) = H8 at *
      have mu0 : muOne [some (V.ref r), some (.int (6 - (n : Int))), some (.ref al), some (.ref nm), v] H' = 5 - as.length := by
        show (match H' al with
          | some (.lst xs) => 5 - xs.length
          | _ => 0) = _
        rw [hal]
        show 5 - (bs.map V.ref).length = _
        rw [List.length_map, blen]
      clear hP hP2 hP3 hP5 hal hal2 hal3' hal5 hal6 hal7 hnm hnm2 hnm3' hnm5 hnm6 hnm7
      have k6 : Outc K r tl rd E (fun b : Ty × Toks => b.2) H (if ValayBase.next (.sign 44) ty.2 = true then Valaya.takeAlts (Valaya.takeTy rs n) fu (as ++ [(x, 1, ty.1)]) (ty.2.drop 1)
        else if (as ++ [(x, 1, ty.1)]).length < 2 then ValayBase.wrong ty.2 else (ValayBase.takeSign 125 ty.2).map fun m => (.one_ (Valaya.rowOf (as ++ [(x, 1, ty.1)])), m)) (fun b H' => ∀ a, Lays K (hide X H') b.1 false [a] → Q (.ref a) H') := k6
      obtain ⟨t9, lt9, el9⟩ := hR8.cons
      obtain ⟨dx8, i8, h18⟩ := hR8.ins
      -- reader.take(',')
      have comma : ∀ {Qv : VK}, ((as ++ [(x, 1, ty.1)]).length < 2 ∨ ValayBase.next (.sign 125) ty.2 = false) → (∀ v H9, ValayBase.next (.sign 44) ty.2 = true → But r H8 H9 → RdAt K H9 r tl rd (ty.2.drop 1) → Qv v H9) → spTake K [.ref r, .str ","] H8 Qv E := fun {Qv} c9 q9 => by
        refine ask_take ks_comma rfl hR8 ?_
        by_cases c44 : ValayBase.next (.sign 44) ty.2 = true
        · rw [show ValayBase.taken (.sign 44) ty.2 = .ok (ty.2.drop 1) from if_pos c44]
          exact fun H9 b9 hR9 a => q9 _ H9 c44 b9 hR9
        · rw [show ValayBase.taken (.sign 44) ty.2 = ValayBase.wrong ty.2 from if_neg c44]
          rw [if_neg c44] at k6
          have k6 : Outc K r tl rd E (fun b : Ty × Toks => b.2) H (ValayBase.wrong ty.2) (fun b H' => ∀ a, Lays K (hide X H') b.1 false [a] → Q (.ref a) H') := by
            rcases c9 with c9 | c9
            · rw [if_pos c9] at k6
              exact k6
            · by_cases c2 : (as ++ [(x, 1, ty.1)]).length < 2
              · rw [if_pos c2] at k6
                exact k6
              · rw [if_neg c2, show ValayBase.takeSign 125 ty.2 = ValayBase.wrong ty.2 from if_neg (by rw [c9]; decide)] at k6
                exact k6
          exact FallsR.but (K := K) k6 bb8
      have goOn : ∀ (_ : V) (H9 : Hp), ValayBase.next (.sign 44) ty.2 = true → But r H8 H9 → RdAt K H9 r tl rd (ty.2.drop 1) → _ := fun _ H9 c44 b9 hR9 => And.intro (show ∃ (v : Option V) (as : List (ValayBase.PName × Nat × Ty)) (bs : List Addr) (l' : Toks) (fu : Nat), [some (V.ref r), some (.int (6 - (n : Int))), some (.ref al), some (.ref nm), some (.str (strB x.name))] = [some (.ref r), some (.int (6 - (n : Int))), some (.ref al), some (.ref nm), v] ∧ But r H H9 ∧ H9 al = some (.lst (bs.map V.ref)) ∧ H9 nm = some (.dK (namesK as)) ∧
    Paired (fun (b : Addr) (q : ValayBase.PName × Nat × Ty) => ItemAt K (hide (al :: X) H9) false b q) bs as ∧ RdAt K H9 r tl rd l' ∧ Good l' ∧ l'.length < fu ∧ as.length ≤ 4 ∧ Outc K r tl rd E (fun b : Ty × Toks => b.2) H (Valaya.takeAlts (Valaya.takeTy rs n) fu as l') (fun b H' => ∀ a, Lays K (hide X H') b.1 false [a] → Q (.ref a) H') by
        rw [if_pos c44] at k6
        refine ⟨_, _, _, _, _, rfl, bb8.trans b9, b9 _ _ hal8 ralnm.1.symm, b9 _ _ hnm8 ralnm.2.symm, paired_mono (fun _ _ z => ItemAt.keeps (keeps_hide hR8 (hXl bb8 hal8) b9) z) hP8, hR9, hG6.drop 1, ?_, ?_, k6⟩
        · rw [List.length_drop]
          omega
        · rw [List.length_append, List.length_singleton]
          omega) (show muOne [some (V.ref r), some (.int (6 - (n : Int))), some (.ref al), some (.ref nm), some (.str (strB x.name))] H9 < muOne [some (V.ref r), some (.int (6 - (n : Int))), some (.ref al), some (.ref nm), v] H' by
            rw [mu0]
            show (match H9 al with
              | some (.lst xs) => 5 - xs.length
              | _ => 0) < _
            rw [b9 _ _ hal8 ralnm.1.symm]
            show 5 - ((bs ++ [p]).map V.ref).length < _
            rw [List.length_map, List.length_append, List.length_singleton]
            omega)
      refine ⟨_, rfl, al, _, rfl, .inl (SqL.of hal8), _, _, rfl, rfl, _, rfl, ?_⟩
      rw [List.length_map, List.length_append, blen, List.length_singleton]
      by_cases c1 : 1 < as.length + 1
      · refine if_t (decide_eq_true (by omega)) ⟨_, rfl, r, dx8, _, rfl, h18, rdm (by decide) (by decide) (by decide), arg1 (ask_takes ks_close rfl hR8 (fun en H9 b9 hR9 => ?_) (fun en => ?_))⟩
        · refine ⟨true, rfl, if_t rfl ?_⟩
          rw [if_neg (by
            rw [el9] at en ⊢
            obtain ⟨q9, tk9⟩ := t9
            cases tk9 <;> simp [ValayBase.next, ValayBase.tokEq] at en ⊢
            omega), if_neg (by rw [List.length_append, List.length_singleton]; omega), show ValayBase.takeSign 125 ty.2 = .ok (ty.2.drop 1) from if_pos en] at k6
          refine ⟨_, rfl, fun z dz nz ndz nez => made rfl nz ndz nez fun H10 s10 h10 => ?_⟩
          have bb9 := bb8.trans b9
          have hX9 := hXl bb9 (b9 _ _ hal8 ralnm.1.symm)
          refine k6 H10 (bb9.trans (same_but s10)) (hR9.same s10) z ⟨z, al, bs ++ [p], rfl, ins_hide h10 fun m => hX9.out nz (List.mem_cons_of_mem _ m), ?_, row_lays ?_⟩
          · rw [hide_out alX]
            exact s10 _ _ (b9 _ _ hal8 ralnm.1.symm)
          · exact paired_mono (fun _ _ z => ItemAt.keeps (same_keeps ((same_hide s10).trans hide_same)) (ItemAt.keeps (keeps_hide hR8 (hXl bb8 hal8) b9) z)) hP8
        · refine ⟨false, rfl, if_f rfl ⟨_, rfl, r, dx8, _, rfl, h18, rdm (by decide) (by decide) (by decide), arg1 (comma (.inr en) goOn)⟩⟩
      · refine if_f (decide_eq_false (by omega)) ⟨_, rfl, r, dx8, _, rfl, h18, rdm (by decide) (by decide) (by decide), arg1 (comma (.inl (by rw [List.length_append, List.length_singleton]; omega)) goOn)⟩
    · rw [ex] at k
      have k : Outc K r tl rd E (fun b : Ty × Toks => b.2) H (if (as.any fun a => a.1.name == x.name) = true then .error ⟨5, x.place⟩ else _) _ := k
      have z : (valV (namesK as) (Sum.inr (strB x.name))).isSome = true := by
        cases e : valV (namesK as) (Sum.inr (strB x.name)) with
        | none => exact absurd e hsome
        | some _ => rfl
      rw [names_any, z, if_pos rfl] at k
      exact FallsR.but (K := K) k bb
end
end Lv
set_option Elab.async false
set_option linter.all false
set_option maxRecDepth 100000
set_option maxHeartbeats 4000000
namespace Lv
open PySem PySem.Spec PyProof.Rows L2 TL
open ValayBase (PTok Toks Fault)
open Valaya (Ty Rec)
section
variable {P : Program} {w : World} {K : PySem.W.Frag} {mg : Str → Option Value} {base : Heap}
def lvS : Nat → Nat
  | 0 => 6
  | n + 1 => lvS n + 2
theorem lvS_eq (n : Nat) : lvS n = 2 * n + 6 := by
  induction n with
  | zero => rfl
  | succ n ih => rw [lvS, ih]; omega
theorem ok_shape0 (T : Txt K mg) : FnAt P w K mg base (L2.CX P w) (lvS 0) "read_shape" ["reader", "depth"] (spShape K 0) := by
  have G_Fault := ok_Fault (P := P) (w := w) (base := base) T
  have G_Reader_head := ok_Reader_head (P := P) (w := w) (base := base) T
  refine T.d_read_shape.okX sc_read_shape (fun vs H Q E h => by obtain ⟨r, tl, rd, l, kvs, rs, m, X, rfl, _⟩ := h; rfl) fun f cdv A outer s H vs Q E hr h tk => ?_
  obtain ⟨r, tl, rd, l, kvs, rs, m, X, rfl, hn, hR, hd, hX, hS, hOk, hG, h⟩ := h
  obtain ⟨dx, i, h1⟩ := hR.ins
  obtain ⟨t0, lt0, rfl⟩ := hR.cons
  refine ⟨_, pss_cons (ps_if (pt_cmpR op_gt (pv 1) (pe_num T.n_DEEPEST) (nomark _)) (pss_one (ps_raise rfl tk (pmk_rz G_Fault hr (by first | decide | omega) (pa_cons (pe_num T.n_TOO_MANY) (pa_cons (pe_fl T.c_Token T.na_Token_place (pe_me0 (pv 0) G_Reader_head hr (by first | decide | omega))) pa_nil))))) pss_nil) pss_never, ?_⟩
  refine ⟨_, rfl, _, _, rfl, rfl, _, rfl, if_t rfl ⟨_, rfl, r, dx, _, rfl, h1, rfl, r, tl, rd, t0, lt0, rfl, hR, fun a ha => ?_⟩⟩
  obtain ⟨da, hai⟩ := ha
  exact ⟨a, da, _, _, rfl, hai, rfl, rfl, by decide, faultR_at (K := K) h (But.refl _ _) rfl rfl⟩
theorem ok_shapeS (T : Txt K mg) (n : Nat) (G_read_shape : FnAt P w K mg base (L2.CX P w) (lvS n) "read_shape" ["reader", "depth"] (spShape K n)) : FnAt P w K mg base (L2.CX P w) (lvS (n + 1)) "read_shape" ["reader", "depth"] (spShape K (n + 1)) := by
  have hlv := lvS_eq n
  have G_Fault := ok_Fault (P := P) (w := w) (base := base) T
  have G_Reader_head := ok_Reader_head (P := P) (w := w) (base := base) T
  have G_Reader_takes := ok_Reader_takes (P := P) (w := w) (base := base) T
  have G_Reader_take_number := ok_Reader_take_number (P := P) (w := w) (base := base) T
  have G_read_number := ok_read_number (P := P) (w := w) (base := base) T
  have G_read_named := ok_read_named (P := P) (w := w) (base := base) T
  have G_Maybe := ok_Maybe (P := P) (w := w) (base := base) T
  have G_Many := ok_Many (P := P) (w := w) (base := base) T
  have G_read_one := ok_read_one (P := P) (w := w) (base := base) T n (lv := lvS n) (by omega) G_read_shape
  show FnAt P w K mg base (L2.CX P w) (lvS n + 1 + 1) "read_shape" ["reader", "depth"] (spShape K (n + 1))
  refine T.d_read_shape.okX sc_read_shape (fun vs H Q E h => by obtain ⟨r, tl, rd, l, kvs, rs, m, X, rfl, _⟩ := h; rfl) fun f cdv A outer s H vs Q E hr h tk => ?_
  obtain ⟨r, tl, rd, l, kvs, rs, m, X, rfl, hn, hR, hd, hX, hS, hOk, hG, h⟩ := h
  have hdr := hR.ne hd (fun _ _ _ z => by cases z)
  obtain ⟨dx, i, h1⟩ := hR.ins
  rw [Valaya.takeTy] at h
  refine ⟨_, (pss_cons (ps_if (pt_cmpR op_gt (pv 1) (pe_num T.n_DEEPEST) (nomark _)) (pss_one (ps_raise rfl tk (pmk_rz G_Fault hr (by first | decide | omega) (pa_cons (pe_num T.n_TOO_MANY) (pa_cons (pe_fl T.c_Token T.na_Token_place (pe_me0 (pv 0) G_Reader_head hr (by first | decide | omega))) pa_nil))))) pss_nil)
  (pss_cons (ps_if (pt_val (pe_me (pv 0) G_Reader_takes hr (by first | decide | omega) (pa_cons pe_str pa_nil))) (pss_one (ps_ret (pe_fnX G_read_number hr (by first | decide | omega) tk (pa_cons (pv 0) pa_nil)))) pss_nil)
  (pss_cons (ps_if (pt_val (pe_me (pv 0) G_Reader_takes hr (by first | decide | omega) (pa_cons pe_str pa_nil))) (pss_one (ps_ret (pe_mk G_Maybe hr (by first | decide | omega) (pa_cons (pe_fnX G_read_shape hr (by first | decide | omega) tk (pa_cons (pv 0) (pa_cons (pe_op op_add (pv 1) pe_int) pa_nil))) pa_nil)))) pss_nil)
  (pss_cons (ps_if (pt_val (pe_me (pv 0) G_Reader_takes hr (by first | decide | omega) (pa_cons pe_str pa_nil))) (pss_cons (ps_set (i := 2) sc_read_shape.nd rfl (Or.inl rfl) (pe_fl T.c_Token T.na_Token_told (pe_meX (pv 0) G_Reader_take_number hr (by first | decide | omega) tk (pa_cons pe_int (pa_cons (pe_num T.n_MOST_TIMES) pa_nil)))))
  (pss_one (ps_ret (pe_mk G_Many hr (by first | decide | omega) (pa_cons (pv 2) (pa_cons (pe_fnX G_read_shape hr (by first | decide | omega) tk (pa_cons (pv 0) (pa_cons (pe_op op_add (pv 1) pe_int) pa_nil))) pa_nil)))))) pss_nil)
  (pss_cons (ps_if (pt_val (pe_me (pv 0) G_Reader_takes hr (by first | decide | omega) (pa_cons pe_str pa_nil))) (pss_one (ps_ret (pe_fnX G_read_one hr (by first | decide | omega) tk (pa_cons (pv 0) (pa_cons (pv 1) pa_nil))))) pss_nil)
  (pss_one (ps_ret (pe_fnX G_read_named hr (by first | decide | omega) tk (pa_cons (pv 0) pa_nil))))))))), ?_⟩
  refine ⟨_, rfl, _, _, rfl, rfl, _, rfl, if_f (decide_eq_false (by omega)) ?_⟩
  -- from
  refine ⟨_, rfl, r, dx, _, rfl, h1, rdm (by decide) (by decide) (by decide), arg1 (ask_takes kw_from rfl hR (fun en H1 b1 hR1 => ?_) (fun e1 => ?_))⟩
  · rw [if_pos (show ValayBase.nextWord "from" l = true from en)] at h
    exact ⟨true, rfl, if_t rfl ⟨_, rfl, r, tl, rd, _, X, rfl, hR1, hX.but hR b1, h.but b1⟩⟩
  rw [if_neg (show ¬ ValayBase.nextWord "from" l = true by rw [show ValayBase.nextWord "from" l = false from e1]; decide)] at h
  refine ⟨false, rfl, if_f rfl ?_⟩
  -- maybe
  refine ⟨_, rfl, r, dx, _, rfl, h1, rdm (by decide) (by decide) (by decide), arg1 (ask_takes kw_maybe rfl hR (fun en H1 b1 hR1 => ?_) (fun e2 => ?_))⟩
  · rw [if_pos (show ValayBase.nextWord "maybe" l = true from en)] at h
    have hX1 := hX.but hR b1
    refine ⟨true, rfl, if_t rfl ⟨_, rfl, _, rfl, _, _, rfl, rfl, r, tl, rd, _, kvs, rs, m, X, ?_, by omega, hR1, b1 _ _ hd hdr, hX1, RecsAt.keeps (keeps_hide hR hX b1) hS, hOk, hG.drop 1, ?_⟩⟩
    · show [V.ref r, V.int (7 - ((n + 1 : Nat) : Int) + 1)] = _
      rw [show (7 - ((n + 1 : Nat) : Int) + 1) = 7 - (n : Int) by omega]
    · refine Outc.on (Outc.map (la := fun b : Ty × Toks => b.2) (h.but b1) (fun _ => rfl)) fun ty H2 _ b2 hR2 k a ha p dp np nd ne => made rfl np nd ne fun H3 s3 h3 => ?_
      exact k H3 (same_but s3) (hR2.same s3) p ⟨p, a, rfl, ins_hide h3 ((hX1.but hR1 b2).out np), Lays.keeps (same_keeps (same_hide s3)) _ _ _ ha⟩
  rw [if_neg (show ¬ ValayBase.nextWord "maybe" l = true by rw [show ValayBase.nextWord "maybe" l = false from e2]; decide)] at h
  refine ⟨false, rfl, if_f rfl ?_⟩
  -- many
  refine ⟨_, rfl, r, dx, _, rfl, h1, rdm (by decide) (by decide) (by decide), arg1 (ask_takes kw_many rfl hR (fun en H1 b1 hR1 => ?_) (fun e3 => ?_))⟩
  · rw [if_pos (show ValayBase.nextWord "many" l = true from en)] at h
    have hX1 := hX.but hR b1
    obtain ⟨dx1, i1, h11⟩ := hR1.ins
    refine ⟨true, rfl, if_t rfl ⟨_, rfl, r, dx1, _, rfl, h11, rdm (by decide) (by decide) (by decide), arg2 (ask_number (lo := 1) (hi := 8) hR1 (Outc.imp (Outc.bind (la := fun b : Nat × Toks => b.2) (h.but b1)) fun c H2 ec b2 hR2 k a ha => ?_))⟩⟩
    obtain ⟨da, hai⟩ := ha
    have hX2 := hX1.but hR1 b2
    refine ⟨a, da, _, _, rfl, hai, rfl, _, rfl, _, rfl, _, rfl, _, _, rfl, rfl, r, tl, rd, c.2, kvs, rs, m, X, ?_, by omega, hR2, b2 _ _ (b1 _ _ hd hdr) hdr, hX2, RecsAt.keeps (keeps_hide hR hX (b1.trans b2)) hS, hOk, ?_, ?_⟩
    · show [V.ref r, V.int (7 - ((n + 1 : Nat) : Int) + 1)] = _
      rw [show (7 - ((n + 1 : Nat) : Int) + 1) = 7 - (n : Int) by omega]
    · exact (takeCount_ok ec (hG.drop 1)).2.2.1
    · refine Outc.on (Outc.map (la := fun b : Ty × Toks => b.2) k (fun _ => rfl)) fun ty H3 _ b3 hR3 k3 a ha p dp np nd ne => made rfl np nd ne fun H4 s4 h4 => ?_
      exact k3 H4 (same_but s4) (hR3.same s4) p ⟨p, a, rfl, ins_hide h4 ((hX2.but hR2 b3).out np), Lays.keeps (same_keeps (same_hide s4)) _ _ _ ha⟩
  rw [if_neg (show ¬ ValayBase.nextWord "many" l = true by rw [show ValayBase.nextWord "many" l = false from e3]; decide)] at h
  refine ⟨false, rfl, if_f rfl ?_⟩
  -- one
  refine ⟨_, rfl, r, dx, _, rfl, h1, rdm (by decide) (by decide) (by decide), arg1 (ask_takes kw_one rfl hR (fun en H1 b1 hR1 => ?_) (fun e4 => ?_))⟩
  · rw [if_pos (show ValayBase.nextWord "one" l = true from en)] at h
    refine ⟨true, rfl, if_t rfl ⟨_, rfl, _, rfl, r, tl, rd, _, kvs, rs, m, X, ?_, by omega, hR1, b1 _ _ hd hdr, hX.but hR b1, RecsAt.keeps (keeps_hide hR hX b1) hS, hOk, hG.drop 1, ?_⟩⟩
    · show [V.ref r, V.int (7 - ((n + 1 : Nat) : Int))] = _
      rw [show (7 - ((n + 1 : Nat) : Int)) = 6 - (n : Int) by omega]
    · exact Outc.but (K := K) h b1
  rw [if_neg (show ¬ ValayBase.nextWord "one" l = true by rw [show ValayBase.nextWord "one" l = false from e4]; decide)] at h
  refine ⟨false, rfl, if_f rfl ?_⟩
  exact ⟨_, rfl, r, tl, rd, l, kvs, rs, X, rfl, hR, hd, hX, hS, h⟩
theorem ok_read_shape (T : Txt K mg) : ∀ n, FnAt P w K mg base (L2.CX P w) (lvS n) "read_shape" ["reader", "depth"] (spShape K n)
  | 0 => ok_shape0 T
  | n + 1 => ok_shapeS T n (ok_read_shape T n)
end
end Lv
set_option Elab.async false
set_option linter.all false
set_option maxRecDepth 100000
set_option maxHeartbeats 4000000
namespace Lv
open PySem PySem.Spec PyProof.Rows L2 TL
open ValayBase (PTok Toks Fault PName)
open Valaya (Ty Rec)
theorem ebind_assoc {E A B C : Type} (x : Except E A) (f : A → Except E B) (g : B → Except E C) : (x.bind f).bind g = x.bind fun a => (f a).bind g := by
  cases x <;> rfl
theorem emap_bind {E A B C : Type} (x : Except E A) (f : A → B) (g : B → Except E C) : (x.map f).bind g = x.bind fun a => g (f a) := by
  cases x <;> rfl
/-- one field, to its ; -/
def fieldTk (rs : List Rec) (fs : List (PName × Nat × Ty)) (l : Toks) : Except Fault ((PName × Nat × Ty) × Toks) := (ValayBase.takeName l).bind fun x => if fs.any (fun f => f.1.name == x.1.name) = true then .error ⟨5, x.1.place⟩
  else (ValayBase.takeSign 58 x.2).bind fun m => (Valaya.takeTy rs Valaya.DEPTH m).bind fun t => (if ValayBase.nextWord "hot" t.2 = true then Valaya.takeCount 1 1000 (t.2.drop 1) else .ok (1, t.2)).bind fun k => (ValayBase.takeSign 59 k.2).map fun m => ((x.1, k.1, t.1), m)
theorem takeFields_eq (rs : List Rec) (n : Nat) (fs : List (PName × Nat × Ty)) (l : Toks) : Valaya.takeFields rs (n + 1) fs l = if ValayBase.next (.sign 125) l = true ∧ fs.isEmpty = false then .ok (.rec_ (Valaya.rowOf fs), l.drop 1) else (fieldTk rs fs l).bind fun p => Valaya.takeFields rs n (fs ++ [p.1]) p.2 := by
  rw [Valaya.takeFields]
  split
  · rfl
  · unfold fieldTk
    rw [ebind_assoc]
    refine congrArg _ (funext fun x => ?_)
    by_cases c : (fs.any fun f => f.1.name == x.1.name) = true
    · rw [if_pos c, if_pos c]
      rfl
    · rw [if_neg c, if_neg c, ebind_assoc]
      refine congrArg _ (funext fun m => ?_)
      rw [ebind_assoc]
      refine congrArg _ (funext fun t => ?_)
      rw [ebind_assoc]
      refine congrArg _ (funext fun k => ?_)
      rw [emap_bind]
theorem fieldTk_ok {m : Nat} {rs : List Rec} (hr : RsOk m rs) {fs : List (PName × Nat × Ty)} {l l' : Toks} {p : PName × Nat × Ty} (hg : Good l) (h : fieldTk rs fs l = .ok (p, l')) : Good l' ∧ l'.length < l.length ∧ (fs.any fun f => f.1.name == p.1.name) = false := by
  unfold fieldTk at h
  obtain ⟨x, hx, h⟩ := bind_ok h
  obtain ⟨nx, gx, lx⟩ := takeName_ok (x := x.1) (l' := x.2) hx hg
  split at h
  · cases h
  · rename_i hany
    obtain ⟨m1, hm1, h⟩ := bind_ok h
    obtain ⟨g1, l1⟩ := taken_ok hm1 gx
    obtain ⟨ty, hty, h⟩ := bind_ok h
    obtain ⟨ok, g2, l2⟩ := takeTy_ok hr Valaya.DEPTH _ ty.1 ty.2 g1 hty
    obtain ⟨k, hk, h⟩ := bind_ok h
    have hk' : Good k.2 ∧ k.2.length ≤ ty.2.length := by
      split at hk
      · obtain ⟨a, b, c, d⟩ := takeCount_ok (n := k.1) (l' := k.2) hk (g2.drop 1)
        refine ⟨c, ?_⟩
        have : (ty.2.drop 1).length ≤ ty.2.length := by simp
        omega
      · cases hk
        exact ⟨g2, Nat.le_refl _⟩
    obtain ⟨m2, hm2, h⟩ := map_ok h
    obtain ⟨g3, l3⟩ := taken_ok hm2 hk'.1
    cases h
    exact ⟨g3, by omega, by simpa using hany⟩
section
variable {P : Program} {w : World} {K : PySem.W.Frag} {mg : Str → Option Value} {base : Heap}
def spField (K : PySem.W.Frag) : Sp := fun vs H Q E => ∃ (r tl rd nm : Addr) (l : Toks) (kvs : List (Key × V)) (rs : List Rec) (m : Nat) (X : List Addr) (fs : List (PName × Nat × Ty)), vs = [.ref r, .ref nm] ∧ H nm = some (.dK (namesK fs)) ∧ RdAt K H r tl rd l ∧ H rd = some (.dK kvs) ∧ Lsts H X ∧ RecsAt K (hide X H) kvs rs ∧ RsOk m rs ∧ Good l ∧
  Outc K r tl rd E (fun b : (PName × Nat × Ty) × Toks => b.2) H (fieldTk rs fs l) (fun b H' => ∀ a, ItemAt K (hide X H') true a b.1 → Q (.ref a) H')
theorem ok_read_field (T : Txt K mg) : FnAt P w K mg base (L2.CX P w) 19 "read_field" ["reader", "names"] (spField K) := by
  have G_Fault := ok_Fault (P := P) (w := w) (base := base) T
  have G_Reader_take := ok_Reader_take (P := P) (w := w) (base := base) T
  have G_Reader_takes := ok_Reader_takes (P := P) (w := w) (base := base) T
  have G_Reader_take_number := ok_Reader_take_number (P := P) (w := w) (base := base) T
  have G_Reader_take_new_name := ok_Reader_take_new_name (P := P) (w := w) (base := base) T
  have G_Field := ok_Field (P := P) (w := w) (base := base) T
  have G_read_shape : FnAt P w K mg base (L2.CX P w) 18 "read_shape" ["reader", "depth"] (spShape K 6) := ok_read_shape (P := P) (w := w) (base := base) T 6
  refine T.d_read_field.okX sc_read_field (fun vs H Q E h => by obtain ⟨r, tl, rd, nm, l, kvs, rs, m, X, fs, rfl, _⟩ := h; rfl) fun f cdv A outer s H vs Q E hr h tk => ?_
  obtain ⟨r, tl, rd, nm, l, kvs, rs, m, X, fs, rfl, hnm, hR, hd, hX, hS, hOk, hG, h⟩ := h
  have hdr := hR.ne hd (fun _ _ _ z => by cases z)
  obtain ⟨dx, i, h1⟩ := hR.ins
  refine ⟨_, (pss_cons (ps_set (i := 2) sc_read_field.nd rfl (Or.inl rfl) (pe_meX (pv 0) G_Reader_take_new_name hr (by first | decide | omega) tk (pa_cons (pv 1) pa_nil)))
  (pss_cons (ps_expr (pe_meX (pv 0) G_Reader_take hr (by first | decide | omega) tk (pa_cons pe_str pa_nil)))
  (pss_cons (ps_set (i := 3) sc_read_field.nd rfl (Or.inl rfl) (pe_fnX G_read_shape hr (by first | decide | omega) tk (pa_cons (pv 0) (pa_cons pe_int pa_nil))))
  (pss_cons (ps_set (i := 4) sc_read_field.nd rfl (Or.inl rfl) pe_int)
  (pss_cons (ps_if (pt_val (pe_me (pv 0) G_Reader_takes hr (by first | decide | omega) (pa_cons pe_str pa_nil))) (pss_one (ps_set (i := 4) sc_read_field.nd rfl (Or.inl rfl) (pe_fl T.c_Token T.na_Token_told (pe_meX (pv 0) G_Reader_take_number hr (by first | decide | omega) tk (pa_cons pe_int (pa_cons (pe_num T.n_HOTTEST) pa_nil)))))) pss_nil)
  (pss_cons (ps_expr (pe_meX (pv 0) G_Reader_take hr (by first | decide | omega) tk (pa_cons pe_str pa_nil)))
  (pss_one (ps_ret (pe_mk G_Field hr (by first | decide | omega) (pa_cons (pv 2) (pa_cons (pv 3) (pa_cons (pv 4) pa_nil)))))))))))), ?_⟩
  refine ⟨_, rfl, r, dx, _, rfl, h1, rdm (by decide) (by decide) (by decide), argS rfl ⟨r, tl, rd, nm, _, l, rfl, hnm, hR, fun f ef => ?_, fun x l2 ex => ⟨fun hnone H2 b2 hR2 => ?_, fun hsome => ?_⟩⟩⟩
  · unfold fieldTk at h
    rw [ef] at h
    exact h
  · unfold fieldTk at h
    rw [ex] at h
    have h : Outc K r tl rd E (fun b : (PName × Nat × Ty) × Toks => b.2) H (if (fs.any fun f => f.1.name == x.name) = true then _ else _) _ := h
    rw [names_any, hnone, if_neg (by decide)] at h
    obtain ⟨nx, hG2, hl2⟩ := takeName_ok ex hG
    obtain ⟨dx2, i2, h12⟩ := hR2.ins
    refine ⟨_, rfl, r, dx2, _, rfl, h12, rdm (by decide) (by decide) (by decide), arg1 (ask_take ks_colon rfl hR2 (Outc.call h b2 fun l3 H3 e3 b3 hR3 k3 _ => ?_))⟩
    obtain ⟨hG3, hl3⟩ := taken_ok e3 hG2
    have bb3 := b2.trans b3
    have hX3 := hX.but hR bb3
    refine ⟨_, rfl, r, tl, rd, l3, kvs, rs, m, X, rfl, by omega, hR3, bb3 _ _ hd hdr, hX3, RecsAt.keeps (keeps_hide hR hX bb3) hS, hOk, hG3, Outc.call k3 bb3 fun ty H4 e4 b4 hR4 k4 => fun sh hsh => ?_⟩
    have bb4 := bb3.trans b4
    have hX4 := hX.but hR bb4
    obtain ⟨dx4, i4, h14⟩ := hR4.ins
    refine ⟨_, rfl, r, dx4, _, rfl, h14, rdm (by decide) (by decide) (by decide), arg1 (ask_takes kw_hot rfl hR4 (fun en H5 b5 hR5 => ?_) (fun en => ?_))⟩
    · rw [if_pos (show ValayBase.nextWord "hot" ty.2 = true from en)] at k4
      have bb5 := bb4.trans b5
      obtain ⟨dx5, i5, h15⟩ := hR5.ins
      refine ⟨true, rfl, if_t rfl ⟨_, rfl, r, dx5, _, rfl, h15, rdm (by decide) (by decide) (by decide), arg2 (ask_number (lo := 1) (hi := 1000) hR5 (Outc.call (la := fun b : Nat × Toks => b.2) k4 bb5 fun k H6 e6 b6 hR6 k6 a ha => ?_))⟩⟩
      obtain ⟨da, hai⟩ := ha
      refine ⟨a, da, _, _, rfl, hai, rfl, ?_⟩
      have bb6 := bb5.trans b6
      have hX6 := hX.but hR bb6
      have hsh6 := Lays.keeps (keeps_hide hR4 hX4 (b5.trans b6)) _ _ _ hsh
      obtain ⟨dxf, if_, hf1⟩ := hR6.ins
      refine ⟨_, rfl, r, dxf, _, rfl, hf1, rdm (by decide) (by decide) (by decide), arg1 (ask_take ks_semi rfl hR6 (Outc.on ((Outc.map (la := fun l' : Toks => l') k6 (fun _ => rfl)).but bb6) fun l7 H7 e7 b7 hR7 k7 _ => ?_))⟩
      refine ⟨_, rfl, _, rfl, _, rfl, fun p dp np nd ne => made rfl np nd ne fun H8 s8 h8 => ?_⟩
      exact k7 H8 (same_but s8) (hR7.same s8) p ⟨sh, ins_hide h8 ((hX6.but hR6 b7).out np), Lays.keeps (same_keeps (same_hide s8)) _ _ _ (Lays.keeps (keeps_hide hR6 hX6 b7) _ _ _ hsh6)⟩
    · rw [if_neg (show ¬ ValayBase.nextWord "hot" ty.2 = true by rw [show ValayBase.nextWord "hot" ty.2 = false from en]; decide)] at k4
      refine ⟨false, rfl, if_f rfl ?_⟩
      have k6 : Outc K r tl rd E (fun b : (PName × Nat × Ty) × Toks => b.2) H ((ValayBase.takeSign 59 ty.2).map fun m => ((x, 1, ty.1), m)) (fun b H' => ∀ a, ItemAt K (hide X H') true a b.1 → Q (.ref a) H') := k4
      obtain ⟨dxf, if_, hf1⟩ := hR4.ins
      refine ⟨_, rfl, r, dxf, _, rfl, hf1, rdm (by decide) (by decide) (by decide), arg1 (ask_take ks_semi rfl hR4 (Outc.on ((Outc.map (la := fun l' : Toks => l') k6 (fun _ => rfl)).but bb4) fun l7 H7 e7 b7 hR7 k7 _ => ?_))⟩
      refine ⟨_, rfl, _, rfl, _, rfl, fun p dp np nd ne => made rfl np nd ne fun H8 s8 h8 => ?_⟩
      exact k7 H8 (same_but s8) (hR7.same s8) p ⟨sh, ins_hide h8 ((hX4.but hR4 b7).out np), Lays.keeps (same_keeps (same_hide s8)) _ _ _ (Lays.keeps (keeps_hide hR4 hX4 b7) _ _ _ hsh)⟩
  · unfold fieldTk at h
    rw [ex] at h
    have h : Outc K r tl rd E (fun b : (PName × Nat × Ty) × Toks => b.2) H (if (fs.any fun f => f.1.name == x.name) = true then .error ⟨5, x.place⟩ else _) _ := h
    have z : (valV (namesK fs) (Sum.inr (strB x.name))).isSome = true := by
      cases e : valV (namesK fs) (Sum.inr (strB x.name)) with
      | none => exact absurd e hsome
      | some _ => rfl
    rw [names_any, z, if_pos rfl] at h
    exact h
end
end Lv
set_option Elab.async false
set_option linter.all false
set_option maxRecDepth 100000
set_option maxHeartbeats 4000000
namespace Lv
open PySem PySem.Spec PyProof.Rows L2 TL
open ValayBase (PTok Toks Fault PName)
open Valaya (Ty Rec)
section
variable {P : Program} {w : World} {K : PySem.W.Frag} {mg : Str → Option Value} {base : Heap}
def muFs (n : Nat) : L2.St → Hp → Nat := fun σ H => match σ with
  | [_, some (.ref fl), _, _] => (match H fl with
    | some (.lst xs) => n + 1 - xs.length
    | _ => 0)
  | _ => 0
theorem muFs_at {n : Nat} {H : Hp} {fl : Addr} {xs : List V} {a b c : Option V} (h : H fl = some (.lst xs)) : muFs n [a, some (.ref fl), b, c] H = n + 1 - xs.length := by
  show (match H fl with
    | some (.lst xs) => n + 1 - xs.length
    | _ => 0) = _
  rw [h]
theorem RdAt.len {H : Hp} {r tl rd : Addr} {l : Toks} (h : RdAt K H r tl rd l) : l.length ≤ 5000 := by
  obtain ⟨dx, as, ts, i, h1, h2, h3, h4, h5, h6⟩ := h
  rw [← h4, List.length_drop]
  omega
def spFields (K : PySem.W.Frag) : Sp := fun vs H Q E => ∃ (r tl rd : Addr) (l : Toks) (kvs : List (Key × V)) (rs : List Rec) (m : Nat), vs = [.ref r] ∧ RdAt K H r tl rd l ∧ H rd = some (.dK kvs) ∧ RecsAt K H kvs rs ∧ RsOk m rs ∧ Good l ∧
  Outc K r tl rd E (fun b : Ty × Toks => b.2) H (Valaya.takeFields rs (l.length + 1) [] l) (fun b H' => ∀ fl bs ps, b.1 = .rec_ (Valaya.rowOf ps) → H' fl = some (.lst (bs.map V.ref)) → Paired (fun (b : Addr) (q : PName × Nat × Ty) => ItemAt K H' true b q) bs ps → Q (.ref fl) H')
theorem ok_read_fields (T : Txt K mg) : FnAt P w K mg base (L2.CX P w) 20 "read_fields" ["reader"] (spFields K) := by
  have G_Reader_takes := ok_Reader_takes (P := P) (w := w) (base := base) T
  have G_read_field := ok_read_field (P := P) (w := w) (base := base) T
  refine T.d_read_fields.okX sc_read_fields (fun vs H Q E h => by obtain ⟨r, tl, rd, l, kvs, rs, m, rfl, _⟩ := h; rfl) fun f cdv A outer s H vs Q E hr h tk => ?_
  obtain ⟨r, tl, rd, l, kvs, rs, m, rfl, hR, hd, hS, hOk, hG, h⟩ := h
  have hu := hu_of hr
  have hdr := hR.ne hd (fun _ _ _ z => by cases z)
  have h5 := hR.len
  obtain ⟨otl, hotl, htlr⟩ : ∃ o, H tl = some o ∧ tl ≠ r := by
    obtain ⟨dx, as, ts, i, h1, h2, _⟩ := hR
    exact ⟨_, h2, fun e => by rw [e, h1] at h2; cases h2⟩
  obtain ⟨dx, i, h1⟩ := hR.ins
  refine ⟨_, (pss_cons (ps_set (i := 1) sc_read_fields.nd rfl (Or.inl rfl) (pe_lst pa_nil))
  (pss_cons (ps_set (i := 2) sc_read_fields.nd rfl (Or.inl rfl) pe_dnewK)
  (pss_cons (ps_while (passes_of rfl) (PW.pt (pw_or (pt_not (pt_truth (pv 1) (by intro _; rfl))) (pw_or1 (pt_not (pt_val (pe_me (pv 0) G_Reader_takes hr (by first | decide | omega) (pa_cons pe_str pa_nil))))))) (pss_cons (ps_set (i := 3) sc_read_fields.nd rfl (Or.inl rfl) (pe_fnX G_read_field hr (by first | decide | omega) tk (pa_cons (pv 0) (pa_cons (pv 2) pa_nil))))
  (pss_cons (ps_dput hu (pv 2) (pe_fl T.c_Field T.na_Field_name (pv 3)) pe_bl rfl)
  (pss_one (ps_expr (pe_bm PySem.F.plainAttrs_list PySem.F.slot_list_append PySem.F.type_list_append mt_append (pv 1) (pa_cons (pv 3) pa_nil)))))))
  (pss_one (ps_ret (pv 1)))))), ?_⟩
  refine ⟨by decide, fun fl nfl => fun nm nnm => ?_⟩
  have s2 : Same H (upd H fl (.lst [])) := same_upd nfl
  have s3 : Same (upd H fl (.lst [])) (upd (upd H fl (.lst [])) nm (.dK [])) := same_upd nnm
  have flnm : fl ≠ nm := fun z => by rw [← z, upd_same] at nnm; cases nnm
  have hal3 : (upd (upd H fl (.lst [])) nm (.dK [])) fl = some (.lst []) := by rw [upd_ne flnm, upd_same]
  have hnm3 : (upd (upd H fl (.lst [])) nm (.dK [])) nm = some (.dK []) := upd_same
  have s13 := s2.trans s3
  have newr : ∀ {b : Addr} {o : HO}, H b = some o → b ≠ r → b ≠ fl ∧ b ≠ nm := fun {b o} hb hbr => by
    refine ⟨fun z => ?_, fun z => ?_⟩
    · rw [z, nfl] at hb
      cases hb
    · have e2 := s2 _ _ hb
      rw [z, nnm] at e2
      cases e2
  have rfn : r ≠ fl ∧ r ≠ nm := by
    refine ⟨fun z => ?_, fun z => ?_⟩
    · rw [z, nfl] at h1
      cases h1
    · have e2 := s2 _ _ h1
      rw [z, nnm] at e2
      cases e2
  have hXl : ∀ {Hz : Hp} {xs : List V}, Hz fl = some (.lst xs) → Lsts Hz [fl] := fun {Hz xs} hz x m => by
    rw [List.mem_singleton.mp m]
    exact ⟨_, hz⟩
  have recl : ∀ {Hz : Hp}, But r H Hz → RecsAt K (hide [fl] Hz) kvs rs := fun {Hz} bz => by
    refine RecsAt.keeps (keeps_rd (r := r) (tl := tl) (rd := rd) h1 fun a o ha na => ?_) hS
    rw [hide_out fun z => (newr ha na).1 (List.mem_singleton.mp z)]
    exact bz _ _ ha na
  refine while_go (fun σ H' => ∃ (v : Option V) (fs : List (PName × Nat × Ty)) (bs : List Addr) (l' : Toks) (fu : Nat), σ = [some (.ref r), some (.ref fl), some (.ref nm), v] ∧ But r H H' ∧ H' fl = some (.lst (bs.map V.ref)) ∧ H' nm = some (.dK (namesK fs)) ∧
    Paired (fun (b : Addr) (q : PName × Nat × Ty) => ItemAt K (hide [fl] H') true b q) bs fs ∧ RdAt K H' r tl rd l' ∧ Good l' ∧ l'.length < fu ∧ fs.length + l'.length ≤ l.length ∧ Outc K r tl rd E (fun b : Ty × Toks => b.2) H (Valaya.takeFields rs fu fs l') (fun b H' => ∀ fl bs ps, b.1 = .rec_ (Valaya.rowOf ps) → H' fl = some (.lst (bs.map V.ref)) → Paired (fun (b : Addr) (q : PName × Nat × Ty) => ItemAt K H' true b q) bs ps → Q (.ref fl) H')) (muFs l.length)
    ⟨none, [], [], l, l.length + 1, rfl, same_but s13, hal3, hnm3, .nil, hR.same s13, hG, by omega, by simp, h⟩ ?_
  rintro σ H' ⟨v, fs, bs, l', fu, rfl, bb, hal, hnm, hP, hR', hG', hfu, hln, k⟩
  obtain ⟨fu, rfl⟩ : ∃ g, fu = g + 1 := ⟨fu - 1, by omega⟩
  rw [takeFields_eq] at k
  obtain ⟨t0, lt0, elt⟩ := hR'.cons
  have hl1 : 0 < l'.length := by rw [elt]; simp
  obtain ⟨dx', i', h1'⟩ := hR'.ins
  refine ⟨_, rfl, _, .inl ⟨_, SqL.of hal, rfl⟩, ?_⟩
  have eE : (bs.map V.ref).isEmpty = fs.isEmpty := by
    cases hP <;> rfl
  rw [eE]
  cases hE : fs.isEmpty with
  | true =>
    rw [hE] at k
    refine if_t rfl ?_
    rw [if_neg (fun z => by cases z.2)] at k
    refine if_t rfl (turn_on ?_)
    refine ⟨_, rfl, _, rfl, r, tl, rd, nm, l', kvs, rs, m, [fl], fs, rfl, hnm, hR', bb _ _ hd hdr, hXl hal, recl bb, hOk, hG', Outc.call k bb fun p H2 e2 b2 hR2 k2 a ha => ?_⟩
    obtain ⟨hG2, hl2, hany⟩ := fieldTk_ok hOk hG' e2
    rw [names_any] at hany
    have hnone : valV (namesK fs) (Sum.inr (strB p.1.1.name)) = none := by
      cases e : valV (namesK fs) (Sum.inr (strB p.1.1.name)) with
      | none => rfl
      | some _ => rw [e] at hany; cases hany
    have hal2 := b2 _ _ hal rfn.1.symm
    have hnm2 := b2 _ _ hnm rfn.2.symm
    have bb2 := bb.trans b2
    have hP2 := paired_append (paired_mono (fun _ _ z => ItemAt.keeps (keeps_hide hR' (hXl hal) b2) z) hP) (.cons ha .nil)
    obtain ⟨c, hin, hl⟩ := ha
    rw [if_pos rfl] at hin
    obtain ⟨da, hai⟩ := hin
    have hai := (hide_some hai).1
    refine ⟨_, rfl, _, rfl, a, da, _, _, rfl, hai, rfl, nm, _, rfl, DPut.k (k := Sum.inr (strB p.1.1.name)) hnm2 ?_, ?_⟩
    · unfold namesK
      rw [List.length_map, sizeLine_eq]
      omega
    rw [names_put _ p.1.1 p.1.2.1 p.1.2.2 hnone]
    have hR3 := RdAt.dict (kvs' := namesK (fs ++ [p.1])) hR2 hnm2
    have hal3 : (upd H2 nm (.dK (namesK (fs ++ [p.1])))) fl = some (.lst (bs.map V.ref)) := by rw [upd_ne flnm]; exact hal2
    refine ⟨_, rfl, .inl ⟨rfl, _, SqL.of hal3⟩, _, rfl, fl, _, _, rfl, rfl, hal3, ?_, ?_⟩
    · rw [List.length_map, paired_len hP, sizeLine_eq]
      omega
    have hR4 := RdAt.put (o := .lst (bs.map V.ref ++ [V.ref a])) hR3 hal3 (newr hotl htlr).1
    have e4 : hide [fl] (upd (upd H2 nm (.dK (namesK (fs ++ [p.1])))) fl (.lst (bs.map V.ref ++ [V.ref a]))) = upd (hide [fl] H2) nm (.dK (namesK (fs ++ [p.1]))) := by rw [hide_upd (List.mem_cons_self ..), hide_upd' (fun z => flnm (List.mem_singleton.mp z).symm)]
    have kd : Keeps K (hide [fl] H2) (upd (hide [fl] H2) nm (.dK (namesK (fs ++ [p.1])))) := keeps_dict (kvs := namesK fs) (by rw [hide_out (fun z => flnm (List.mem_singleton.mp z).symm)]; exact hnm2)
    have hP4 := paired_mono (fun _ _ z => ItemAt.keeps (f := true) kd z) hP2
    rw [← e4] at hP4
    have hal4 : (upd (upd H2 nm (.dK (namesK (fs ++ [p.1])))) fl (.lst (bs.map V.ref ++ [V.ref a]))) fl = some (.lst ((bs ++ [a]).map V.ref)) := by rw [upd_same, List.map_append]; rfl
    have hnm4 : (upd (upd H2 nm (.dK (namesK (fs ++ [p.1])))) fl (.lst (bs.map V.ref ++ [V.ref a]))) nm = some (.dK (namesK (fs ++ [p.1]))) := by rw [upd_ne flnm.symm, upd_same]
    refine ⟨⟨_, fs ++ [p.1], bs ++ [a], p.2, fu, rfl, fun b o hb hbr => ?_, hal4, hnm4, hP4, hR4, hG2, by omega, ?_, k2⟩, ?_⟩
    · rw [upd_ne (newr hb hbr).1, upd_ne (newr hb hbr).2]
      exact bb2 _ _ hb hbr
    · rw [List.length_append, List.length_singleton]
      omega
    · show muFs l.length [some (V.ref r), some (.ref fl), some (.ref nm), some (.ref a)] _ < muFs l.length [some (V.ref r), some (.ref fl), some (.ref nm), v] H'
      rw [muFs_at hal4, muFs_at hal, List.length_map, List.length_append, List.length_singleton, List.length_map, paired_len hP]
      omega
  | false =>
    rw [hE] at k
    refine if_f rfl ?_
    refine ⟨_, rfl, r, dx', _, rfl, h1', rdm (by decide) (by decide) (by decide), arg1 (ask_takes ks_close rfl hR' (fun en H2 b2 hR2 => ?_) (fun en => ?_))⟩
    · rw [if_pos ⟨en, rfl⟩] at k
      have hal2 := b2 _ _ hal rfn.1.symm
      refine ⟨true, rfl, if_f rfl ⟨_, rfl, ?_⟩⟩
      exact k H2 (bb.trans b2) hR2 fl _ _ rfl hal2 (paired_mono (fun _ _ z => ItemAt.keeps (same_keeps hide_same) (ItemAt.keeps (keeps_hide hR' (hXl hal) b2) z)) hP)
    · refine ⟨false, rfl, ?_⟩
      rw [if_neg (fun z => by rw [en] at z; cases z.1)] at k
      refine if_t rfl (turn_on ?_)
      refine ⟨_, rfl, _, rfl, r, tl, rd, nm, l', kvs, rs, m, [fl], fs, rfl, hnm, hR', bb _ _ hd hdr, hXl hal, recl bb, hOk, hG', Outc.call k bb fun p H2 e2 b2 hR2 k2 a ha => ?_⟩
      obtain ⟨hG2, hl2, hany⟩ := fieldTk_ok hOk hG' e2
      rw [names_any] at hany
      have hnone : valV (namesK fs) (Sum.inr (strB p.1.1.name)) = none := by
        cases e : valV (namesK fs) (Sum.inr (strB p.1.1.name)) with
        | none => rfl
        | some _ => rw [e] at hany; cases hany
      have hal2 := b2 _ _ hal rfn.1.symm
      have hnm2 := b2 _ _ hnm rfn.2.symm
      have bb2 := bb.trans b2
      have hP2 := paired_append (paired_mono (fun _ _ z => ItemAt.keeps (keeps_hide hR' (hXl hal) b2) z) hP) (.cons ha .nil)
      obtain ⟨c, hin, hl⟩ := ha
      rw [if_pos rfl] at hin
      obtain ⟨da, hai⟩ := hin
      have hai := (hide_some hai).1
      refine ⟨_, rfl, _, rfl, a, da, _, _, rfl, hai, rfl, nm, _, rfl, DPut.k (k := Sum.inr (strB p.1.1.name)) hnm2 ?_, ?_⟩
      · unfold namesK
        rw [List.length_map, sizeLine_eq]
        omega
      rw [names_put _ p.1.1 p.1.2.1 p.1.2.2 hnone]
      have hR3 := RdAt.dict (kvs' := namesK (fs ++ [p.1])) hR2 hnm2
      have hal3 : (upd H2 nm (.dK (namesK (fs ++ [p.1])))) fl = some (.lst (bs.map V.ref)) := by rw [upd_ne flnm]; exact hal2
      refine ⟨_, rfl, .inl ⟨rfl, _, SqL.of hal3⟩, _, rfl, fl, _, _, rfl, rfl, hal3, ?_, ?_⟩
      · rw [List.length_map, paired_len hP, sizeLine_eq]
        omega
      have hR4 := RdAt.put (o := .lst (bs.map V.ref ++ [V.ref a])) hR3 hal3 (newr hotl htlr).1
      have e4 : hide [fl] (upd (upd H2 nm (.dK (namesK (fs ++ [p.1])))) fl (.lst (bs.map V.ref ++ [V.ref a]))) = upd (hide [fl] H2) nm (.dK (namesK (fs ++ [p.1]))) := by rw [hide_upd (List.mem_cons_self ..), hide_upd' (fun z => flnm (List.mem_singleton.mp z).symm)]
      have kd : Keeps K (hide [fl] H2) (upd (hide [fl] H2) nm (.dK (namesK (fs ++ [p.1])))) := keeps_dict (kvs := namesK fs) (by rw [hide_out (fun z => flnm (List.mem_singleton.mp z).symm)]; exact hnm2)
      have hP4 := paired_mono (fun _ _ z => ItemAt.keeps (f := true) kd z) hP2
      rw [← e4] at hP4
      have hal4 : (upd (upd H2 nm (.dK (namesK (fs ++ [p.1])))) fl (.lst (bs.map V.ref ++ [V.ref a]))) fl = some (.lst ((bs ++ [a]).map V.ref)) := by rw [upd_same, List.map_append]; rfl
      have hnm4 : (upd (upd H2 nm (.dK (namesK (fs ++ [p.1])))) fl (.lst (bs.map V.ref ++ [V.ref a]))) nm = some (.dK (namesK (fs ++ [p.1]))) := by rw [upd_ne flnm.symm, upd_same]
      refine ⟨⟨_, fs ++ [p.1], bs ++ [a], p.2, fu, rfl, fun b o hb hbr => ?_, hal4, hnm4, hP4, hR4, hG2, by omega, ?_, k2⟩, ?_⟩
      · rw [upd_ne (newr hb hbr).1, upd_ne (newr hb hbr).2]
        exact bb2 _ _ hb hbr
      · rw [List.length_append, List.length_singleton]
        omega
      · show muFs l.length [some (V.ref r), some (.ref fl), some (.ref nm), some (.ref a)] _ < muFs l.length [some (V.ref r), some (.ref fl), some (.ref nm), v] H'
        rw [muFs_at hal4, muFs_at hal, List.length_map, List.length_append, List.length_singleton, List.length_map, paired_len hP]
        omega
end
end Lv
set_option Elab.async false
set_option linter.all false
set_option maxRecDepth 100000
set_option maxHeartbeats 4000000
namespace Lv
open PySem PySem.Spec PyProof.Rows L2 TL
open ValayBase (PTok Toks Fault PName)
open Valaya (Ty Rec)
/-- one record -/
def recTk (rs : List Rec) (l : Toks) : Except Fault (Rec × Toks) := (ValayBase.takeWord "record" l).bind fun r => (ValayBase.takeName r).bind fun x => if rs.any (fun y => y.x.name == x.1.name) = true then .error ⟨5, x.1.place⟩
  else (ValayBase.takeSign 123 x.2).bind fun m => (Valaya.takeFields rs (m.length + 1) [] m).bind fun t => if Valaya.LEAVES < Valaya.countLeaves t.1 then .error ⟨15, ValayBase.here l⟩ else .ok (⟨x.1, ValayBase.here l, t.1⟩, t.2)
theorem recTk_ok {m : Nat} {rs : List Rec} (hr : RsOk m rs) {l l' : Toks} {r : Rec} (hg : Good l) (h : recTk rs l = .ok (r, l')) : Good l' ∧ l'.length < l.length ∧ RsOk (m + 200) (rs ++ [r]) := by
  unfold recTk at h
  obtain ⟨l1, h1, h⟩ := bind_ok h
  obtain ⟨g1, k1⟩ := taken_ok h1 hg
  obtain ⟨x, hx, h⟩ := bind_ok h
  obtain ⟨nx, gx, lx⟩ := takeName_ok (x := x.1) (l' := x.2) hx g1
  split at h
  · cases h
  · obtain ⟨m1, hm1, h⟩ := bind_ok h
    obtain ⟨g2, k2⟩ := taken_ok hm1 gx
    obtain ⟨t, ht, h⟩ := bind_ok h
    obtain ⟨ps, e, r1, r2, r3, r4, r5⟩ := takeFields_ok hr _ [] _ t.1 t.2 (fun p hp => by cases hp) g2 ht
    split at h
    · cases h
    · cases h
      exact ⟨r4, by omega, rec_more hr nx e r1 r3⟩
theorem takeRecs_eq (n : Nat) (rs : List Rec) (l : Toks) : Valaya.takeRecs (n + 1) rs l = if ValayBase.next .last l = true ∧ rs.isEmpty = false then .ok rs else if ValayBase.nextWord "record" l = true ∧ Valaya.RECORDS ≤ rs.length then .error ⟨4, ValayBase.here l⟩ else (recTk rs l).bind fun p => Valaya.takeRecs n (rs ++ [p.1]) p.2 := by
  rw [Valaya.takeRecs]
  split
  · rfl
  · unfold recTk
    rw [ebind_assoc]
    by_cases c : ValayBase.nextWord "record" l = true
    · have e : ValayBase.takeWord "record" l = .ok (l.drop 1) := if_pos c
      rw [e]
      show (if _ then _ else _) = _
      by_cases c2 : Valaya.RECORDS ≤ rs.length
      · rw [if_pos c2, if_pos ⟨c, c2⟩]
      · rw [if_neg c2, if_neg fun z => c2 z.2]
        show _ = (Except.bind (Except.bind _ _) _)
        rw [ebind_assoc]
        refine congrArg _ (funext fun x => ?_)
        by_cases c3 : (rs.any fun y => y.x.name == x.1.name) = true
        · rw [if_pos c3, if_pos c3]
          rfl
        · rw [if_neg c3, if_neg c3, ebind_assoc]
          refine congrArg _ (funext fun m => ?_)
          rw [ebind_assoc]
          refine congrArg _ (funext fun t => ?_)
          by_cases c4 : Valaya.LEAVES < Valaya.countLeaves t.1
          · rw [if_pos c4, if_pos c4]
            rfl
          · rw [if_neg c4, if_neg c4]
            rfl
    · have e : ValayBase.takeWord "record" l = ValayBase.wrong l := if_neg c
      rw [e, if_neg fun z => c z.1]
      rfl
theorem rowOf_inj : ∀ {a b : List (PName × Nat × Ty)}, Valaya.rowOf a = Valaya.rowOf b → a = b
  | [], [], _ => rfl
  | [], _ :: _, h => by cases h
  | _ :: _, [], h => by cases h
  | (x, n, t) :: a, (y, k, u) :: b, h => by
    have h : Ty.field x n t (Valaya.rowOf a) = Ty.field y k u (Valaya.rowOf b) := h
    injection h with h1 h2 h3 h4
    rw [h1, h2, h3, rowOf_inj h4]
theorem field_in {m : Nat} {p : PName × Nat × Ty} (h : FieldRd m p) : FieldIn m p := ⟨h.nm, h.h1, h.h2, h.ty.sh, h.ty.fine, h.ty.dp, h.ty.nb⟩
section
variable {P : Program} {w : World} {K : PySem.W.Frag} {mg : Str → Option Value} {base : Heap}
def But2 (r d : Addr) (H H' : Hp) : Prop := ∀ b o, H b = some o → b ≠ r → b ≠ d → H' b = some o
theorem But2.trans {r d : Addr} {H H1 H2 : Hp} (a : But2 r d H H1) (b : But2 r d H1 H2) : But2 r d H H2 := fun c o h n m => b c o (a c o h n m) n m
theorem But.two {r d : Addr} {H H1 : Hp} (a : But r H H1) : But2 r d H H1 := fun c o h n _ => a c o h n
def OutR (K : PySem.W.Frag) (r : Addr) (E : XK) (H : Hp) {B : Type} (x : Except Fault B) (k : B → Prop) : Prop := match x with
  | .error f => FallsR K H r E f
  | .ok b => k b
theorem OutR.step {r : Addr} {E : XK} {H : Hp} {A B : Type} {x : Except Fault A} {f : A → Except Fault B} {a : A} {k : B → Prop} (h : OutR K r E H (x.bind f) k) (e : x = .ok a) : OutR K r E H (f a) k := by
  rw [e] at h
  exact h
theorem OutR.bad {r : Addr} {E : XK} {H : Hp} {A B : Type} {x : Except Fault A} {f : A → Except Fault B} {a : Fault} {k : B → Prop} (h : OutR K r E H (x.bind f) k) (e : x = .error a) : FallsR K H r E a := by
  rw [e] at h
  exact h
def spReadRec (K : PySem.W.Frag) : Sp := fun vs H Q E => ∃ (r tl rd : Addr) (l : Toks) (kvs : List (Key × V)) (rs : List Rec) (m : Nat), vs = [.ref r] ∧ RdAt K H r tl rd l ∧ H rd = some (.dK kvs) ∧ RecsAt K H kvs rs ∧ rs.length ≤ 6 ∧ RsOk m rs ∧ m ≤ 1200 ∧ Good l ∧
  OutR K r E H (recTk rs l) (fun b => ∀ H' kvs', But2 r rd H H' → RdAt K H' r tl rd b.2 → H' rd = some (.dK kvs') → RecsAt K H' kvs' (rs ++ [b.1]) → Q .non H')
theorem ok_read_record (T : Txt K mg) : FnAt P w K mg base (L2.CX P w) 21 "read_record" ["reader"] (spReadRec K) := by
  have G_Fault := ok_Fault (P := P) (w := w) (base := base) T
  have G_Reader_take := ok_Reader_take (P := P) (w := w) (base := base) T
  have G_Reader_take_new_name := ok_Reader_take_new_name (P := P) (w := w) (base := base) T
  have G_read_fields := ok_read_fields (P := P) (w := w) (base := base) T
  have G_count_leaves := ok_count_leaves (P := P) (w := w) (base := base) T
  have G_Record := ok_Record (P := P) (w := w) (base := base) T
  refine T.d_read_record.okX sc_read_record (fun vs H Q E h => by obtain ⟨r, tl, rd, l, kvs, rs, m, rfl, _⟩ := h; rfl) fun f cdv A outer s H vs Q E hr h tk => ?_
  obtain ⟨r, tl, rd, l, kvs, rs, m, rfl, hR, hd, hS, h6, hOk, hm, hG, h⟩ := h
  have hu := hu_of hr
  have hdr := hR.ne hd (fun _ _ _ z => by cases z)
  have h5 := hR.len
  obtain ⟨dx, i, h1⟩ := hR.ins
  have hkl : kvs.length = rs.length := paired_len hS
  refine ⟨_, (pss_cons (ps_set (i := 1) sc_read_record.nd rfl (Or.inl rfl) (pe_meX (pv 0) G_Reader_take hr (by first | decide | omega) tk (pa_cons pe_str pa_nil)))
  (pss_cons (ps_set (i := 2) sc_read_record.nd rfl (Or.inl rfl) (pe_meX (pv 0) G_Reader_take_new_name hr (by first | decide | omega) tk (pa_cons (pe_fl T.c_Reader T.na_Reader_records (pv 0)) pa_nil)))
  (pss_cons (ps_expr (pe_meX (pv 0) G_Reader_take hr (by first | decide | omega) tk (pa_cons pe_str pa_nil)))
  (pss_cons (ps_set (i := 3) sc_read_record.nd rfl (Or.inl rfl) (pe_fnX G_read_fields hr (by first | decide | omega) tk (pa_cons (pv 0) pa_nil)))
  (pss_cons (ps_if (pt_cmpR op_gt (pe_fn G_count_leaves hr (by first | decide | omega) (pa_cons (pv 3) pa_nil)) (pe_num T.n_MOST_LEAVES) (nomark _)) (pss_one (ps_raise rfl tk (pmk_rz G_Fault hr (by first | decide | omega) (pa_cons (pe_num T.n_TOO_MANY_LEAVES) (pa_cons (pe_fl T.c_Token T.na_Token_place (pv 1)) pa_nil))))) pss_nil)
  (pss_one (ps_dput hu (pe_fl T.c_Reader T.na_Reader_records (pv 0)) (pv 2) (pe_mk G_Record hr (by first | decide | omega) (pa_cons (pv 2) (pa_cons (pv 3) pa_nil))) rfl))))))), ?_⟩
  unfold recTk at h
  -- start = reader.take("record")
  refine ⟨_, rfl, r, dx, _, rfl, h1, rdm (by decide) (by decide) (by decide), arg1 (ask_takeT kw_record rfl hR ?_)⟩
  cases e1 : ValayBase.taken (.name (ValayBase.word "record")) l with
  | error f => exact h.bad e1
  | ok l1 =>
  have h := h.step e1
  intro H1 b1 hR1 sa st hst hsa
  obtain ⟨hG1, hl1⟩ := taken_ok e1 hG
  obtain ⟨dx1, i1, h11⟩ := hR1.ins
  have hd1 := b1 _ _ hd hdr
  -- name = reader.take_new_name(reader.records)
  refine ⟨_, rfl, r, dx1, _, rfl, h11, rdm (by decide) (by decide) (by decide), _, rfl, r, dx1, _, _, rfl, h11, rfl, r, tl, rd, rd, kvs, l1, rfl, hd1, hR1, fun f ef => ?_, fun x l2 ex => ⟨fun hnone H2 b2 hR2 => ?_, fun hsome => ?_⟩⟩
  · exact FallsR.but (K := K) (h.bad ef) b1
  · have h := h.step ex
    have hany : ¬ (rs.any fun y => y.x.name == x.name) = true := by
      rw [recs_any hS, hnone]
      decide
    rw [if_neg hany] at h
    obtain ⟨nx, hG2, hl2⟩ := takeName_ok ex hG1
    have bb2 := b1.trans b2
    obtain ⟨dx2, i2, h12⟩ := hR2.ins
    -- reader.take("{")
    refine ⟨_, rfl, r, dx2, _, rfl, h12, rdm (by decide) (by decide) (by decide), arg1 (ask_take ks_open rfl hR2 ?_)⟩
    cases e3 : ValayBase.taken (.sign 123) l2 with
    | error f => exact FallsR.but (K := K) (h.bad e3) bb2
    | ok l3 =>
    have h := h.step e3
    intro H3 b3 hR3 _
    obtain ⟨hG3, hl3⟩ := taken_ok e3 hG2
    have bb3 := bb2.trans b3
    have hd3 := bb3 _ _ hd hdr
    -- fields = read_fields(reader)
    refine ⟨_, rfl, r, tl, rd, l3, kvs, rs, m, rfl, hR3, hd3, RecsAt.keeps (hR.keeps bb3) hS, hOk, hG3, ?_⟩
    cases e4 : Valaya.takeFields rs (l3.length + 1) [] l3 with
    | error f => exact FallsR.but (K := K) (h.bad e4) bb3
    | ok t =>
    have h := h.step e4
    intro H4 b4 hR4 fl bs ps ety hfl hP
    have bb4 := bb3.trans b4
    obtain ⟨ps', e', r1, r2, r3, r4, r5⟩ := takeFields_ok hOk _ [] _ t.1 t.2 (fun p hp => by cases hp) hG3 e4
    obtain rfl : ps = ps' := by
      rw [ety] at e'
      exact rowOf_inj (Ty.rec_.inj e')
    have hI : ∀ p ∈ ps, FieldIn m p := fun p hp => field_in (r3 p hp)
    -- if count_leaves(fields) > MOST_LEAVES
    refine ⟨_, rfl, fl, bs, ps, m, rfl, hfl, hP, hI, by simp only [List.length_nil] at r2; omega, fun H5 s5 => ⟨_, _, rfl, rfl, _, rfl, ?_⟩⟩
    have hc : Valaya.countLeaves t.1 = leafSum ps := by
      rw [ety]
      exact count_rowOf ps
    rw [hc] at h
    have bb5 := bb4.trans (same_but s5)
    have hR5 := hR4.same s5
    by_cases c : Valaya.LEAVES < leafSum ps
    · rw [if_pos c] at h
      have c' : 24 < leafSum ps := c
      refine if_t (decide_eq_true (by omega)) ?_
      obtain ⟨da, hai⟩ := hsa
      have hsr : sa ≠ r := fun z => by
        rw [z, h11] at hai
        injection hai with hai
        injection hai with _ _ hai
        unfold readF at hai
        injection hai with hai
        injection hai with hai
        exact absurd hai (by decide)
      have hai5 := s5 _ _ (b4 _ _ (b3 _ _ (b2 _ _ hai hsr) hsr) hsr)
      exact ⟨_, rfl, sa, da, _, _, rfl, hai5, rfl, rfl, by decide, faultR_at (K := K) h bb5 rfl (by rw [hst])⟩
    · rw [if_neg c] at h
      have c' : ¬ 24 < leafSum ps := c
      refine if_f (decide_eq_false (by omega)) ?_
      refine ⟨_, rfl, _, rfl, fun p dp np nd ne => rec_made (nm := x.name) (m := m) np nd ne (s5 _ _ hfl) (FieldsAt.keeps (same_keeps s5) hP) hI (by omega) (by omega) (by simp only [List.length_nil] at r2; omega) fun H6 s6 h6r => ?_⟩
      have hR6 := hR5.same s6
      obtain ⟨dx6, i6, h16⟩ := hR6.ins
      have bb6 := bb5.trans (same_but s6)
      have hd6 := bb6 _ _ hd hdr
      have hS6 : RecsAt K H6 kvs rs := RecsAt.keeps (hR.keeps bb6) hS
      refine ⟨_, rfl, r, dx6, _, _, rfl, h16, rfl, _, rfl, rd, _, rfl, DPut.k (k := Sum.inr (strB x.name)) hd6 ?_, ?_⟩
      · rw [sizeLine_eq]
        omega
      · rw [putK_new _ hnone]
        have kd : Keeps K H6 (upd H6 rd (.dK (kvs ++ [(Sum.inr (strB x.name), V.ref p)]))) := keeps_dict hd6
        refine h _ _ (fun b o hb hr hd => ?_) (RdAt.dict hR6 hd6) upd_same ?_
        · rw [upd_ne hd]
          exact bb6 _ _ hb hr
        · refine paired_append (RecsAt.keeps kd hS6) (.cons ⟨p, rfl, ?_⟩ .nil)
          show RecAt K _ p x.name t.1
          rw [ety]
          exact RecAt.keeps kd h6r
  · have h := h.step ex
    have hany : (rs.any fun y => y.x.name == x.name) = true := by
      rw [recs_any hS]
      cases e : valV kvs (Sum.inr (strB x.name)) with
      | none => exact absurd e hsome
      | some _ => rfl
    rw [if_pos hany] at h
    exact FallsR.but (K := K) h b1
end
end Lv
set_option Elab.async false
set_option linter.all false
set_option maxRecDepth 100000
set_option maxHeartbeats 4000000
/-! list(d.values()): a new list of what a dict holds. (For list(d.items()) the library has HandS.ListItems.) -/
namespace Lv
open PySem PySem.Spec PyProof.Rows L2
theorem paired_back {α β : Type} {F : α → β → Prop} {xs : List α} {ys : List β} (hp : Paired F xs ys) : ∀ {i : Nat} {y : β}, ys[i]? = some y → ∃ x, xs[i]? = some x ∧ F x y := by
  induction hp with
  | nil =>
    intro i y hy
    simp at hy
  | cons z _ ih =>
    intro i y hy
    cases i with
    | zero =>
      cases hy
      exact ⟨_, rfl, z⟩
    | succ i => exact ih hy
def tListVals (te : TE) : TE := fun σ H Q => te σ H fun x H1 => ∃ (d : Addr) (kvs : List (Key × V)), x = .ref d ∧ H1 d = some (.dK kvs) ∧ ∀ p, H1 p = none → Q (.ref p) (upd H1 p (.lst (kvs.map Prod.snd)))
/-- the view of a dict's values -/
abbrev viewO (d : Addr) : Obj := { cls := .type "dict_values", data := .fields #[.ref d] }
section
variable {X : Cx} {e : Expr} {te : TE} {lp ap vp cp : Pos}
/-- d.values() -/
abbrev valuesE (e : Expr) (ap vp : Pos) : Expr := .Call (.Attribute e "values" ap) [] [] vp
theorem pe_listVals (hg : Gl X "list") (hm : X.mg "list" = none) (he : PE X e te) (calm : X.calm = true := by rfl) (plain : attributeBase e "values" X.env (eval e X.env) = eval e X.env := by rfl) (row : (ap.endLine == vp.line) = true := by rfl)
    (one : starEach [valuesE e ap vp] X.env = (false, eval (valuesE e ap vp) X.env) :: starEach [] X.env := by rfl) : PE X (.Call (.Name "list" lp) [valuesE e ap vp] [] cp) (tListVals te) := by
  constructor
  intro pins s σ H Q I h
  refine wpAny_Call_Name_kw (ld_blt I hg hm boot_list (PyProof.Rows.callWith_type1 ?_ one rfl))
  rw [one]
  show wpAny _ _ (spliced ((false, eval (valuesE e ap vp) X.env) :: backTo cp (starEach [] X.env))) _ _ s
  refine Calls.spliced_cons (wpAny_Call_method (T := "dict") (id := "dict.values") plain rfl row F.plainAttrs_dict F.slot_dict_values F.type_dict_values (thn (he.run pins s σ H _ I h) fun v s1 z => ?_))
  obtain ⟨_, H1, J, rv, d, kvs, rfl, at_, q⟩ := z
  cases rv
  obtain ⟨few, n0, ws, both, D⟩ := J.hok d _ at_
  obtain ⟨n1, atD⟩ := D.dictAt
  have J2 : Inv X pins σ H1 { s1 with heap := s1.heap.push (viewO d) } := J.kept (t' := s1.toks) fun b o => Heap.get?_push_of_some _
  refine ⟨D.typeIs, D.mapOf.noDict, method_meetsIn F.slot_dict_values F.entry_dict_values rfl (PySem.evalArgs_none ⟨rfl, D.typeIs, F.args_dict_values_1 _, _, meets_dict_values (mixKind X.prog X.w) d n0, ⟨ws, D⟩, Calls.spliced_nil ?_⟩)⟩
  refine PySem.W.kdl_call (PySem.W.kdl_values (knd := mixKind X.prog X.w) (kvs := ws) (ep := n1)) (J.ok.hd calm) ⟨⟨_, Heap.get?_push_size _ rfl, rfl, rfl⟩, atD.push _⟩ (by rw [← Paired.length both]; omega) fun m' tk acc cap kept listed inn => ?_
  have new : ObjOk X.prog X.w (upd H1 (s1.heap.push (viewO d)).objs.size (.lst (kvs.map Prod.snd))) m' (s1.heap.push (viewO d)).objs.size (.lst (kvs.map Prod.snd)) := by
    refine ⟨by rw [List.length_map]; exact few, acc.toList, cap, ?_, by rw [Array.toArray_toList]; exact listed⟩
    refine vals_of_idx _ _ (by rw [List.length_map, Paired.length both, Array.length_toList]; exact inn.1) fun i v hv => ?_
    rw [Array.getElem?_toList] at hv
    obtain ⟨key, hkey⟩ := inn.2 i v hv
    obtain ⟨kv, at2, rel⟩ := paired_back both hkey
    exact ⟨kv.2, by rw [List.getElem?_map, at2]; rfl, rel.2⟩
  exact ⟨.ref _, _, J2.laid kept (Nat.le_refl _) new, rfl, q _ (J2.hok.fresh (Nat.le_refl _))⟩
end
end Lv
set_option Elab.async false
set_option linter.all false
set_option maxRecDepth 100000
set_option maxHeartbeats 4000000
namespace Lv
open PySem PySem.Spec PyProof.Rows L2 TL
open ValayBase (PTok Toks Fault PName)
open Valaya (Ty Rec)
theorem tokenOf_good {part : List Int} {j : Nat} {t : PTok} (h : tokenOf part j = .ok t) : TokOk t := by
  unfold tokenOf at h
  split at h
  · cases h
  · split at h
    · split at h
      · cases h
      · cases h
        refine ⟨by simp, ?_⟩
        rw [List.length_map]
        omega
    · split at h
      · split at h
        · cases h
        · cases h; trivial
      · split at h
        · cases h; trivial
        · cases h
theorem lexFrom_good {ns : List Int} : ∀ (m j : Nat) (ts : Toks), lexFrom ns m j = .ok ts → Good ts ∧ ts.length ≤ m + 1
  | 0, _, ts, h => by
    cases h
    exact ⟨fun t ht => by rw [List.mem_singleton.mp ht]; trivial, by simp⟩
  | m + 1, j, ts, h => by
    unfold lexFrom at h
    by_cases c : j < ns.length
    · rw [if_pos c] at h
      obtain ⟨t, e, h⟩ := bind_ok h
      obtain ⟨l, e2, h⟩ := map_ok h
      have e3 : ts = t :: l := h.symm
      obtain ⟨g, hl⟩ := lexFrom_good m _ l e2
      rw [e3]
      refine ⟨fun u hu => ?_, by rw [List.length_cons]; omega⟩
      rcases List.mem_cons.mp hu with rfl | hu
      · exact tokenOf_good e
      · exact g u hu
    · rw [if_neg c] at h
      cases h
      exact ⟨fun t ht => by rw [List.mem_singleton.mp ht]; trivial, by simp⟩
theorem recTk_fine {m : Nat} {rs : List Rec} (hr : RsOk m rs) {l l' : Toks} {r : Rec} (hg : Good l) (h : recTk rs l = .ok (r, l')) : RecFine r ∧ ValayBase.nextWord "record" l = true := by
  unfold recTk at h
  obtain ⟨l1, h1, h⟩ := bind_ok h
  obtain ⟨g1, k1⟩ := taken_ok h1 hg
  obtain ⟨x, hx, h⟩ := bind_ok h
  obtain ⟨nx, gx, lx⟩ := takeName_ok (x := x.1) (l' := x.2) hx g1
  split at h
  · cases h
  · obtain ⟨m1, hm1, h⟩ := bind_ok h
    obtain ⟨g2, k2⟩ := taken_ok hm1 gx
    obtain ⟨t, ht, h⟩ := bind_ok h
    obtain ⟨ps, e, r1, r2, r3, r4, r5⟩ := takeFields_ok hr _ [] _ t.1 t.2 (fun p hp => by cases hp) g2 ht
    split at h
    · cases h
    · rename_i hlv
      have hw : ValayBase.nextWord "record" l = true := by
        by_cases c : ValayBase.nextWord "record" l = true
        · exact c
        · have e : ValayBase.takeWord "record" l = ValayBase.wrong l := if_neg c
          rw [e] at h1
          cases h1
      cases h
      refine ⟨⟨nx, ⟨_, e⟩, ?_, ?_, by unfold Valaya.LEAVES at hlv; exact Nat.le_of_not_lt hlv⟩, hw⟩
      · show Fine t.1
        rw [e]
        exact ⟨isRow_rowOf ps, by rw [rowLength_rowOf]; exact r1, fine_rowOf fun p hp' => ⟨(r3 p hp').nm, (r3 p hp').h1, (r3 p hp').h2, (r3 p hp').ty.sh, (r3 p hp').ty.fine⟩⟩
      · show dep t.1 ≤ 6
        rw [e]
        exact dep_rowOf fun p hp' => (r3 p hp').ty.dp
/-- what is known of records that are read -/
structure RecsGood (rs : List Rec) : Prop where
  ok : RsOk 1200 rs
  fine : ∀ r ∈ rs, RecFine r
  n1 : 1 ≤ rs.length
  n6 : rs.length ≤ 6
section
variable {P : Program} {w : World} {K : PySem.W.Frag} {mg : Str → Option Value} {base : Heap}
/-! ### a reader is made -/
def spRdInit (K : PySem.W.Frag) : Sp := fun vs H Q _ => ∃ (p dx tl : Addr), vs = [.ref p, .ref tl] ∧ H p = some (.ins (cRd K) dx []) ∧ ∀ (H' : Hp) (rd : Addr), H rd = none → H' p = some (.ins (cRd K) dx (readF tl 0 rd)) → H' rd = some (.dK []) → But p H H' → Q .non H'
theorem ok_Reader (T : Txt K mg) : MkAt P w K mg base 1 "Reader" (cRd K) ["self", "tokens"] (spRdInit K) := by
  refine T.i_Reader.ok sc_Reader_init (fun vs H Q E h => by obtain ⟨p, dx, tl, rfl, _⟩ := h; rfl) fun f cdv A outer s H vs Q E hr h => ?_
  obtain ⟨p, dx, tl, rfl, hp, q⟩ := h
  refine ⟨_, (pss_cons (ps_fl T.c_Reader T.na_Reader_tokens (pv 0) (pv 1))
  (pss_cons (ps_fl T.c_Reader T.na_Reader_reached (pv 0) pe_int)
  (pss_one (ps_fl T.c_Reader T.na_Reader_records (pv 0) pe_dnewK)))), ?_⟩
  refine ⟨_, rfl, _, rfl, p, dx, _, rfl, hp, (by show 0 < 1000; decide), ?_⟩
  refine ⟨_, rfl, p, dx, _, rfl, upd_same, (by show 1 < 1000; decide), ?_⟩
  have e1 : putF ("tokens" : Str) (V.ref tl) [] = ([("tokens", .ref tl)] : List (Str × V)) := rfl
  have e2 : putF ("reached" : Str) (V.int 0) ([("tokens", .ref tl)] : List (Str × V)) = ([("tokens", .ref tl), ("reached", .int 0)] : List (Str × V)) := if_neg (by decide +kernel)
  rw [e1, e2]
  have hp2 : (upd (upd H p (.ins (cRd K) dx [("tokens", .ref tl)])) p (.ins (cRd K) dx [("tokens", .ref tl), ("reached", .int 0)])) p = some (.ins (cRd K) dx [("tokens", .ref tl), ("reached", .int 0)]) := upd_same
  have b2 : But p H (upd (upd H p (.ins (cRd K) dx [("tokens", .ref tl)])) p (.ins (cRd K) dx [("tokens", .ref tl), ("reached", .int 0)])) := but_put but_upd
  generalize upd (upd H p (.ins (cRd K) dx [("tokens", .ref tl)])) p (.ins (cRd K) dx [("tokens", .ref tl), ("reached", .int 0)]) = H2 at *
  intro rd nrd
  have hrp : rd ≠ p := fun z => by
    rw [z, hp2] at nrd
    cases nrd
  have nrd0 : H rd = none := by
    cases e : H rd with
    | none => rfl
    | some o =>
      have := b2 _ _ e hrp
      rw [nrd] at this
      cases this
  have hp3 : (upd H2 rd (.dK [])) p = some (.ins (cRd K) dx [("tokens", .ref tl), ("reached", .int 0)]) := by
    rw [upd_ne hrp.symm]
    exact hp2
  refine ⟨_, rfl, p, dx, _, rfl, hp3, (by show 2 < 1000; decide), ?_⟩
  · have e3 : putF ("records" : Str) (V.ref rd) ([("tokens", .ref tl), ("reached", .int 0)] : List (Str × V)) = readF tl 0 rd := by
      rw [putF, if_neg (by decide +kernel), putF, if_neg (by decide +kernel)]
      rfl
    rw [e3]
    refine q _ rd nrd0 upd_same ?_ fun b o hb hbp => ?_
    · rw [upd_ne hrp, upd_same]
    · rw [upd_ne hbp, upd_ne fun z => by rw [z, nrd0] at hb; cases hb]
      exact b2 _ _ hb hbp
end
end Lv
set_option Elab.async false
set_option linter.all false
set_option maxRecDepth 100000
set_option maxHeartbeats 4000000
namespace Lv
open PySem PySem.Spec PyProof.Rows L2 TL
open ValayBase (PTok Toks Fault PName)
open Valaya (Ty Rec)
theorem RsOk.mono {m n : Nat} {rs : List Rec} (h : RsOk m rs) (hmn : m ≤ n) : RsOk n rs := ⟨h.fine, fun r hr f hf => by
  have := h.nb r hr f hf
  exact ⟨by omega, by omega⟩, fun r hr => by have := h.dd r hr; omega, h.d6⟩
theorem form_small : ∀ {rs : List Rec}, (∀ r ∈ rs, RecFine r) → (rs.flatMap Valaya.shownRec).length ≤ rs.length * 150000
  | [], _ => Nat.le_refl _
  | r :: rs, h => by
    rw [List.flatMap_cons, List.length_append, List.length_cons]
    have a := shown_small (h r (List.mem_cons_self ..))
    have b := form_small fun x hx => h x (List.mem_cons_of_mem _ hx)
    omega
section
variable {P : Program} {w : World} {K : PySem.W.Frag} {mg : Str → Option Value} {base : Heap}
def OutF (K : PySem.W.Frag) (E : XK) (H : Hp) {B : Type} (x : Except Fault B) (k : B → Prop) : Prop := match x with
  | .error f => Falls K H E f
  | .ok b => k b
theorem OutF.step {E : XK} {H : Hp} {A B : Type} {x : Except Fault A} {f : A → Except Fault B} {a : A} {k : B → Prop} (h : OutF K E H (x.bind f) k) (e : x = .ok a) : OutF K E H (f a) k := by
  rw [e] at h
  exact h
theorem OutF.bad {E : XK} {H : Hp} {A B : Type} {x : Except Fault A} {f : A → Except Fault B} {a : Fault} {k : B → Prop} (h : OutF K E H (x.bind f) k) (e : x = .error a) : Falls K H E a := by
  rw [e] at h
  exact h
def muRd (rd : Addr) : L2.St → Hp → Nat := fun _ H => match H rd with
  | some (.dK kvs) => 7 - kvs.length
  | _ => 0
theorem muRd_at {rd : Addr} {σ : L2.St} {H : Hp} {kvs : List (Key × V)} (h : H rd = some (.dK kvs)) : muRd rd σ H = 7 - kvs.length := by
  unfold muRd
  rw [h]
def readG (rs : List Rec) : Except Fault (List Rec) := if ValayBase.TEXT < (rs.flatMap Valaya.shownRec).length then .error ⟨16, 0⟩ else .ok rs
def InvRd (K : PySem.W.Frag) (E : XK) (H : Hp) (k0 : List Rec → Prop) (a r p rd : Addr) : L2.St → Hp → Prop := fun σ H' => ∃ (kvs : List (Key × V)) (rs : List Rec) (l' : Toks) (fu : Nat), σ = [some (.ref a), some (.ref r), none] ∧ Same H H' ∧ RdAt K H' r p rd l' ∧ H' rd = some (.dK kvs) ∧ RecsAt K H' kvs rs ∧ RsOk (200 * rs.length) rs ∧ (∀ x ∈ rs, RecFine x) ∧ rs.length ≤ 6 ∧ Good l' ∧ l'.length < fu ∧ OutF K E H ((Valaya.takeRecs fu rs l').bind readG) k0
def kRecs (K : PySem.W.Frag) (H : Hp) (Q : VK) (rs : List Rec) : Prop := RecsGood rs → ∀ (p : Addr) (as : List Addr) (H' : Hp), H p = none → Same H H' → H' p = some (.lst (as.map V.ref)) → RecL K H' as rs → Q (.ref p) H'
def spReadRecs (K : PySem.W.Frag) : Sp := fun vs H Q E => ∃ (a : Addr) (ns : List Int), vs = [.ref a] ∧ SqL K H a (ns.map V.int) ∧ Bytes_ ns ∧ OutF K E H (Valaya.read (ns.map toB)) (kRecs K H Q)
theorem isLast_next {t : PTok} {l : Toks} : ValayBase.next .last (t :: l) = isLast t.tok := by
  show ValayBase.tokEq t.tok .last = _
  cases t.tok <;> rfl
theorem recs_list {H : Hp} {kvs : List (Key × V)} {rs : List Rec} (h : RecsAt K H kvs rs) : ∃ as : List Addr, kvs.map Prod.snd = as.map V.ref ∧ RecL K H as rs := by
  induction h with
  | nil => exact ⟨[], rfl, .nil⟩
  | cons z _ ih =>
    obtain ⟨a, e, z⟩ := z
    obtain ⟨as, e2, L⟩ := ih
    refine ⟨a :: as, ?_, .cons z L⟩
    rw [List.map_cons, e2, e]
    rfl
theorem ok_read_records (T : Txt K mg) : FnAt P w K mg base (L2.CX P w) 22 "read_records" ["text"] (spReadRecs K) := by
  have G_Fault := ok_Fault (P := P) (w := w) (base := base) T
  have G_tokens_of := ok_tokens_of (P := P) (w := w) (base := base) T
  have G_Reader := ok_Reader (P := P) (w := w) (base := base) T
  have G_Reader_head := ok_Reader_head (P := P) (w := w) (base := base) T
  have G_read_record := ok_read_record (P := P) (w := w) (base := base) T
  have G_one_form := ok_one_form (P := P) (w := w) (base := base) T
  refine T.d_read_records.okX sc_read_records (fun vs H Q E h => by obtain ⟨a, ns, rfl, _⟩ := h; rfl) fun f cdv A outer s H vs Q E hr h tk => ?_
  obtain ⟨a, ns, rfl, hsq, hB, h⟩ := h
  unfold Valaya.read at h
  rw [tokens_is hB] at h
  refine ⟨_, (pss_cons (ps_if (pt_cmpR op_gt (pe_callB call_len_seq (by rfl) T.f_len PySem.boot_len (pa_cons (pv 0) pa_nil)) (pe_num T.n_MOST_BYTES) (nomark _)) (pss_one (ps_raise rfl tk (pmk_rz G_Fault hr (by first | decide | omega) (pa_cons (pe_num T.n_TEXT_TOO_LONG) (pa_cons (pe_num T.n_MOST_BYTES) pa_nil))))) pss_nil)
  (pss_cons (ps_set (i := 1) sc_read_records.nd rfl (Or.inl rfl) (pe_mk G_Reader hr (by first | decide | omega) (pa_cons (pe_fnX G_tokens_of hr (by first | decide | omega) tk (pa_cons (pv 0) pa_nil)) pa_nil)))
  (pss_cons (ps_while (passes_of rfl) (PW.pt (pw_or (pt_not (pt_truth (pe_fl T.c_Reader T.na_Reader_records (pv 1)) (by intro _; rfl))) (pw_or1 (pt_cmpR op_ne (pe_fl T.c_Token T.na_Token_kind (pe_me0 (pv 1) G_Reader_head hr (by first | decide | omega))) pe_str (nomark _))))) (pss_cons (ps_if (PW.pt (pw_and (pt_cmpR op_eq (pe_callB call_lenD (by rfl) T.f_len PySem.boot_len (pa_cons (pe_fl T.c_Reader T.na_Reader_records (pv 1)) pa_nil)) (pe_num T.n_MOST_RECORDS) (nomark _)) (pw_and1 (pt_cmpR op_eq (pe_fl T.c_Token T.na_Token_kind (pe_me0 (pv 1) G_Reader_head hr (by first | decide | omega))) pe_str (nomark _))))) (pss_one (ps_raise rfl tk (pmk_rz G_Fault hr (by first | decide | omega) (pa_cons (pe_num T.n_TOO_MANY) (pa_cons (pe_fl T.c_Token T.na_Token_place (pe_me0 (pv 1) G_Reader_head hr (by first | decide | omega))) pa_nil))))) pss_nil)
  (pss_one (ps_expr (pe_fnX G_read_record hr (by first | decide | omega) tk (pa_cons (pv 1) pa_nil))))))
  (pss_cons (ps_set (i := 2) sc_read_records.nd rfl (Or.inl rfl) (pe_listVals (by rfl) T.f_list (pe_fl T.c_Reader T.na_Reader_records (pv 1))))
  (pss_cons (ps_if (pt_cmpR op_gt (pe_callB call_len_str (by rfl) T.f_len PySem.boot_len (pa_cons (pe_fn G_one_form hr (by first | decide | omega) (pa_cons (pv 2) pa_nil)) pa_nil)) (pe_num T.n_MOST_BYTES) (nomark _)) (pss_one (ps_raise rfl tk (pmk_rz G_Fault hr (by first | decide | omega) (pa_cons (pe_num T.n_FORM_TOO_LONG) (pa_cons pe_int pa_nil))))) pss_nil)
  (pss_one (ps_ret (pv 2)))))))), ?_⟩
  refine ⟨_, rfl, a, _, rfl, .inl hsq, _, _, rfl, rfl, _, rfl, ?_⟩
  rw [List.length_map]
  by_cases c : 4096 < ns.length
  · rw [if_pos c] at h
    exact if_t (decide_eq_true (by omega)) ⟨rfl, by decide, fault_at (K := K) (f := ⟨1, 4096⟩) h rfl rfl⟩
  rw [if_neg c] at h
  refine if_f (decide_eq_false (by omega)) ?_
  refine ⟨_, rfl, a, ns, rfl, hsq, hB, by omega, fun ts e p as H1 np s1 hp hT => ?_, fun f e => h.bad e⟩
  have h : OutF K E H ((Valaya.takeRecs (ts.length + 1) [] ts).bind readG) (kRecs K H Q) := h.step e
  obtain ⟨hG, hlen⟩ := lexFrom_good _ _ _ e
  have hE := lexFrom_ends _ _ _ e
  intro r dx nr nd ne
  refine ⟨r, dx, p, rfl, upd_same, fun H2 rd nrd hr2 hrd2 b2 => ⟨rfl, ?_⟩⟩
  have s2 : Same H1 H2 := fun b o hb => by
    have h1 : b ≠ r := ne_of_none hb nr
    refine b2 _ _ ?_ h1
    rw [upd_ne h1, upd_ne (ne_of_none hb nd)]
    exact hb
  have nr0 : H r = none := by
    cases e : H r with
    | none => rfl
    | some o =>
      have := s1 _ _ e
      rw [nr] at this
      cases this
  have nrd0 : H rd = none := by
    cases e : H rd with
    | none => rfl
    | some o =>
      have e1 := s1 _ _ e
      rw [upd_ne (ne_of_none e1 nr), upd_ne (ne_of_none e1 nd), e1] at nrd
      cases nrd
  have hR2 : RdAt K H2 r p rd ts := ⟨dx, as, ts, 0, hr2, s2 _ _ hp, hT.same s2, rfl, hE, by omega⟩
  refine while_go (InvRd K E H (kRecs K H Q) a r p rd) (muRd rd) ⟨[], [], ts, ts.length + 1, rfl, s1.trans s2, hR2, hrd2, .nil, ⟨fun r hr => (by cases hr), fun r hr => (by cases hr), fun r hr => (by cases hr), fun r hr => (by cases hr)⟩, fun r hr => (by cases hr), by decide, hG, by omega, h⟩ ?_
  rintro σ H' ⟨kvs, rs, l', fu, rfl, sH, hR', hd', hS', hOk, hF, h6, hG', hfu, k⟩
  obtain ⟨fu, rfl⟩ : ∃ g, fu = g + 1 := ⟨fu - 1, by omega⟩
  rw [takeRecs_eq] at k
  obtain ⟨t0, lt0, rfl⟩ := hR'.cons
  obtain ⟨dx', i', h1'⟩ := hR'.ins
  have hkl : kvs.length = rs.length := paired_len hS'
  have rr : ∀ {Qv : VK}, ¬ (ValayBase.nextWord "record" (t0 :: lt0) = true ∧ Valaya.RECORDS ≤ rs.length) → OutF K E H (Except.bind (if ValayBase.nextWord "record" (t0 :: lt0) = true ∧ Valaya.RECORDS ≤ rs.length then .error ⟨4, ValayBase.here (t0 :: lt0)⟩ else (recTk rs (t0 :: lt0)).bind fun p => Valaya.takeRecs fu (rs ++ [p.1]) p.2) readG) (kRecs K H Q) →
      (∀ H3, (InvRd K E H (kRecs K H Q) a r p rd [some (.ref a), some (.ref r), none] H3 ∧ muRd rd [some (.ref a), some (.ref r), none] H3 < muRd rd [some (.ref a), some (.ref r), none] H') → Qv .non H3) → spReadRec K [.ref r] H' Qv E := fun {Qv} hn k q => by
    rw [if_neg hn, ebind_assoc] at k
    refine ⟨r, p, rd, t0 :: lt0, kvs, rs, 200 * rs.length, rfl, hR', hd', hS', h6, hOk, by omega, hG', ?_⟩
    cases er : recTk rs (t0 :: lt0) with
    | error f =>
      have kf := k.bad er
      exact fun d H4 b4 hd4 => kf d H4 (fun b o hb => b4 _ _ (sH _ _ hb) (ne_of_none hb nr0)) hd4
    | ok b =>
      have k := k.step er
      intro H3 kvs3 b3 hR3 hd3 hS3
      obtain ⟨hG3, hl3, hOk3⟩ := recTk_ok hOk hG' er
      obtain ⟨hf3, hw3⟩ := recTk_fine hOk hG' er
      have hlt : rs.length < 6 := by
        rcases Nat.lt_or_ge rs.length 6 with z | z
        · exact z
        · exact absurd ⟨hw3, z⟩ hn
      have e3 : kvs3.length = rs.length + 1 := by
        have := paired_len hS3
        rw [List.length_append, List.length_singleton] at this
        exact this
      refine q H3 ⟨⟨kvs3, rs ++ [b.1], b.2, fu, rfl, fun x o hx => b3 _ _ (sH _ _ hx) (ne_of_none hx nr0) (ne_of_none hx nrd0), hR3, hd3, hS3, ?_, fun x hx => ?_, ?_, hG3, ?_, k⟩, ?_⟩
      · rw [List.length_append, List.length_singleton]
        exact RsOk.mono hOk3 (by omega)
      · rcases List.mem_append.mp hx with z | z
        · exact hF x z
        · rw [List.mem_singleton.mp z]
          exact hf3
      · rw [List.length_append, List.length_singleton]
        omega
      · omega
      · rw [muRd_at hd3, muRd_at hd', e3, hkl]
        omega
  refine ⟨_, rfl, r, dx', _, _, rfl, h1', rfl, _, .inr (.inr ⟨_, hd', rfl⟩), ?_⟩
  have eE : kvs.isEmpty = rs.isEmpty := by
    cases hS' <;> rfl
  rw [eE]
  cases hE : rs.isEmpty with
  | true =>
    rw [hE, if_neg (fun z => by cases z.2)] at k
    refine if_t rfl ?_
    refine if_t rfl (turn_on ?_)
    refine ⟨_, rfl, r, dx', _, _, rfl, h1', rfl, rd, kvs, rfl, hd', rfl, _, rfl, ?_⟩
    rw [hkl]
    by_cases c6 : rs.length = 6
    · refine if_t (by rw [c6]; rfl) ⟨_, rfl, r, dx', _, rfl, h1', rfl, r, p, rd, t0, lt0, rfl, hR', fun ta hta => ?_⟩
      obtain ⟨da, hai⟩ := hta
      refine ⟨ta, da, _, _, rfl, hai, rfl, rfl, _, rfl, ?_⟩
      by_cases cw : ValayBase.tokEq t0.tok (.name (ValayBase.word "record")) = true
      · refine if_t (decide_eq_true (by rw [(kw_record t0.tok).mpr cw])) ?_
        refine ⟨_, rfl, r, dx', _, rfl, h1', rfl, r, p, rd, t0, lt0, rfl, hR', fun tb htb => ?_⟩
        obtain ⟨db, hbi⟩ := htb
        refine ⟨tb, db, _, _, rfl, hbi, rfl, rfl, by decide, ?_⟩
        have hw : ValayBase.nextWord "record" (t0 :: lt0) = true ∧ Valaya.RECORDS ≤ rs.length := ⟨cw, by rw [c6]; decide⟩
        rw [if_pos hw] at k
        exact fun d nd => (k : Falls K H E ⟨4, t0.place⟩) d _ (sH.trans (same_upd nd)) upd_same
      · refine if_f (decide_eq_false fun z => cw ((kw_record t0.tok).mp (V.str.inj z))) ?_
        exact fn1 rfl (rr (fun z => cw z.1) k fun H3 z => z)
    · refine if_f (decide_eq_false fun z => c6 (by have := V.int.inj z; omega)) ?_
      exact fn1 rfl (rr (fun z => c6 (by have := z.2; unfold Valaya.RECORDS at this; omega)) k fun H3 z => z)
  | false =>
    rw [hE] at k
    refine if_f rfl ⟨_, rfl, r, dx', _, rfl, h1', rfl, r, p, rd, t0, lt0, rfl, hR', fun tz htz => ?_⟩
    obtain ⟨dz, hzi⟩ := htz
    refine ⟨tz, dz, _, _, rfl, hzi, rfl, rfl, _, rfl, ?_⟩
    by_cases cl : isLast t0.tok = true
    · rw [if_pos ⟨isLast_next.trans cl, rfl⟩] at k
      refine if_f (by rw [(kind_last t0.tok).mpr cl]; simp) ?_
      have k : OutF K E H (readG rs) (kRecs K H Q) := k
      refine ⟨_, rfl, r, dx', _, _, rfl, h1', rfl, rd, kvs, rfl, hd', fun q nq => ?_⟩
      obtain ⟨las, eas, L⟩ := recs_list hS'
      rw [eas]
      have s4 : Same H' (upd H' q (.lst (las.map V.ref))) := same_upd nq
      have hq4 : (upd H' q (.lst (las.map V.ref))) q = some (.lst (las.map V.ref)) := upd_same
      have L4 : RecL K (upd H' q (.lst (las.map V.ref))) las rs := paired_mono (fun _ _ z => RecAt.keeps (same_keeps s4) z) L
      have nq0 : H q = none := by
        cases e : H q with
        | none => rfl
        | some o =>
          have := sH _ _ e
          rw [nq] at this
          cases this
      generalize upd H' q (.lst (las.map V.ref)) = H4 at *
      refine ⟨_, rfl, q, las, rs, rfl, hq4, L4, hF, h6, fun H5 s5 => ⟨_, rfl, ?_, _, _, rfl, rfl, _, rfl, ?_⟩⟩
      · rw [strB_length, sizeLine_eq]
        have := form_small hF
        omega
      rw [strB_length]
      unfold readG at k
      by_cases c9 : ValayBase.TEXT < (rs.flatMap Valaya.shownRec).length
      · rw [if_pos c9] at k
        have c9' : 4096 < (rs.flatMap Valaya.shownRec).length := c9
        refine if_t (decide_eq_true (by omega)) ⟨rfl, by decide, fun d nd => ?_⟩
        exact (k : Falls K H E ⟨16, 0⟩) d _ ((sH.trans (s4.trans s5)).trans (same_upd nd)) upd_same
      · rw [if_neg c9] at k
        have c9' : ¬ 4096 < (rs.flatMap Valaya.shownRec).length := c9
        refine if_f (decide_eq_false (by omega)) ⟨_, rfl, ?_⟩
        refine k ⟨RsOk.mono hOk (by omega), hF, ?_, h6⟩ q las H5 nq0 (sH.trans (s4.trans s5)) (s5 _ _ hq4) (paired_mono (fun _ _ z => RecAt.keeps (same_keeps s5) z) L4)
        cases rs with
        | nil => cases hE
        | cons _ _ => simp
    · rw [if_neg (fun z => cl (isLast_next.symm.trans z.1))] at k
      refine if_t (by
        rw [Bool.eq_iff_iff]
        simpa using fun z => cl ((kind_last t0.tok).mp z)) ?_
      refine turn_on ?_
      refine ⟨_, rfl, r, dx', _, _, rfl, h1', rfl, rd, kvs, rfl, hd', rfl, _, rfl, ?_⟩
      rw [hkl]
      by_cases c6 : rs.length = 6
      · refine if_t (by rw [c6]; rfl) ⟨_, rfl, r, dx', _, rfl, h1', rfl, r, p, rd, t0, lt0, rfl, hR', fun ta hta => ?_⟩
        obtain ⟨da, hai⟩ := hta
        refine ⟨ta, da, _, _, rfl, hai, rfl, rfl, _, rfl, ?_⟩
        by_cases cw : ValayBase.tokEq t0.tok (.name (ValayBase.word "record")) = true
        · refine if_t (decide_eq_true (by rw [(kw_record t0.tok).mpr cw])) ?_
          refine ⟨_, rfl, r, dx', _, rfl, h1', rfl, r, p, rd, t0, lt0, rfl, hR', fun tb htb => ?_⟩
          obtain ⟨db, hbi⟩ := htb
          refine ⟨tb, db, _, _, rfl, hbi, rfl, rfl, by decide, ?_⟩
          have hw : ValayBase.nextWord "record" (t0 :: lt0) = true ∧ Valaya.RECORDS ≤ rs.length := ⟨cw, by rw [c6]; decide⟩
          rw [if_pos hw] at k
          exact fun d nd => (k : Falls K H E ⟨4, t0.place⟩) d _ (sH.trans (same_upd nd)) upd_same
        · refine if_f (decide_eq_false fun z => cw ((kw_record t0.tok).mp (V.str.inj z))) ?_
          exact fn1 rfl (rr (fun z => cw z.1) k fun H3 z => z)
      · refine if_f (decide_eq_false fun z => c6 (by have := V.int.inj z; omega)) ?_
        exact fn1 rfl (rr (fun z => c6 (by have := z.2; unfold Valaya.RECORDS at this; omega)) k fun H3 z => z)
end
end Lv
set_option linter.all false
namespace Lv
open ValayBase Valaya
/-- guards speak of leaves that stand ahead -/
def Ahead : Nat → List Leaf → Prop
  | _, [] => True
  | k, f :: r => Below f.guards k ∧ Ahead (k + 1) r
theorem ahead_append : ∀ (a b : List Leaf) (k : Nat), Ahead k a → Ahead (k + a.length) b → Ahead k (a ++ b)
  | [], b, k, _, h => h
  | f :: a, b, k, h, h2 => ⟨h.1, ahead_append a b (k + 1) h.2 (by rw [List.length_cons] at h2; rw [show k + 1 + a.length = k + (a.length + 1) by omega]; exact h2)⟩
theorem ahead_at : ∀ {fs : List Leaf} {k i : Nat} {f : Leaf}, Ahead k fs → fs[i]? = some f → Below f.guards (k + i)
  | f :: r, k, 0, f', h, e => by
    cases e
    exact h.1
  | f :: r, k, i + 1, f', h, e => by
    have := ahead_at (i := i) h.2 e
    rwa [show k + 1 + i = k + (i + 1) by omega] at this
theorem ahead_by : ∀ (t : Ty) (k : Nat) (x : Bytes) (h : Nat) (g : List (Nat × Nat)) (alt : Option (Nat × Nat)), Below g k → (∀ a, alt = some a → a.1 < k) → Ahead k (leavesBy t k x h g alt) := by
  intro t
  induction t with
  | num a b c =>
    intro k x h g alt hg ha
    exact ⟨hg, trivial⟩
  | maybe t ih =>
    intro k x h g alt hg ha
    exact ⟨hg, ih _ _ _ _ _ ((hg.mono (Nat.le_succ k)).snoc k 1 (Nat.lt_succ_self k)) (fun a e => by cases e)⟩
  | many n t ih =>
    intro k x h g alt hg ha
    simp only [leavesBy]
    have : ∀ n, Ahead k ((List.range n).flatMap fun i => leavesBy t (k + i * countLeaves t) (dotted x (showNat i)) h g none) ∧ ((List.range n).flatMap fun i => leavesBy t (k + i * countLeaves t) (dotted x (showNat i)) h g none).length = n * countLeaves t := by
      intro n
      induction n with
      | zero => exact ⟨trivial, by simp⟩
      | succ n ihn =>
        rw [List.range_succ, List.flatMap_append]
        refine ⟨ahead_append _ _ _ ihn.1 ?_, ?_⟩
        · rw [ihn.2]
          simp only [List.flatMap_cons, List.flatMap_nil, List.append_nil]
          exact ih _ _ _ _ _ (hg.mono (Nat.le_add_right _ _)) (fun a e => by cases e)
        · rw [List.length_append, ihn.2]
          simp only [List.flatMap_cons, List.flatMap_nil, List.append_nil]
          rw [leaves_length, Nat.succ_mul]
    exact (this n).1
  | rec_ fs ih => intro k x h g alt hg ha; exact ih _ _ _ _ _ hg (fun a e => by cases e)
  | named n t ih => intro k x h g alt hg ha; exact ih _ _ _ _ _ hg (fun a e => by cases e)
  | one_ fs ih =>
    intro k x h g alt hg ha
    exact ⟨hg, ih _ _ _ _ _ (hg.mono (Nat.le_succ k)) (fun a e => by cases e; exact Nat.lt_succ_self k)⟩
  | nil => intro k x h g alt hg ha; trivial
  | field z f t r iht ihr =>
    intro k x h g alt hg ha
    cases alt with
    | none =>
      simp only [leavesBy]
      refine ahead_append _ _ _ (iht _ _ _ _ _ hg (fun a e => by cases e)) ?_
      rw [leaves_length]
      exact ihr _ _ _ _ _ (hg.mono (Nat.le_add_right _ _)) (fun a e => by cases e)
    | some a =>
      simp only [leavesBy]
      have hak := ha a rfl
      refine ahead_append _ _ _ (iht _ _ _ _ _ (hg.snoc a.1 a.2 hak) (fun a e => by cases e)) ?_
      rw [leaves_length]
      exact ihr _ _ _ _ _ (hg.mono (Nat.le_add_right _ _)) (fun b e => by cases e; exact Nat.lt_of_lt_of_le hak (Nat.le_add_right _ _))
theorem ahead_of (t : Ty) : Ahead 0 (leavesOf t) := ahead_by t 0 [] 1 [] none (fun p hp => by cases hp) (fun a e => by cases e)
end Lv
set_option Elab.async false
set_option linter.all false
set_option maxRecDepth 100000
set_option maxHeartbeats 4000000
namespace Lv
open PySem PySem.Spec PyProof.Rows L2 TL
open Valaya (Ty Rec Leaf)
/-- a refusal of this class, with its number -/
def Ref_ (K : PySem.W.Frag) (H : Hp) (E : XK) (x : Str) (n : Int) : Prop := ∀ (d : Addr) (H' : Hp), Same H H' → H' d = some (.xd (gNo n [])) → E (.ref (He.ga K x)) (some d) H'
section
variable {P : Program} {w : World} {K : PySem.W.Frag} {mg : Str → Option Value} {base : Heap}
theorem Ref_.same {H H1 : Hp} {E : XK} {x : Str} {n : Int} (h : Ref_ K H E x n) (s : Same H H1) : Ref_ K H1 E x n := fun d H' s' hd => h d H' (s.trans s') hd
theorem ref_at {H : Hp} {E : XK} {x : Str} {n : Int} (h : Ref_ K H E x n) (d : Addr) (nd : H d = none) : E (.ref (He.ga K x)) (some d) (upd H d (.xd (gNo n []))) := h d _ (same_upd nd) upd_same
theorem ix_listK {X : Cx} {K : PySem.W.Frag} (h : X.K = K) : IxR X (rIxL K) := by
  subst h
  exact ix_list
def spThere (K : PySem.W.Frag) : Sp := fun vs H Q _ => ∃ (a cl : Addr) (f : Leaf) (cs : List Int), vs = [.ref a, .ref cl] ∧ LeafAt K H a f ∧ H cl = some (.lst (cs.map V.int)) ∧ Below f.guards cs.length ∧ f.guards.length ≤ 5000 ∧ ∀ H', Same H H' → Q (.bl (holds cs f.guards)) H'
theorem ok_is_there (T : Txt K mg) : FnAt P w K mg base CX0 1 "is_there" ["leaf", "codes"] (spThere K) := by
  refine T.d_is_there.ok sc_is_there (fun vs H Q E h => by obtain ⟨a, cl, f, cs, rfl, _⟩ := h; rfl) fun f cdv A outer s H vs Q E hr h => ?_
  obtain ⟨a, cl, f, cs, rfl, ⟨g0, ⟨dx, h1⟩, h2⟩, hc, hB, hz, q⟩ := h
  obtain ⟨as, k1, k2, k3⟩ := guards_len h2
  refine ⟨_, (pss_one (ps_ret (pe_callB (cr_all rfl) (by rfl) T.f_all (by decide +kernel) (pa_cons (by exact (pe_lc (own := [("tag", 2), ("code", 3)]) (g := (gTup K 2 (gCons (gName 2) (gCons (gName 3) gNil)))) (tt := tYes) (by rfl) sc_is_there.nd (pi_tup (pe_fl T.c_Leaf T.na_Leaf_guards (pv 0))) (blkOk_by (own := [("tag", 2), ("code", 3)]) (N := ["leaf", "codes", "tag", "code"]) (sc := defScope s_is_there) (by decide +kernel)) (fun _ _ _ _ _ => by exact (pg_tup rfl (pgs_cons (pg_name (i := 2) sc_is_there.nd rfl (Or.inl rfl)) (pgs_cons (pg_name (i := 3) sc_is_there.nd rfl (Or.inl rfl)) pgs_nil)))) (fun _ _ _ _ _ => pts_nil) (fun _ _ _ _ _ => by exact (pe_cmpR op_eq (pe_ix (ix_listK (K := K) rfl) (pv 1) (pv 2) (fun _ _ => rfl)) (pv 3) (nomark _))))) pa_nil)))), ?_⟩
  refine ⟨_, rfl, a, dx, _, _, rfl, h1, rfl, g0, rfl, ⟨_, k1⟩, fun D nD => ?_⟩
  refine lc_tup (K := K) (a := g0) (xs := as.map V.ref) (fun i H' => Same H H' ∧ H' D = some (.lst (((f.guards.take i).map fun p => decide (cs[p.1]? = some (p.2 : Int))).map V.bl))) ⟨same_upd nD, upd_same⟩ (fun i H' _ z => SqT.same z.1 k1) ?_ ?_
  · rintro i y H' hy ⟨s1, hD⟩
    obtain ⟨b, hb, rfl⟩ := ref_item hy
    obtain ⟨p, hp, hpa⟩ := paired_at k2 hb
    have hpb : H' b = some (.tup [.int p.1, .int p.2]) := s1 _ _ hpa
    have hlt := hB p (List.mem_of_getElem? hp)
    refine ⟨b, _, rfl, SqT.of hpb, rfl, _, _, rfl, _, _, rfl, rfl, rfl, ?_⟩
    refine ⟨_, rfl, _, rfl, cl, _, _, _, rfl, rfl, SqL.of (s1 _ _ hc), atI_nat (v := V.int cs[p.1]) (by rw [List.getElem?_map, List.getElem?_eq_getElem hlt]; rfl), _, rfl, rfl, _, hD, ?_, ?_⟩
    · rw [List.length_map, List.length_map, List.length_take, sizeLine_eq]
      omega
    · refine ⟨same_lst nD s1, ?_⟩
      rw [upd_same, ← take_snoc hp, List.map_append, List.map_append]
      have e : (decide (V.int cs[p.1] = V.int (p.2 : Int))) = decide (cs[p.1]? = some (p.2 : Int)) := by
        rw [List.getElem?_eq_getElem hlt, Bool.eq_iff_iff, decide_eq_true_iff, decide_eq_true_iff, V.int.injEq, Option.some.injEq]
      rw [e]
      rfl
  · rintro H1 ⟨s1, hD⟩
    rw [List.length_map, k3, List.take_length] at hD
    refine ⟨D, _, rfl, SqL.of hD, ?_⟩
    have := q H1 s1
    unfold holds at this
    rw [List.all_map]
    exact this
/-! ### the codes of a value -/
def codesIn (fs : List Leaf) (v : List Int) : Option (List Int) := (codeFold fs ([], v)).bind fun s => if s.2.isEmpty = true then some s.1 else none
def OutO (K : PySem.W.Frag) (H : Hp) (E : XK) (x : Str) (n : Int) {B : Type} (o : Option B) (k : B → Prop) : Prop := match o with
  | none => Ref_ K H E x n
  | some b => k b
def kList (H : Hp) (Q : VK) (cs : List Int) : Prop := ∀ (p : Addr) (H' : Hp), H p = none → Same H H' → H' p = some (.lst (cs.map V.int)) → Q (.ref p) H'
def spCodes (K : PySem.W.Frag) : Sp := fun vs H Q E => ∃ (lv vl : Addr) (ls : List Addr) (fs : List Leaf) (v : List Int), vs = [.ref lv, .ref vl] ∧ H lv = some (.lst (ls.map V.ref)) ∧ LeafL K H ls fs ∧ Ahead 0 fs ∧ (∀ f ∈ fs, f.guards.length ≤ 5000) ∧ fs.length ≤ 1000 ∧ SqL K H vl (v.map V.int) ∧ OutO K H E "NoValue" (-4) (codesIn fs v) (kList H Q)
theorem step_none {fs : List Leaf} {i : Nat} {f : Leaf} {v : List Int} {s : List Int × List Int} (h : codeFold (fs.take i) ([], v) = some s) (hf : fs[i]? = some f) (hs : codeStep f s = none) : codesIn fs v = none := by
  unfold codesIn
  have e : fs = fs.take i ++ (f :: fs.drop (i + 1)) := by
    have hi := (List.getElem?_eq_some_iff.mp hf).1
    have e2 := (List.getElem?_eq_some_iff.mp hf).2
    rw [← e2, ← List.drop_eq_getElem_cons hi, List.take_append_drop]
  rw [e, codeFold_append, h]
  show (((codeStep f s).bind (codeFold _)).bind _) = none
  rw [hs]
  rfl
theorem step_some {fs : List Leaf} {i : Nat} {f : Leaf} {v : List Int} {s s' : List Int × List Int} (h : codeFold (fs.take i) ([], v) = some s) (hf : fs[i]? = some f) (hs : codeStep f s = some s') : codeFold (fs.take (i + 1)) ([], v) = some s' := by
  rw [← take_snoc hf, codeFold_append, h]
  show ((codeStep f s).bind (codeFold [])) = some s'
  rw [hs]
  rfl
theorem ok_codes_of (T : Txt K mg) : FnAt P w K mg base (L2.CX P w) 4 "codes_of" ["leaves", "value"] (spCodes K) := by
  have G_NoValue := ok_NoValue (P := P) (w := w) (base := base) T
  have G_is_there := ok_is_there (P := P) (w := w) (base := base) T
  refine T.d_codes_of.okX sc_codes_of (fun vs H Q E h => by obtain ⟨lv, vl, ls, fs, v, rfl, _⟩ := h; rfl) fun f cdv A outer s H vs Q E hr h tk => ?_
  obtain ⟨lv, vl, ls, fs, v, rfl, hl, hL, hA, hg, hn, hv, h⟩ := h
  refine ⟨_, (pss_cons (ps_set (i := 2) sc_codes_of.nd rfl (Or.inl rfl) (pe_lst pa_nil))
  (pss_cons (ps_set (i := 3) sc_codes_of.nd rfl (Or.inl rfl) pe_int)
  (pss_cons (ps_for (passes_of rfl) rfl (pi_list (pv 0)) (pg_name (i := 4) sc_codes_of.nd rfl (Or.inl rfl)) (pss_cons (ps_if (pt_not (pt_val (pe_fn G_is_there hr (by first | decide | omega) (pa_cons (pv 4) (pa_cons (pv 2) pa_nil))))) (pss_cons (ps_expr (pe_bm PySem.F.plainAttrs_list PySem.F.slot_list_append PySem.F.type_list_append mt_append (pv 2) (pa_cons (pe_un un_neg pe_int) pa_nil)))
  (pss_one ps_continue)) pss_nil)
  (pss_cons (ps_if (PW.pt (pw_or (pt_cmpR op_eq (pv 3) (pe_callB call_len_seq (by rfl) T.f_len PySem.boot_len (pa_cons (pv 1) pa_nil)) (nomark _)) (pw_or1 (pt_not (pt_chain op_le op_le (pe_fl T.c_Leaf T.na_Leaf_least (pv 4)) (pe_ix ix_list (pv 1) (pv 3) (fun _ _ => rfl)) (pe_fl T.c_Leaf T.na_Leaf_greatest (pv 4))))))) (pss_one (ps_raise rfl tk (pmk_rz0 G_NoValue hr (by first | decide | omega)))) pss_nil)
  (pss_cons (ps_expr (pe_bm PySem.F.plainAttrs_list PySem.F.slot_list_append PySem.F.type_list_append mt_append (pv 2) (pa_cons (pe_op op_sub (pe_ix ix_list (pv 1) (pv 3) (fun _ _ => rfl)) (pe_fl T.c_Leaf T.na_Leaf_least (pv 4))) pa_nil)))
  (pss_one (ps_aug (i := 3) sc_codes_of.nd rfl (Or.inl rfl) pe_int ip_add))))))
  (pss_cons (ps_if (pt_cmpR op_lt (pv 3) (pe_callB call_len_seq (by rfl) T.f_len PySem.boot_len (pa_cons (pv 1) pa_nil)) (nomark _)) (pss_one (ps_raise rfl tk (pmk_rz0 G_NoValue hr (by first | decide | omega)))) pss_nil)
  (pss_one (ps_ret (pv 2))))))), ?_⟩
  refine ⟨by decide, fun D nD => ?_⟩
  have s1 : Same H (upd H D (.lst [])) := same_upd nD
  refine ⟨_, rfl, lv, rfl, ⟨_, SqL.of (s1 _ _ hl)⟩, for_list (K := K) (a := lv) (xs := ls.map V.ref) (fun i σ H' => ∃ (x : Option V) (cs : List Int) (u : Nat), σ = [some (.ref lv), some (.ref vl), some (.ref D), some (.int u), x] ∧ Same H H' ∧ H' D = some (.lst (cs.map V.int)) ∧ cs.length = i ∧ u ≤ v.length ∧ codeFold (fs.take i) ([], v) = some (cs, v.drop u))
    ⟨none, [], 0, rfl, s1, upd_same, rfl, Nat.zero_le _, rfl⟩ (fun i σ H' _ z => by obtain ⟨x, cs, u, _, s2, _⟩ := z; exact SqL.of (s2 _ _ hl)) ?_ ?_⟩
  · rintro i y σ H' hy ⟨x, cs, u, rfl, s2, hD, hci, hu', hcf⟩
    obtain ⟨b, hb, rfl⟩ := ref_item hy
    obtain ⟨f, hf, hfa⟩ := paired_at hL hb
    have hfa2 : LeafAt K H' b f := hfa.keeps (same_keeps s2)
    have hBf : Below f.guards cs.length := by
      have := ahead_at hA hf
      rwa [Nat.zero_add, ← hci] at this
    have hi : i < fs.length := (List.getElem?_eq_some_iff.mp hf).1
    have hDz : (cs.map V.int).length < sizeLine := by
      rw [List.length_map, sizeLine_eq]
      omega
    refine ⟨_, rfl, _, rfl, b, D, f, cs, rfl, hfa2, hD, hBf, hg f (List.mem_of_getElem? hf), fun H2 s3 => ⟨_, rfl, ?_⟩⟩
    have s4 := s2.trans s3
    have hD2 := s3 _ _ hD
    cases ht : holds cs f.guards with
    | false =>
      refine if_t rfl ?_
      refine ⟨_, rfl, .inl ⟨rfl, _, SqL.of hD2⟩, _, rfl, D, _, _, rfl, rfl, hD2, hDz, ?_⟩
      refine ⟨_, cs ++ [-1], u, rfl, same_lst nD s4, ?_, by rw [List.length_append, List.length_singleton, hci], hu', step_some hcf hf ?_⟩
      · rw [upd_same, List.map_append]
        rfl
      · unfold codeStep
        rw [if_neg (by rw [ht]; decide)]
    | true =>
      refine if_f rfl ?_
      obtain ⟨gf, ⟨db, hbi⟩, _⟩ := hfa2.keeps (same_keeps s3)
      refine ⟨_, rfl, _, rfl, vl, _, rfl, .inl (s4.seq hv), rfl, _, rfl, ?_⟩
      rw [List.length_map]
      by_cases cu : u = v.length
      · refine if_t (by rw [cu]; simp) ?_
        have hno := step_none hcf hf (by
          unfold codeStep
          rw [if_pos ht, cu, List.drop_length])
        rw [hno] at h
        exact ref_at (Ref_.same (K := K) h s4)
      · refine if_f (decide_eq_false fun z => cu (by have := V.int.inj z; omega)) ?_
        have hlt : u < v.length := by omega
        have hix : (v.map V.int)[u]? = some (V.int v[u]) := by rw [List.getElem?_map, List.getElem?_eq_getElem hlt]; rfl
        have edr : v.drop u = v[u] :: v.drop (u + 1) := List.drop_eq_getElem_cons hlt
        refine ⟨_, rfl, b, db, _, _, rfl, hbi, rfl, _, rfl, _, rfl, vl, _, _, _, rfl, rfl, s4.seq hv, atI_nat hix, _, _, rfl, rfl, _, rfl, ?_⟩
        by_cases c1 : f.lo ≤ v[u]
        · refine if_t (decide_eq_true c1) ⟨_, rfl, b, db, _, _, rfl, hbi, rfl, _, _, rfl, rfl, _, rfl, ?_⟩
          by_cases c2 : v[u] ≤ f.hi
          · refine if_f (by rw [decide_eq_true c2]; rfl) ?_
            refine ⟨_, rfl, .inl ⟨rfl, _, SqL.of hD2⟩, _, rfl, _, rfl, vl, _, _, _, rfl, rfl, s4.seq hv, atI_nat hix, _, rfl, b, db, _, _, rfl, hbi, rfl, _, _, rfl, rfl, D, _, _, rfl, rfl, hD2, hDz, ?_⟩
            refine ⟨_, rfl, _, _, rfl, rfl, ?_⟩
            refine ⟨_, cs ++ [v[u] - f.lo], u + 1, rfl, same_lst nD s4, ?_, by rw [List.length_append, List.length_singleton, hci], by omega, step_some hcf hf ?_⟩
            · rw [upd_same, List.map_append]
              rfl
            · unfold codeStep
              rw [if_pos ht, edr]
              show (if f.lo ≤ v[u] ∧ v[u] ≤ f.hi then _ else _) = _
              rw [if_pos ⟨c1, c2⟩]
          · refine if_t (by rw [decide_eq_false c2]; rfl) ?_
            have hno := step_none hcf hf (by
              unfold codeStep
              rw [if_pos ht, edr]
              show (if f.lo ≤ v[u] ∧ v[u] ≤ f.hi then _ else _) = _
              rw [if_neg fun z => c2 z.2])
            rw [hno] at h
            exact ref_at (Ref_.same (K := K) h s4)
        · refine if_f (decide_eq_false c1) ?_
          have hno := step_none hcf hf (by
            unfold codeStep
            rw [if_pos ht, edr]
            show (if f.lo ≤ v[u] ∧ v[u] ≤ f.hi then _ else _) = _
            rw [if_neg fun z => c1 z.1])
          rw [hno] at h
          exact ⟨_, rfl, if_t rfl (ref_at (Ref_.same (K := K) h s4))⟩
  · rintro σ H' ⟨x, cs, u, rfl, s2, hD, hci, hu', hcf⟩
    rw [List.length_map, paired_len hL, List.take_length] at hcf
    refine ⟨_, rfl, _, rfl, vl, _, rfl, .inl (s2.seq hv), _, _, rfl, rfl, _, rfl, ?_⟩
    rw [List.length_map]
    unfold codesIn at h
    rw [hcf] at h
    by_cases cu : u < v.length
    · refine if_t (decide_eq_true (by omega)) ?_
      have h : OutO K H E "NoValue" (-4) (if (v.drop u).isEmpty = true then some cs else none) (kList H Q) := h
      rw [if_neg (by simp; omega)] at h
      exact ref_at (Ref_.same (K := K) h s2)
    · refine if_f (decide_eq_false (by omega)) ⟨_, rfl, ?_⟩
      have h : OutO K H E "NoValue" (-4) (if (v.drop u).isEmpty = true then some cs else none) (kList H Q) := h
      rw [if_pos (by simp; omega)] at h
      exact h D H' nD s2 hD
end
end Lv
set_option Elab.async false
set_option linter.all false
set_option maxRecDepth 100000
set_option maxHeartbeats 4000000
namespace Lv
open PySem PySem.Spec PyProof.Rows L2 TL
open Valaya (Ty Rec Leaf)
/-! ### a value back from its codes: step by step -/
theorem backFold_append : ∀ (a b : List Leaf) (c d : List Int) (s : List Int × List Int), a.length = c.length → backFold (a ++ b) (c ++ d) s = (backFold a c s).bind (backFold b d)
  | [], b, [], d, s, _ => rfl
  | [], _, _ :: _, _, _, h => by cases h
  | _ :: _, _, [], _, _, h => by cases h
  | f :: a, b, x :: c, d, s, h => by
    show (backStep f x s).bind (backFold (a ++ b) (c ++ d)) = ((backStep f x s).bind (backFold a c)).bind (backFold b d)
    cases backStep f x s with
    | none => rfl
    | some s1 => exact backFold_append a b c d s1 (Nat.succ.inj h)
theorem backFold_length : ∀ {fs : List Leaf} {cs : List Int} {s s' : List Int × List Int}, backFold fs cs s = some s' → fs.length = cs.length
  | [], [], _, _, _ => rfl
  | [], _ :: _, _, _, h => by cases h
  | _ :: _, [], _, _, h => by cases h
  | f :: fs, x :: cs, s, s', h => by
    have h : (backStep f x s).bind (backFold fs cs) = some s' := h
    obtain ⟨s1, _, h⟩ := Option.bind_eq_some_iff.mp h
    rw [List.length_cons, List.length_cons, backFold_length h]
theorem back_some {fs : List Leaf} {cs : List Int} {i : Nat} {f : Leaf} {c : Int} {s s' : List Int × List Int} (hl : fs.length = cs.length) (h : backFold (fs.take i) (cs.take i) ([], []) = some s) (hf : fs[i]? = some f) (hc : cs[i]? = some c) (hs : backStep f c s = some s') : backFold (fs.take (i + 1)) (cs.take (i + 1)) ([], []) = some s' := by
  rw [← take_snoc hf, ← take_snoc hc, backFold_append _ _ _ _ _ (by rw [List.length_take, List.length_take, hl]), h]
  show ((backStep f c s).bind (backFold [] [])) = some s'
  rw [hs]
  rfl
theorem back_none {fs : List Leaf} {cs : List Int} {i : Nat} {f : Leaf} {c : Int} {s : List Int × List Int} (hl : fs.length = cs.length) (h : backFold (fs.take i) (cs.take i) ([], []) = some s) (hf : fs[i]? = some f) (hc : cs[i]? = some c) (hs : backStep f c s = none) : backFold fs cs ([], []) = none := by
  have e1 : fs = fs.take i ++ (f :: fs.drop (i + 1)) := by
    have hi := (List.getElem?_eq_some_iff.mp hf).1
    have e2 := (List.getElem?_eq_some_iff.mp hf).2
    rw [← e2, ← List.drop_eq_getElem_cons hi, List.take_append_drop]
  have e2 : cs = cs.take i ++ (c :: cs.drop (i + 1)) := by
    have hi := (List.getElem?_eq_some_iff.mp hc).1
    have e2 := (List.getElem?_eq_some_iff.mp hc).2
    rw [← e2, ← List.drop_eq_getElem_cons hi, List.take_append_drop]
  have e3 : backFold fs cs ([], []) = backFold (fs.take i ++ (f :: fs.drop (i + 1))) (cs.take i ++ (c :: cs.drop (i + 1))) ([], []) := by rw [← e1, ← e2]
  rw [e3, backFold_append _ _ _ _ _ (by rw [List.length_take, List.length_take, hl]), h]
  show ((backStep f c s).bind (backFold _ _)) = none
  rw [hs]
  rfl
def backIn (fs : List Leaf) (cs : List Int) : Option (List Int) := (backFold fs cs ([], [])).map (·.2)
section
variable {P : Program} {w : World} {K : PySem.W.Frag} {mg : Str → Option Value} {base : Heap}
def spValueOf (K : PySem.W.Frag) : Sp := fun vs H Q E => ∃ (lv cl : Addr) (ls : List Addr) (fs : List Leaf) (cs : List Int), vs = [.ref lv, .ref cl] ∧ H lv = some (.lst (ls.map V.ref)) ∧ LeafL K H ls fs ∧ Ahead 0 fs ∧ (∀ f ∈ fs, f.guards.length ≤ 5000) ∧ fs.length ≤ 1000 ∧ H cl = some (.lst (cs.map V.int)) ∧ OutO K H E "NoValue" (-4) (backIn fs cs) (kList H Q)
theorem ok_value_of (T : Txt K mg) : FnAt P w K mg base (L2.CX P w) 4 "value_of" ["leaves", "codes"] (spValueOf K) := by
  have G_NoValue := ok_NoValue (P := P) (w := w) (base := base) T
  have G_is_there := ok_is_there (P := P) (w := w) (base := base) T
  have G_Leaf_greatest_code := ok_Leaf_greatest_code (P := P) (w := w) (base := base) T
  refine T.d_value_of.okX sc_value_of (fun vs H Q E h => by obtain ⟨lv, vl, ls, fs, v, rfl, _⟩ := h; rfl) fun f cdv A outer s H vs Q E hr h tk => ?_
  obtain ⟨lv, cl, ls, fs, cs, rfl, hl, hL, hA, hg, hn, hc, h⟩ := h
  have hll : ls.length = fs.length := paired_len hL
  refine ⟨_, (pss_cons (ps_if (pt_cmpR op_ne (pe_callB call_len_seq (by rfl) T.f_len PySem.boot_len (pa_cons (pv 1) pa_nil)) (pe_callB call_len_seq (by rfl) T.f_len PySem.boot_len (pa_cons (pv 0) pa_nil)) (nomark _)) (pss_one (ps_raise rfl tk (pmk_rz0 G_NoValue hr (by first | decide | omega)))) pss_nil)
  (pss_cons (ps_set (i := 2) sc_value_of.nd rfl (Or.inl rfl) (pe_lst pa_nil))
  (pss_cons (ps_for (passes_of rfl) rfl (pi_zip (by rfl) T.f_zip (pa_cons (pv 0) (pa_cons (pv 1) pa_nil))) (pg_tup rfl (pgs_cons (pg_name (i := 3) sc_value_of.nd rfl (Or.inl rfl)) (pgs_cons (pg_name (i := 4) sc_value_of.nd rfl (Or.inl rfl)) pgs_nil))) (pss_one (ps_if (pt_not (pt_val (pe_fn G_is_there hr (by first | decide | omega) (pa_cons (pv 3) (pa_cons (pv 1) pa_nil))))) (pss_one (ps_if (pt_cmpR op_ne (pv 4) (pe_un un_neg pe_int) (nomark _)) (pss_one (ps_raise rfl tk (pmk_rz0 G_NoValue hr (by first | decide | omega)))) pss_nil)) (pss_one (ps_if (pt_chain op_le op_le pe_int (pv 4) (pe_me0 (pv 3) G_Leaf_greatest_code hr (by first | decide | omega))) (pss_one (ps_expr (pe_bm PySem.F.plainAttrs_list PySem.F.slot_list_append PySem.F.type_list_append mt_append (pv 2) (pa_cons (pe_op op_add (pe_fl T.c_Leaf T.na_Leaf_least (pv 3)) (pv 4)) pa_nil)))) (pss_one (ps_raise rfl tk (pmk_rz0 G_NoValue hr (by first | decide | omega)))))))))
  (pss_one (ps_ret (pv 2)))))), ?_⟩
  refine ⟨_, rfl, cl, _, rfl, .inl (SqL.of hc), _, rfl, lv, _, rfl, .inl (SqL.of hl), rfl, _, rfl, ?_⟩
  rw [List.length_map, List.length_map]
  by_cases ce : cs.length = ls.length
  case neg =>
    refine if_t (by simp; omega) ?_
    have hno : backIn fs cs = none := by
      unfold backIn
      cases e : backFold fs cs ([], []) with
      | none => rfl
      | some s' => exact absurd (backFold_length e) (by omega)
    rw [hno] at h
    exact ref_at (K := K) h
  refine if_f (by simp; omega) ?_
  have hfc : fs.length = cs.length := by omega
  refine ⟨by decide, fun D nD => ?_⟩
  have s1 : Same H (upd H D (.lst [])) := same_upd nD
  refine ⟨_, rfl, _, rfl, lv, cl, _, _, rfl, SqL.of (s1 _ _ hl), SqL.of (s1 _ _ hc), RZ.for_zipL (K := K) (a := lv) (b := cl) (xs := ls.map V.ref) (ys := cs.map V.int) (by rw [List.length_map, List.length_map, ce])
    (fun i σ H' => ∃ (x y : Option V) (vs : List Int), σ = [some (.ref lv), some (.ref cl), some (.ref D), x, y] ∧ Same H H' ∧ H' D = some (.lst (vs.map V.int)) ∧ vs.length ≤ i ∧ i ≤ fs.length ∧ backFold (fs.take i) (cs.take i) ([], []) = some (cs.take i, vs))
    ⟨none, none, [], rfl, s1, upd_same, Nat.le_refl _, Nat.zero_le _, rfl⟩ (fun i σ H' z => by obtain ⟨x, y, vs, _, s2, _⟩ := z; exact ⟨SqL.of (s2 _ _ hl), SqL.of (s2 _ _ hc)⟩) ?_ ?_⟩
  · rintro i y0 z0 tp σ H' hy hz ⟨x, y, vs, rfl, s2, hD, hvi, hif, hbf⟩ ntp
    obtain ⟨b, hb, rfl⟩ := ref_item hy
    obtain ⟨f, hf, hfa⟩ := paired_at hL hb
    obtain ⟨c, hci, rfl⟩ : ∃ c, cs[i]? = some c ∧ z0 = V.int c := by
      rw [List.getElem?_map] at hz
      cases e : cs[i]? with
      | none =>
        rw [e] at hz
        cases hz
      | some c =>
        rw [e] at hz
        exact ⟨c, rfl, (Option.some.inj hz).symm⟩
    have s3 : Same H' (upd H' tp (.tup [.ref b, .int c])) := same_upd ntp
    have htp : (upd H' tp (.tup [V.ref b, V.int c])) tp = some (.tup [.ref b, .int c]) := upd_same
    have hD3 := s3 _ _ hD
    generalize upd H' tp (.tup [V.ref b, V.int c]) = H3 at *
    have s4 := s2.trans s3
    have hi : i < fs.length := (List.getElem?_eq_some_iff.mp hf).1
    have hAb := ahead_at hA hf
    rw [Nat.zero_add] at hAb
    have hBf : Below f.guards cs.length := hAb.mono (by omega)
    have hh : holds cs f.guards = holds (cs.take i) f.guards := by
      have e := holds_more (cs := cs.take i) (ds := cs.drop i) (g := f.guards) (by rw [List.length_take, Nat.min_eq_left (by omega)]; exact hAb)
      rw [List.take_append_drop] at e
      exact e
    refine ⟨tp, _, rfl, SqT.of htp, rfl, _, _, rfl, _, _, rfl, rfl, ?_⟩
    refine ⟨_, rfl, _, rfl, b, cl, f, cs, rfl, hfa.keeps (same_keeps s4), s4 _ _ hc, hBf, hg f (List.mem_of_getElem? hf), fun H5 s5 => ⟨_, rfl, ?_⟩⟩
    have s6 := s4.trans s5
    have hD5 := s5 _ _ hD3
    cases ht : holds cs f.guards with
    | false =>
      refine if_t rfl ⟨_, rfl, _, rfl, rfl, _, rfl, ?_⟩
      by_cases c1 : c = -1
      · refine if_f (by simp [c1]) ?_
        refine ⟨_, _, vs, rfl, s6, hD5, by omega, by omega, back_some hfc hbf hf hci ?_⟩
        unfold backStep
        rw [if_neg (by rw [← hh, ht]; decide), if_pos c1, ← take_snoc hci, c1]
      · refine if_t (by simp; omega) ?_
        have hno := back_none hfc hbf hf hci (by
          unfold backStep
          rw [if_neg (by rw [← hh, ht]; decide), if_neg c1])
        unfold backIn at h
        rw [hno] at h
        exact ref_at (Ref_.same (K := K) h s6)
    | true =>
      refine if_f rfl ?_
      obtain ⟨gf, ⟨db, hbi⟩, _⟩ := id (hfa.keeps (same_keeps s6))
      refine ⟨_, rfl, _, _, rfl, rfl, _, rfl, ?_⟩
      by_cases c1 : 0 ≤ c
      · refine if_t (decide_eq_true c1) ⟨_, rfl, b, db, _, rfl, hbi, rfl, b, f, rfl, hfa.keeps (same_keeps s6), _, _, rfl, rfl, _, rfl, ?_⟩
        by_cases c2 : c ≤ f.hi - f.lo
        · refine if_t (decide_eq_true c2) ?_
          refine ⟨_, rfl, .inl ⟨rfl, _, SqL.of hD5⟩, _, rfl, b, db, _, _, rfl, hbi, rfl, _, rfl, _, _, rfl, rfl, D, _, _, rfl, rfl, hD5, ?_, ?_⟩
          · rw [List.length_map, sizeLine_eq]
            omega
          · refine ⟨_, _, vs ++ [f.lo + c], rfl, same_lst nD s6, ?_, by rw [List.length_append, List.length_singleton]; omega, by omega, back_some hfc hbf hf hci ?_⟩
            · rw [upd_same, List.map_append]
              rfl
            · unfold backStep
              rw [if_pos (by rw [← hh, ht]), if_pos ⟨c1, c2⟩, ← take_snoc hci]
        · refine if_f (decide_eq_false c2) ?_
          have hno := back_none hfc hbf hf hci (by
            unfold backStep
            rw [if_pos (by rw [← hh, ht]), if_neg fun z => c2 z.2])
          unfold backIn at h
          rw [hno] at h
          exact ref_at (Ref_.same (K := K) h s6)
      · refine if_f (decide_eq_false c1) ?_
        have hno := back_none hfc hbf hf hci (by
          unfold backStep
          rw [if_pos (by rw [← hh, ht]), if_neg fun z => c1 z.1])
        unfold backIn at h
        rw [hno] at h
        exact ⟨_, rfl, if_f rfl (ref_at (Ref_.same (K := K) h s6))⟩
  · rintro σ H' ⟨x, y, vs, rfl, s2, hD, hvi, hif, hbf⟩
    rw [List.length_map, hll, List.take_length, hfc, List.take_length] at hbf
    unfold backIn at h
    rw [hbf] at h
    exact ⟨_, rfl, h D H' nD s2 hD⟩
end
end Lv
set_option Elab.async false
set_option linter.all false
set_option maxRecDepth 100000
set_option maxHeartbeats 4000000
namespace Lv
open PySem PySem.Spec PyProof.Rows L2 TL
open ValayBase (Bytes)
open Valaya (Ty Rec Leaf)
abbrev cLn (K : PySem.W.Frag) : Addr := He.ga K "Line"
abbrev cH (K : PySem.W.Frag) : Addr := He.ga K "Holder"
def lineF (cl : Addr) (i : Int) : List (Str × V) := [("numbers", .ref cl), ("reached", .int i)]
def LineAt (K : PySem.W.Frag) (H : Hp) (ln cl : Addr) (ns : List Int) (i : Nat) : Prop := Ins H ln (cLn K) (lineF cl i) ∧ SqL K H cl (ns.map V.int)
def bytesI (b : Bytes) : List Int := b.map fun c => (c.toNat : Int)
section
variable {P : Program} {w : World} {K : PySem.W.Frag} {mg : Str → Option Value} {base : Heap}
/-! ### a text's bytes -/
def spBytesOf : Sp := fun vs H Q _ => ∃ b : Bytes, vs = [.str (strB b)] ∧ b.length ≤ 1000000 ∧ kList H Q (bytesI b)
theorem ok_bytes_of (T : Txt K mg) : FnAt P w K mg base CX0 1 "bytes_of" ["text"] spBytesOf := by
  refine T.d_bytes_of.ok sc_bytes_of (fun vs H Q E h => by obtain ⟨b, rfl, _⟩ := h; rfl) fun f cdv A outer s H vs Q E hr h => ?_
  obtain ⟨b, rfl, hz, q⟩ := h
  refine ⟨_, (pss_one (ps_ret (by exact (pe_lc (own := [("sign", 1)]) (g := (gName 1)) (tt := tYes) (by rfl) sc_bytes_of.nd (pi_str (pv 0)) (blkOk_by (own := [("sign", 1)]) (N := ["text", "sign"]) (sc := defScope s_bytes_of) (by decide +kernel)) (fun _ _ _ _ _ => by exact (pg_name (i := 1) sc_bytes_of.nd rfl (Or.inl rfl))) (fun _ _ _ _ _ => pts_nil) (fun _ _ _ _ _ => by exact (pe_callB call_ord (by rfl) T.f_ord (by decide +kernel) (pa_cons (pv 1) pa_nil))))))), ?_⟩
  refine ⟨_, rfl, _, rfl, fun D nD => ?_⟩
  have hlen : (strB b).cps.size = b.length := strB_length b
  refine lc_it walk_str (fun i H' => Same H H' ∧ H' D = some (.lst (((bytesI b).take i).map V.int))) ⟨same_upd nD, upd_same⟩ (fun _ _ _ _ => trivial) ?_ ?_
  · rintro i x H' H2 hi ⟨s1, hD⟩ ⟨e2, c, hc, rfl⟩
    subst e2
    have hib : i < b.length := by omega
    have ec : c = (b[i]).toNat := by
      have e0 : (strB b).cps[i]? = some (b[i]).toNat := by
        show ((b.map fun c => c.toNat).toArray)[i]? = _
        rw [List.getElem?_toArray, List.getElem?_map, List.getElem?_eq_getElem hib]
        rfl
      rw [e0] at hc
      exact (Option.some.inj hc).symm
    have hbi : (bytesI b)[i]? = some ((b[i]).toNat : Int) := by
      unfold bytesI
      rw [List.getElem?_map, List.getElem?_eq_getElem hib]
      rfl
    refine ⟨rfl, _, rfl, _, rfl, rfl, _, hD, ?_, same_lst nD s1, ?_⟩
    · rw [List.length_map, List.length_take, sizeLine_eq]
      unfold bytesI
      rw [List.length_map]
      omega
    · rw [upd_same, ← take_snoc hbi, List.map_append, ec]
      rfl
  · rintro H' ⟨s1, hD⟩
    rw [hlen, List.take_of_length_le (by unfold bytesI; rw [List.length_map]; exact Nat.le_refl _)] at hD
    exact q D H' nD s1 hD
/-! ### the line of calls -/
def gLine : List V → List (Str × V) := fun ws => [("numbers", ws.getD 0 .non), ("reached", .int 0)]
theorem ok_Line (T : Txt K mg) : MkAt P w K mg base 1 "Line" (cLn K) ["self", "numbers"] (spInit (cLn K) 1 gLine) := by
  refine T.i_Line.ok sc_Line_init (len_init rfl) fun f cdv A outer s H vs Q E hr h => ?_
  obtain ⟨p, dx, ws, rfl, hl, hp, q⟩ := h
  match ws, hl with
  | [x0], _ =>
    refine ⟨_, (pss_cons (ps_fl T.c_Line T.na_Line_numbers (pv 0) (pv 1))
  (pss_one (ps_fl T.c_Line T.na_Line_reached (pv 0) pe_int))), ?_⟩
    refine ⟨_, rfl, _, rfl, p, dx, _, rfl, hp, (by show 0 < 1000; decide), ?_⟩
    refine ⟨_, rfl, p, dx, _, rfl, upd_same, (by show 1 < 1000; decide), ?_⟩
    have e1 : putF ("numbers" : Str) x0 [] = ([("numbers", x0)] : List (Str × V)) := rfl
    have e2 : putF ("reached" : Str) (V.int 0) ([("numbers", x0)] : List (Str × V)) = gLine [x0] := if_neg (by decide +kernel)
    rw [e1, e2]
    refine q _ upd_same fun b hb => ?_
    rw [upd_ne hb, upd_ne hb]
def spEnded (K : PySem.W.Frag) : Sp := fun vs H Q _ => ∃ (ln cl : Addr) (ns : List Int) (i : Nat), vs = [.ref ln] ∧ LineAt K H ln cl ns i ∧ Q (.bl (decide (i = ns.length))) H
theorem ok_Line_ended (T : Txt K mg) : MeAt P w K mg base CX0 1 (cLn K) "ended" ["self"] (spEnded K) := by
  refine T.m_Line_ended.ok sc_Line_ended (fun vs H Q E h => by obtain ⟨ln, cl, ns, i, rfl, _⟩ := h; rfl) fun f cdv A outer s H vs Q E hr h => ?_
  obtain ⟨ln, cl, ns, i, rfl, ⟨⟨dx, h1⟩, hS⟩, q⟩ := h
  refine ⟨_, (pss_one (ps_ret (pe_cmpR op_eq (pe_fl T.c_Line T.na_Line_reached (pv 0)) (pe_callB call_len_seq (by rfl) T.f_len PySem.boot_len (pa_cons (pe_fl T.c_Line T.na_Line_numbers (pv 0)) pa_nil)) (nomark _)))), ?_⟩
  refine ⟨_, rfl, ln, dx, _, _, rfl, h1, rfl, _, rfl, ln, dx, _, _, rfl, h1, rfl, cl, _, rfl, .inl hS, rfl, ?_⟩
  rw [List.length_map]
  have e : decide (V.int (i : Int) = V.int (ns.length : Int)) = decide (i = ns.length) := by
    rw [Bool.eq_iff_iff, decide_eq_true_iff, decide_eq_true_iff, V.int.injEq]
    omega
  rw [e]
  exact q
theorem LineAt.put {H : Hp} {ln cl dx : Addr} {ns : List Int} {i j : Nat} (h1 : H ln = some (.ins (cLn K) dx (lineF cl i))) (hS : SqL K H cl (ns.map V.int)) : LineAt K (upd H ln (.ins (cLn K) dx (lineF cl j))) ln cl ns j := by
  refine ⟨⟨dx, upd_same⟩, ?_⟩
  rcases hS with (h | ⟨o, h⟩) | h
  · refine .inl (.inl ?_)
    rw [upd_ne fun z => by rw [z, h1] at h; cases h]
    exact h
  · refine .inl (.inr ⟨o, ?_⟩)
    rw [upd_ne fun z => by rw [z, h1] at h; cases h]
    exact h
  · exact .inr h
theorem line_put {cl : Addr} {i j : Int} : putF ("reached" : Str) (V.int j) (lineF cl i) = lineF cl j := by
  show putF _ _ (("numbers", V.ref cl) :: _) = _
  rw [putF, if_neg (by decide +kernel), putF, if_pos rfl]
  rfl
def spWhole (K : PySem.W.Frag) : Sp := fun vs H Q _ => ∃ (ln cl : Addr) (ns : List Int) (i : Nat) (x : Int), vs = [.ref ln] ∧ LineAt K H ln cl ns i ∧ ns[i]? = some x ∧ ∀ H', But ln H H' → LineAt K H' ln cl ns (i + 1) → Q (.int x) H'
theorem ok_Line_take_whole (T : Txt K mg) : MeAt P w K mg base CX0 1 (cLn K) "take_whole" ["self"] (spWhole K) := by
  refine T.m_Line_take_whole.ok sc_Line_take_whole (fun vs H Q E h => by obtain ⟨ln, cl, ns, i, x, rfl, _⟩ := h; rfl) fun f cdv A outer s H vs Q E hr h => ?_
  obtain ⟨ln, cl, ns, i, x, rfl, ⟨⟨dx, h1⟩, hS⟩, hx, q⟩ := h
  refine ⟨_, (pss_cons (ps_flAdd T.c_Line T.na_Line_reached (pv 0) pe_int)
  (pss_one (ps_ret (pe_ix ix_list (pe_fl T.c_Line T.na_Line_numbers (pv 0)) (pe_op op_sub (pe_fl T.c_Line T.na_Line_reached (pv 0)) pe_int) (fun _ _ => rfl))))), ?_⟩
  refine ⟨_, rfl, ln, dx, _, (i : Int), rfl, h1, rfl, 1, rfl, h1, (by show 2 < 1000; decide), ?_⟩
  rw [line_put]
  have L := LineAt.put (j := i + 1) h1 hS
  have h1' : (upd H ln (.ins (cLn K) dx (lineF cl ((i : Int) + 1)))) ln = some (.ins (cLn K) dx (lineF cl ((i : Int) + 1))) := upd_same
  refine ⟨_, rfl, ln, dx, _, _, rfl, h1', rfl, _, rfl, ln, dx, _, _, rfl, h1', rfl, _, _, rfl, rfl, cl, _, _, V.int x, rfl, rfl, L.2, ?_, ?_⟩
  · rw [show (i : Int) + 1 - 1 = (i : Int) by omega]
    exact atI_nat (by rw [List.getElem?_map, hx]; rfl)
  · exact q _ but_upd L
def spRow (K : PySem.W.Frag) : Sp := fun vs H Q _ => ∃ (ln cl : Addr) (ns : List Int) (i n : Nat), vs = [.ref ln] ∧ LineAt K H ln cl ns i ∧ ns[i]? = some (n : Int) ∧ i + 1 + n ≤ ns.length ∧
  ∀ p H', H p = none → But ln H H' → LineAt K H' ln cl ns (i + 1 + n) → H' p = some (.lst (((ns.drop (i + 1)).take n).map V.int)) → Q (.ref p) H'
theorem ok_Line_take_row (T : Txt K mg) : MeAt P w K mg base CX0 1 (cLn K) "take_row" ["self"] (spRow K) := by
  refine T.m_Line_take_row.ok sc_Line_take_row (fun vs H Q E h => by obtain ⟨ln, cl, ns, i, n, rfl, _⟩ := h; rfl) fun f cdv A outer s H vs Q E hr h => ?_
  obtain ⟨ln, cl, ns, i, n, rfl, ⟨⟨dx, h1⟩, hS⟩, hx, hle, q⟩ := h
  refine ⟨_, (pss_cons (ps_set (i := 1) sc_Line_take_row.nd rfl (Or.inl rfl) (pe_op op_add (pe_fl T.c_Line T.na_Line_reached (pv 0)) pe_int))
  (pss_cons (ps_fl T.c_Line T.na_Line_reached (pv 0) (pe_op op_add (pv 1) (pe_ix ix_list (pe_fl T.c_Line T.na_Line_numbers (pv 0)) (pe_fl T.c_Line T.na_Line_reached (pv 0)) (fun _ _ => rfl))))
  (pss_one (ps_ret (pe_slice sl_list (pe_fl T.c_Line T.na_Line_numbers (pv 0)) (po_some (pv 1)) (po_some (pe_fl T.c_Line T.na_Line_reached (pv 0)))))))), ?_⟩
  refine ⟨_, rfl, ln, dx, _, _, rfl, h1, rfl, _, _, rfl, rfl, ?_⟩
  refine ⟨_, rfl, _, rfl, ln, dx, _, _, rfl, h1, rfl, _, rfl, ln, dx, _, _, rfl, h1, rfl, cl, _, _, V.int n, rfl, rfl, hS, atI_nat (by rw [List.getElem?_map, hx]; rfl), _, _, rfl, rfl, _, rfl, ln, dx, _, rfl, h1, (by show 2 < 1000; decide), ?_⟩
  have ei : putF ("reached" : Str) (V.int ((i : Int) + 1 + (n : Int))) (lineF cl i) = lineF cl ((i + 1 + n : Nat) : Int) := by
    rw [line_put, show ((i : Int) + 1 + (n : Int)) = ((i + 1 + n : Nat) : Int) by omega]
  rw [ei]
  have L := LineAt.put (j := i + 1 + n) h1 hS
  have h1' : (upd H ln (.ins (cLn K) dx (lineF cl ((i + 1 + n : Nat) : Int)))) ln = some (.ins (cLn K) dx (lineF cl ((i + 1 + n : Nat) : Int))) := upd_same
  have b1 : But ln H (upd H ln (.ins (cLn K) dx (lineF cl ((i + 1 + n : Nat) : Int)))) := but_upd
  generalize upd H ln (.ins (cLn K) dx (lineF cl ((i + 1 + n : Nat) : Int))) = H1 at *
  refine ⟨_, rfl, ln, dx, _, _, rfl, h1', rfl, _, rfl, _, rfl, _, rfl, ln, dx, _, _, rfl, h1', rfl, _, rfl, cl, _, rfl, L.2, fun p np => ?_⟩
  have es : cutV (ns.map V.int) (some ((i : Int) + 1)) (some (((i + 1 + n : Nat)) : Int)) = ((ns.drop (i + 1)).take n).map V.int := by
    have := part_slice (ns := ns) (j := i + 1) (k := i + 1 + n) (by omega) hle
    rw [show i + 1 + n - (i + 1) = n by omega] at this
    exact this
  rw [es]
  have hpl : p ≠ ln := fun z => by
    rw [z, h1'] at np
    cases np
  have np0 : H p = none := by
    cases e : H p with
    | none => rfl
    | some o =>
      have := b1 _ _ e hpl
      rw [np] at this
      cases this
  exact q p _ np0 (b1.trans (same_but (same_upd np))) ⟨L.1.same (same_upd np), (same_upd np).seq L.2⟩ upd_same
/-! ### the holder -/
def holdF (rl : Addr) : List (Str × V) := [("records", .ref rl)]
def HoldAt (K : PySem.W.Frag) (H : Hp) (h : Addr) (rs : List Rec) : Prop := ∃ (rl : Addr) (as : List Addr), Ins H h (cH K) (holdF rl) ∧ H rl = some (.lst (as.map V.ref)) ∧ RecL K H as rs
def spHoldInit (K : PySem.W.Frag) : Sp := fun vs H Q _ => ∃ (p dx : Addr), vs = [.ref p] ∧ H p = some (.ins (cH K) dx []) ∧ ∀ (H' : Hp) (rl : Addr), H rl = none → H' p = some (.ins (cH K) dx (holdF rl)) → H' rl = some (.lst []) → But p H H' → Q .non H'
theorem ok_Holder (T : Txt K mg) : MkAt P w K mg base 1 "Holder" (cH K) ["self"] (spHoldInit K) := by
  refine T.i_Holder.ok sc_Holder_init (fun vs H Q E h => by obtain ⟨p, dx, rfl, _⟩ := h; rfl) fun f cdv A outer s H vs Q E hr h => ?_
  obtain ⟨p, dx, rfl, hp, q⟩ := h
  refine ⟨_, (pss_one (ps_fl T.c_Holder T.na_Holder_records (pv 0) (pe_lst pa_nil))), ?_⟩
  refine ⟨by decide, fun rl nrl => ?_⟩
  have hrp : rl ≠ p := fun z => by
    rw [z, hp] at nrl
    cases nrl
  have hp2 : (upd H rl (.lst [])) p = some (.ins (cH K) dx []) := by
    rw [upd_ne hrp.symm]
    exact hp
  refine ⟨_, rfl, p, dx, _, rfl, hp2, (by show 0 < 1000; decide), ?_⟩
  refine q _ rl nrl upd_same ?_ fun b o hb hbp => ?_
  · rw [upd_ne hrp, upd_same]
  · rw [upd_ne hbp, upd_ne fun z => by rw [z, nrl] at hb; cases hb]
    exact hb
def spHold (K : PySem.W.Frag) : Sp := fun vs H Q _ => ∃ (h dx r0 r1 : Addr), vs = [.ref h, .ref r1] ∧ H h = some (.ins (cH K) dx (holdF r0)) ∧ Q .non (upd H h (.ins (cH K) dx (holdF r1)))
theorem ok_Holder_hold (T : Txt K mg) : MeAt P w K mg base CX0 1 (cH K) "hold" ["self", "records"] (spHold K) := by
  refine T.m_Holder_hold.ok sc_Holder_hold (fun vs H Q E h => by obtain ⟨h, dx, r0, r1, rfl, _⟩ := h; rfl) fun f cdv A outer s H vs Q E hr h => ?_
  obtain ⟨h, dx, r0, r1, rfl, hh, q⟩ := h
  refine ⟨_, (pss_one (ps_fl T.c_Holder T.na_Holder_records (pv 0) (pv 1))), ?_⟩
  refine ⟨_, rfl, _, rfl, h, dx, _, rfl, hh, (by show 1 < 1000; decide), ?_⟩
  have e : putF ("records" : Str) (V.ref r1) (holdF r0) = (holdF r1) := if_pos rfl
  rw [e]
  exact q
def spAll (K : PySem.W.Frag) : Sp := fun vs H Q E => ∃ (h rl : Addr) (as : List Addr), vs = [.ref h] ∧ Ins H h (cH K) (holdF rl) ∧ H rl = some (.lst (as.map V.ref)) ∧ (as = [] → Ref_ K H E "NoRecords" (-1)) ∧ (as ≠ [] → Q (.ref rl) H)
theorem ok_Holder_all_records (T : Txt K mg) : MeAt P w K mg base (L2.CX P w) 4 (cH K) "all_records" ["self"] (spAll K) := by
  have G_NoRecords := ok_NoRecords (P := P) (w := w) (base := base) T
  refine T.m_Holder_all_records.okX sc_Holder_all_records (fun vs H Q E h => by obtain ⟨h, rl, as, rfl, _⟩ := h; rfl) fun f cdv A outer s H vs Q E hr h tk => ?_
  obtain ⟨h, rl, as, rfl, ⟨dx, hh⟩, hl, qN, qY⟩ := h
  refine ⟨_, (pss_cons (ps_if (pt_not (pt_truth (pe_fl T.c_Holder T.na_Holder_records (pv 0)) (by intro _; rfl))) (pss_one (ps_raise rfl tk (pmk_rz0 G_NoRecords hr (by first | decide | omega)))) pss_nil)
  (pss_one (ps_ret (pe_fl T.c_Holder T.na_Holder_records (pv 0))))), ?_⟩
  refine ⟨_, rfl, h, dx, _, _, rfl, hh, rfl, _, .inl ⟨_, SqL.of hl, rfl⟩, ?_⟩
  cases as with
  | nil => exact if_t rfl (ref_at (K := K) (qN rfl))
  | cons a as => exact if_f rfl ⟨_, rfl, h, dx, _, _, rfl, hh, rfl, qY (by simp)⟩
def pick (n : Int) (m : Nat) : Option Nat := if 0 ≤ n ∧ n < m then some n.toNat else none
def spRecordAt (K : PySem.W.Frag) : Sp := fun vs H Q E => ∃ (h : Addr) (n : Int) (rs : List Rec), vs = [.ref h, .int n] ∧ HoldAt K H h rs ∧ (rs = [] → Ref_ K H E "NoRecords" (-1)) ∧ (rs ≠ [] → OutO K H E "NoSuchRecord" (-2) ((pick n rs.length).bind fun k => rs[k]?) fun r => ∀ a : Addr, RecAt K H a r.x.name r.t → Q (.ref a) H)
theorem ok_Holder_record_at (T : Txt K mg) : MeAt P w K mg base (L2.CX P w) 5 (cH K) "record_at" ["self", "number"] (spRecordAt K) := by
  have G_Holder_all_records := ok_Holder_all_records (P := P) (w := w) (base := base) T
  have G_NoSuchRecord := ok_NoSuchRecord (P := P) (w := w) (base := base) T
  refine T.m_Holder_record_at.okX sc_Holder_record_at (fun vs H Q E h => by obtain ⟨h, n, rs, rfl, _⟩ := h; rfl) fun f cdv A outer s H vs Q E hr h tk => ?_
  obtain ⟨h, n, rs, rfl, ⟨rl, as, ⟨dx, hh⟩, hl, hL⟩, qN, qY⟩ := h
  have hlen : as.length = rs.length := paired_len hL
  have hnil : as = [] ↔ rs = [] := by
    constructor
    · intro z
      exact List.eq_nil_of_length_eq_zero (by rw [← hlen, z]; rfl)
    · intro z
      exact List.eq_nil_of_length_eq_zero (by rw [hlen, z]; rfl)
  refine ⟨_, (pss_cons (ps_set (i := 2) sc_Holder_record_at.nd rfl (Or.inl rfl) (pe_me0X (pv 0) G_Holder_all_records hr (by first | decide | omega) tk))
  (pss_cons (ps_if (pt_not (pt_chain op_le op_lt pe_int (pv 1) (pe_callB call_len_seq (by rfl) T.f_len PySem.boot_len (pa_cons (pv 2) pa_nil)))) (pss_one (ps_raise rfl tk (pmk_rz0 G_NoSuchRecord hr (by first | decide | omega)))) pss_nil)
  (pss_one (ps_ret (pe_ix ix_list (pv 2) (pv 1) (fun _ _ => rfl)))))), ?_⟩
  refine ⟨_, rfl, h, dx, _, rfl, hh, rfl, h, rl, as, rfl, ⟨dx, hh⟩, hl, fun z => qN (hnil.mp z), fun z => ?_⟩
  have h := qY fun e => z (hnil.mpr e)
  refine ⟨_, rfl, _, _, rfl, rfl, _, rfl, ?_⟩
  by_cases c1 : 0 ≤ n
  · refine if_t (decide_eq_true c1) ⟨_, rfl, rl, _, rfl, .inl (SqL.of hl), _, _, rfl, rfl, _, rfl, ?_⟩
    rw [List.length_map]
    by_cases c2 : n < as.length
    · have ek : pick n rs.length = some n.toNat := if_pos ⟨c1, by omega⟩
      have hlt : n.toNat < as.length := by omega
      have ha : as[n.toNat]? = some as[n.toNat] := List.getElem?_eq_getElem hlt
      obtain ⟨r, hr', hat⟩ := paired_at hL ha
      have h : OutO K H E "NoSuchRecord" (-2) ((pick n rs.length).bind fun k => rs[k]?) _ := h
      rw [ek, Option.bind_some, hr'] at h
      refine if_f (by rw [decide_eq_true c2]; rfl) ?_
      refine ⟨_, rfl, _, rfl, rl, _, _, V.ref as[n.toNat], rfl, rfl, SqL.of hl, ?_, h _ hat⟩
      have := atI_nat (xs := as.map V.ref) (j := n.toNat) (v := V.ref as[n.toNat]) (by rw [List.getElem?_map, ha]; rfl)
      rwa [Int.toNat_of_nonneg c1] at this
    · have ek : pick n rs.length = none := if_neg fun z => c2 (by omega)
      have h : OutO K H E "NoSuchRecord" (-2) ((pick n rs.length).bind fun k => rs[k]?) _ := h
      rw [ek] at h
      exact if_t (by rw [decide_eq_false c2]; rfl) (ref_at (K := K) h)
  · have ek : pick n rs.length = none := if_neg fun z => c1 z.1
    have h : OutO K H E "NoSuchRecord" (-2) ((pick n rs.length).bind fun k => rs[k]?) _ := h
    rw [ek] at h
    exact if_f (decide_eq_false c1) ⟨_, rfl, if_t rfl (ref_at (K := K) h)⟩
theorem OutO.imp {H : Hp} {E : XK} {x : Str} {n : Int} {B : Type} {o : Option B} {k k' : B → Prop} (h : OutO K H E x n o k) (i : ∀ b, o = some b → k b → k' b) : OutO K H E x n o k' := by
  cases o with
  | none => exact h
  | some b => exact i b rfl h
def spLeavesOf (K : PySem.W.Frag) : Sp := fun vs H Q E => ∃ (h : Addr) (n : Int) (rs : List Rec), vs = [.ref h, .int n] ∧ HoldAt K H h rs ∧ (rs = [] → Ref_ K H E "NoRecords" (-1)) ∧ (rs ≠ [] → OutO K H E "NoSuchRecord" (-2) ((pick n rs.length).bind fun k => rs[k]?) fun r => ∀ (lv : Addr) (ls : List Addr), H lv = some (.lst (ls.map V.ref)) → LeafL K H ls (Valaya.leavesOf r.t) → Q (.ref lv) H)
theorem ok_Holder_leaves_of (T : Txt K mg) : MeAt P w K mg base (L2.CX P w) 6 (cH K) "leaves_of" ["self", "number"] (spLeavesOf K) := by
  have G_Holder_record_at := ok_Holder_record_at (P := P) (w := w) (base := base) T
  refine T.m_Holder_leaves_of.okX sc_Holder_leaves_of (fun vs H Q E h => by obtain ⟨h, n, rs, rfl, _⟩ := h; rfl) fun f cdv A outer s H vs Q E hr h tk => ?_
  obtain ⟨h, n, rs, rfl, hH, qN, qY⟩ := h
  obtain ⟨rl, as, ⟨dx, hh⟩, hl, hL⟩ := id hH
  refine ⟨_, (pss_one (ps_ret (pe_fl T.c_Record T.na_Record_leaves (pe_meX (pv 0) G_Holder_record_at hr (by first | decide | omega) tk (pa_cons (pv 1) pa_nil))))), ?_⟩
  refine ⟨_, rfl, h, dx, _, rfl, hh, rfl, argS rfl ⟨h, n, rs, rfl, hH, qN, fun ne => OutO.imp (K := K) (qY ne) fun r _ k a hat => ?_⟩⟩
  obtain ⟨l0, lv, pl, bs, ls, cs, ⟨da, g1⟩, g2, g3, g4, g5, g6, g7⟩ := hat
  exact ⟨a, da, _, _, rfl, g1, rfl, k lv ls g4 g5⟩
def spNumRec (K : PySem.W.Frag) : Sp := fun vs H Q E => ∃ (h : Addr) (n : Int) (rs : List Rec), vs = [.ref h, .int n] ∧ HoldAt K H h rs ∧ (rs = [] → Ref_ K H E "NoRecords" (-1)) ∧ (rs ≠ [] → OutO K H E "NoSuchRecord" (-2) ((pick n rs.length).bind fun k => rs[k]?) fun r => (Valaya.GREAT < Valaya.countOf r.t → Ref_ K H E "TooManyValues" (-6)) ∧ (¬ Valaya.GREAT < Valaya.countOf r.t → ∀ a : Addr, RecAt K H a r.x.name r.t → Q (.ref a) H))
theorem ok_Holder_numbered_record_at (T : Txt K mg) : MeAt P w K mg base (L2.CX P w) 6 (cH K) "numbered_record_at" ["self", "number"] (spNumRec K) := by
  have G_Holder_record_at := ok_Holder_record_at (P := P) (w := w) (base := base) T
  have G_TooManyValues := ok_TooManyValues (P := P) (w := w) (base := base) T
  refine T.m_Holder_numbered_record_at.okX sc_Holder_numbered_record_at (fun vs H Q E h => by obtain ⟨h, n, rs, rfl, _⟩ := h; rfl) fun f cdv A outer s H vs Q E hr h tk => ?_
  obtain ⟨h, n, rs, rfl, hH, qN, qY⟩ := h
  obtain ⟨rl, as, ⟨dx, hh⟩, hl, hL⟩ := id hH
  refine ⟨_, (pss_cons (ps_set (i := 2) sc_Holder_numbered_record_at.nd rfl (Or.inl rfl) (pe_meX (pv 0) G_Holder_record_at hr (by first | decide | omega) tk (pa_cons (pv 1) pa_nil)))
  (pss_cons (ps_if (pt_cmpR op_gt (pe_fl T.c_Record T.na_Record_total (pv 2)) (pe_num T.n_MOST_VALUES) (nomark _)) (pss_one (ps_raise rfl tk (pmk_rz0 G_TooManyValues hr (by first | decide | omega)))) pss_nil)
  (pss_one (ps_ret (pv 2))))), ?_⟩
  refine ⟨_, rfl, h, dx, _, rfl, hh, rfl, argS rfl ⟨h, n, rs, rfl, hH, qN, fun ne => OutO.imp (K := K) (qY ne) fun r _ k a hat => ?_⟩⟩
  obtain ⟨l0, lv, pl, bs, ls, cs, ⟨da, g1⟩, g2, g3, g4, g5, g6, g7⟩ := id hat
  refine ⟨_, rfl, a, da, _, _, rfl, g1, rfl, _, _, rfl, rfl, _, rfl, ?_⟩
  have eg : Valaya.GREAT = 1000000000000000000 := rfl
  by_cases c : Valaya.GREAT < Valaya.countOf r.t
  · exact if_t (decide_eq_true (by show ((Valaya.countBy r.t false : Nat) : Int) > 1000000000000000000; unfold Valaya.countOf at c; omega)) (ref_at (K := K) (k.1 c))
  · exact if_f (decide_eq_false (by show ¬ ((Valaya.countBy r.t false : Nat) : Int) > 1000000000000000000; unfold Valaya.countOf at c; omega)) ⟨_, rfl, k.2 c a hat⟩
end
end Lv
set_option Elab.async false
set_option linter.all false
set_option maxRecDepth 100000
set_option maxHeartbeats 4000000
namespace Lv
open PySem PySem.Spec PyProof.Rows L2 TL
open ValayBase (Bytes)
open Valaya (Ty Rec Leaf)
theorem HasErr.g {K : PySem.W.Frag} {mg : Str → Option Value} {x qual : Str} {C : Addr} {st : Stmt} {ps : List Str} (D : HasErr K mg x C qual st ps) : mg x = some (.ref C) := by
  obtain ⟨f, fd, B, _⟩ := D
  exact B.gC
/-- which errors which clauses take -/
structure Exm (K : PySem.W.Frag) : Prop where
  fault : PySem.W.exmOne K (.ref (He.ga K "Fault")) (.ref (He.ga K "Fault")) = some true
  noRecords : PySem.W.exmOne K (.ref (He.ga K "NoRecords")) (.ref (He.ga K "Refusal")) = some true
  noSuchRecord : PySem.W.exmOne K (.ref (He.ga K "NoSuchRecord")) (.ref (He.ga K "Refusal")) = some true
  noSuchLeaf : PySem.W.exmOne K (.ref (He.ga K "NoSuchLeafOrValue")) (.ref (He.ga K "Refusal")) = some true
  noValue : PySem.W.exmOne K (.ref (He.ga K "NoValue")) (.ref (He.ga K "Refusal")) = some true
  tooMany : PySem.W.exmOne K (.ref (He.ga K "TooManyValues")) (.ref (He.ga K "Refusal")) = some true
section
variable {P : Program} {w : World} {K : PySem.W.Frag} {mg : Str → Option Value} {base : Heap}
theorem call_len_seqK {X : Cx} {K : PySem.W.Frag} (h : X.K = K) : CallR X (.builtin "len") (fun xs H Q => ∃ p ys, xs = [V.ref p] ∧ (SqL K H p ys ∨ SqT K H p ys) ∧ Q (.int ys.length) H) := by
  subst h
  exact call_len_seq
theorem keeps_but {H H' : Hp} {r C dx : Addr} {fs : List (Str × V)} (h1 : H r = some (.ins C dx fs)) (hk : fs.head?.map (·.1) = some "numbers" ∨ fs.head?.map (·.1) = some "records") (b : But r H H') : Keeps K H H' := by
  refine ⟨fun a C fs hi _ n2 n3 => ?_, fun a xs ha => ?_, fun a xs ha => ?_, fun a xs ha => ?_⟩
  · obtain ⟨d, hi⟩ := hi
    refine ⟨d, b _ _ hi fun z => ?_⟩
    rw [z, h1] at hi
    cases hi
    rcases hk with hk | hk
    · exact n2 hk
    · exact n3 hk
  · exact b _ _ ha fun z => by rw [z, h1] at ha; cases ha
  · rcases ha with (ha | ⟨o, ha⟩) | ha
    · exact .inl (.inl (b _ _ ha fun z => by rw [z, h1] at ha; cases ha))
    · exact .inl (.inr ⟨o, b _ _ ha fun z => by rw [z, h1] at ha; cases ha⟩)
    · exact .inr ha
  · exact b _ _ ha fun z => by rw [z, h1] at ha; cases ha
theorem keeps_hold {H H' : Hp} {h dx r0 : Addr} (h1 : H h = some (.ins (cH K) dx (holdF r0))) (b : But h H H') : Keeps K H H' := keeps_but h1 (.inr rfl) b
theorem keeps_line {H H' : Hp} {h dx cl : Addr} {i : Int} (h1 : H h = some (.ins (cLn K) dx (lineF cl i))) (b : But h H H') : Keeps K H H' := keeps_but h1 (.inl rfl) b
def loadedL (rs : List Rec) : List Int := [1, (rs.length : Int)] ++ rs.map fun r => ((Valaya.leavesOf r.t).length : Int)
def spLoad (K : PySem.W.Frag) : Sp := fun vs H Q _ => ∃ (h a : Addr) (rs0 : List Rec) (ns : List Int), vs = [.ref h, .ref a] ∧ HoldAt K H h rs0 ∧ SqL K H a (ns.map V.int) ∧ Bytes_ ns ∧ (match Valaya.read (ns.map toB) with
  | .error f => kList H Q [0, (f.code : Int), (f.place : Int)]
  | .ok rs => RecsGood rs → ∀ (p : Addr) (H' : Hp), H p = none → But h H H' → HoldAt K H' h rs → H' p = some (.lst ((loadedL rs).map V.int)) → Q (.ref p) H')
theorem ok_load (T : Txt K mg) (X : Exm K) : FnAt P w K mg base CX0 23 "load" ["holder", "text"] (spLoad K) := by
  have G_read_records := ok_read_records (P := P) (w := w) (base := base) T
  have G_Holder_hold := ok_Holder_hold (P := P) (w := w) (base := base) T
  refine T.d_load.ok sc_load (fun vs H Q E h => by obtain ⟨h, a, rs0, ns, rfl, _⟩ := h; rfl) fun f cdv A outer s H vs Q E hr h => ?_
  obtain ⟨h, a, rs0, ns, rfl, ⟨r0, as0, ⟨dx, hh⟩, hr0, hL0⟩, hS, hB, q⟩ := h
  refine ⟨_, (pss_cons (ps_try_as (i := 3) rfl rfl sc_load.nd rfl rfl ⟨rfl, by decide, .inl T.e_Fault.g⟩ L2.takes0 (fun W pn xe tk _ => by exact (pss_one (ps_set (i := 2) sc_load.nd rfl (Or.inl rfl) (pe_fnX G_read_records hr (by first | decide | omega) tk (pa_cons (pv 1) pa_nil))))) (fun a oe cls d pn hz hf => by exact (pss_one (ps_ret (pe_lst (pa_cons pe_int (pa_cons (pe_errG hz hf (pv 3)) (pa_cons (pe_errG hz hf (pv 3)) pa_nil))))))))
  (pss_cons (ps_expr (pe_me (pv 0) G_Holder_hold hr (by first | decide | omega) (pa_cons (pv 2) pa_nil)))
  (pss_one (ps_ret (pe_op op_cat (pe_lst (pa_cons pe_int (pa_cons (pe_callB call_len_seq (by rfl) T.f_len PySem.boot_len (pa_cons (pv 2) pa_nil)) pa_nil))) (by exact (pe_lc (own := [("record", 4)]) (g := (gName 4)) (tt := tYes) (by rfl) sc_load.nd (pi_list (pv 2)) (blkOk_by (own := [("record", 4)]) (N := ["holder", "text", "records", "fault", "record"]) (sc := defScope s_load) (by decide +kernel)) (fun _ _ _ _ _ => by exact (pg_name (i := 4) sc_load.nd rfl (Or.inl rfl))) (fun _ _ _ _ _ => pts_nil) (fun _ _ _ _ _ => by exact (pe_callB (call_len_seqK (K := K) rfl) (by rfl) T.f_len PySem.boot_len (pa_cons (pe_fl T.c_Record T.na_Record_leaves (pv 4)) pa_nil)))))))))), ?_⟩
  refine ⟨_, rfl, a, ns, rfl, hS, hB, ?_⟩
  cases er : Valaya.read (ns.map toB) with
  | error f =>
    rw [er] at q
    intro d H1 s1 hd
    refine ⟨true, X.fault, fun _ a0 ha0 => ?_, fun z => nomatch z⟩
    refine ⟨_, rfl, rfl, _, d, _, _, rfl, rfl, T.x_Fault, T.na_Fault_code, hd, rfl, _, rfl, rfl, _, d, _, _, rfl, rfl, T.x_Fault, T.na_Fault_place, hd, rfl, (by show 3 ≤ sizeLine; decide), fun p np => ?_⟩
    exact q p _ (s1.free np) (s1.trans (same_upd np)) upd_same
  | ok rs =>
    rw [er] at q
    intro hgood p as H1 np s1 hp hL
    have q := q hgood
    have hh1 := s1 _ _ hh
    refine ⟨_, rfl, h, dx, _, rfl, hh1, rfl, _, rfl, h, dx, r0, p, rfl, hh1, ?_⟩
    have hph : p ≠ h := fun z => by
      rw [z, hh] at np
      cases np
    have hp2 : (upd H1 h (.ins (cH K) dx (holdF p))) p = some (.lst (as.map V.ref)) := by
      rw [upd_ne hph]
      exact hp
    have b2 : But h H1 (upd H1 h (.ins (cH K) dx (holdF p))) := but_upd
    have hh2 : (upd H1 h (.ins (cH K) dx (holdF p))) h = some (.ins (cH K) dx (holdF p)) := upd_same
    have hL2 : RecL K (upd H1 h (.ins (cH K) dx (holdF p))) as rs := hL.keeps (keeps_hold hh1 b2)
    generalize upd H1 h (.ins (cH K) dx (holdF p)) = H2 at *
    have hal : as.length = rs.length := paired_len hL
    have h6 := hgood.n6
    refine ⟨_, rfl, p, _, rfl, .inl (SqL.of hp2), (by show 2 ≤ sizeLine; decide), fun z nz => ?_⟩
    rw [List.length_map]
    have s3 : Same H2 (upd H2 z (.lst [.int 1, .int as.length])) := same_upd nz
    have hz3 : (upd H2 z (.lst [.int 1, .int as.length])) z = some (.lst [.int 1, .int as.length]) := upd_same
    generalize upd H2 z (.lst [.int 1, .int as.length]) = H3 at *
    have hL3 : RecL K H3 as rs := hL2.keeps (same_keeps s3)
    have hp3 := s3 _ _ hp2
    refine ⟨_, rfl, p, rfl, ⟨_, SqL.of hp3⟩, fun D nD => lc_to (K := K) (a := p) (ys := (rs.map fun r => ((Valaya.leavesOf r.t).length : Int)).map V.int) nD (SqL.of hp3) (by simp only [List.length_map]; exact hal.symm) (fun i y v H4 hy hv s4 e4 => ?_) fun H4 s4 e4 => ?_⟩
    · obtain ⟨b, hb, rfl⟩ := ref_item hy
      obtain ⟨r, hr', hat⟩ := paired_at hL3 hb
      have ev : v = V.int ((Valaya.leavesOf r.t).length : Int) := by
        rw [List.getElem?_map, List.getElem?_map, hr'] at hv
        exact (Option.some.inj hv).symm
      obtain ⟨l, lv, pl, bs, ls, cs, ⟨db, g1⟩, g2, g3, g4, g5, g6, g7⟩ := RecAt.keeps (same_keeps (K := K) s4) hat
      refine ⟨rfl, ?_⟩
      refine ⟨_, rfl, b, db, _, _, rfl, g1, rfl, lv, _, rfl, .inl (SqL.of g4), ?_⟩
      rw [List.length_map, paired_len g5, ← ev]
      exact lc_put nD s4 e4 hv (by simp only [List.length_map]; rw [sizeLine_eq]; omega)
    · refine ⟨z, D, _, _, rfl, rfl, s4 _ _ hz3, e4, ?_, fun t nt => ?_⟩
      · simp only [List.length_map, List.length_cons, List.length_nil]
        rw [sizeLine_eq]
        omega
      · have s5 : Same H4 (upd H4 t (.lst ([V.int 1, V.int as.length] ++ (rs.map fun r => ((Valaya.leavesOf r.t).length : Int)).map V.int))) := same_upd nt
        have st := s3.trans (s4.trans s5)
        have hth : t ≠ h := fun e => by
          have := s4 _ _ (s3 _ _ hh2)
          rw [← e, nt] at this
          cases this
        have nt0 : H t = none := by
          cases e : H t with
          | none => rfl
          | some o =>
            have := s4 _ _ (s3 _ _ (b2 _ _ (s1 _ _ e) hth))
            rw [nt] at this
            cases this
        refine q t _ nt0 ((same_but s1).trans (b2.trans (same_but st))) ⟨p, as, ⟨dx, st _ _ hh2⟩, st _ _ hp2, hL2.keeps (same_keeps st)⟩ ?_
        rw [upd_same]
        unfold loadedL
        rw [List.map_append, hal]
        rfl
end
end Lv
set_option linter.all false
namespace Lv
open ValayBase Valaya
def LeafIn (f : Leaf) : Prop := f.lo ≤ f.hi ∧ -1000000 ≤ f.lo ∧ f.hi ≤ 1000000
theorem leaf_in : ∀ {t : Ty}, Fine t → ∀ (k : Nat) (x : Bytes) (h : Nat) (g : List (Nat × Nat)) (alt : Option (Nat × Nat)), ∀ f ∈ leavesBy t k x h g alt, LeafIn f := by
  intro t
  induction t with
  | num a b c =>
    intro hf k x h g alt f hm
    simp only [leavesBy, List.mem_singleton] at hm
    subst hm
    exact ⟨hf.2.1, hf.1, hf.2.2.1⟩
  | maybe t ih =>
    intro hf k x h g alt f hm
    simp only [leavesBy, List.mem_cons] at hm
    rcases hm with hm | hm
    · subst hm
      exact ⟨by show (0 : Int) ≤ 1; omega, by show (-1000000 : Int) ≤ 0; omega, by show (1 : Int) ≤ 1000000; omega⟩
    · exact ih hf.2 _ _ _ _ _ f hm
  | many n t ih =>
    intro hf k x h g alt f hm
    simp only [leavesBy, List.mem_flatMap] at hm
    obtain ⟨i, _, hm⟩ := hm
    exact ih hf.2.2.2 _ _ _ _ _ f hm
  | rec_ fs ih => intro hf k x h g alt f hm; simp only [leavesBy] at hm; exact ih hf.2.2 _ _ _ _ _ f hm
  | named n t ih => intro hf k x h g alt f hm; simp only [leavesBy] at hm; exact ih hf.2.2 _ _ _ _ _ f hm
  | one_ fs ih =>
    intro hf k x h g alt f hm
    simp only [leavesBy, List.mem_cons] at hm
    rcases hm with hm | hm
    · subst hm
      have h1 := hf.2.1
      have h2 := hf.2.2.1
      refine ⟨?_, ?_, ?_⟩
      · show (0 : Int) ≤ (rowLength fs : Int) - 1
        omega
      · show (-1000000 : Int) ≤ 0
        omega
      · show (rowLength fs : Int) - 1 ≤ 1000000
        omega
    · exact ih hf.2.2.2 _ _ _ _ _ f hm
  | nil => intro hf k x h g alt f hm; simp [leavesBy] at hm
  | field z n t r iht ihr =>
    intro hf k x h g alt f hm
    cases alt with
    | none =>
      simp only [leavesBy, List.mem_append] at hm
      rcases hm with hm | hm
      · exact iht hf.2.2.2.2.1 _ _ _ _ _ f hm
      · exact ihr hf.2.2.2.2.2.2 _ _ _ _ _ f hm
    | some a =>
      simp only [leavesBy, List.mem_append] at hm
      rcases hm with hm | hm
      · exact iht hf.2.2.2.2.1 _ _ _ _ _ f hm
      · exact ihr hf.2.2.2.2.2.2 _ _ _ _ _ f hm
end Lv
set_option Elab.async false
set_option linter.all false
set_option maxRecDepth 100000
set_option maxHeartbeats 4000000
namespace Lv
open PySem PySem.Spec PyProof.Rows L2 TL
open ValayBase (Bytes)
open Valaya (Ty Rec Leaf)
section
variable {P : Program} {w : World} {K : PySem.W.Frag} {mg : Str → Option Value} {base : Heap}
/-- what is held: nothing, or records that are read -/
def Held (rs : List Rec) : Prop := rs = [] ∨ RecsGood rs
theorem Held.fine {rs : List Rec} (h : Held rs) : ∀ r ∈ rs, RecFine r := by
  rcases h with rfl | h
  · intro r hr
    cases hr
  · exact h.fine
theorem Held.six {rs : List Rec} (h : Held rs) : rs.length ≤ 6 := by
  rcases h with rfl | h
  · decide
  · exact h.n6
theorem Held.ok {rs : List Rec} (h : Held rs) : RsOk 1200 rs := by
  rcases h with rfl | h
  · exact ⟨fun r hr => (by cases hr), fun r hr => (by cases hr), fun r hr => (by cases hr), fun r hr => (by cases hr)⟩
  · exact h.ok
/-- a call that asks records: -1, or what they answer -/
def OutH (K : PySem.W.Frag) (H : Hp) (E : XK) (rs : List Rec) (k : Prop) : Prop := (rs = [] → Ref_ K H E "NoRecords" (-1)) ∧ (rs ≠ [] → k)
def spShown (K : PySem.W.Frag) : Sp := fun vs H Q E => ∃ (h : Addr) (rs : List Rec), vs = [.ref h] ∧ HoldAt K H h rs ∧ Held rs ∧ OutH K H E rs (kList H Q ([((rs.flatMap Valaya.shownRec).length : Int)] ++ bytesI (rs.flatMap Valaya.shownRec)))
theorem len_list {H : Hp} {Q : VK} {p : Addr} {cs : List Int} {H2 : Hp} (q : kList H Q ([(cs.length : Int)] ++ cs)) (hz : cs.length ≤ 1000000) (s2 : Same H H2) (hp : H2 p = some (.lst (cs.map V.int))) (z : Addr) (nz : H2 z = none) : rCat (.ref z) (.ref p) (upd H2 z (.lst [.int cs.length])) Q := by
  have s3 : Same H2 (upd H2 z (.lst [.int cs.length])) := same_upd nz
  refine ⟨z, p, _, _, rfl, rfl, upd_same, s3 _ _ hp, ?_, fun t nt => ?_⟩
  · rw [List.length_map, sizeLine_eq]
    show 1 + _ ≤ _
    omega
  · refine q t _ ((s2.trans s3).free nt) ((s2.trans s3).trans (same_upd nt)) ?_
    rw [upd_same, List.map_append]
    rfl
theorem ok_shown (T : Txt K mg) : FnAt P w K mg base (L2.CX P w) 11 "shown" ["holder"] (spShown K) := by
  have G_Holder_all_records := ok_Holder_all_records (P := P) (w := w) (base := base) T
  have G_one_form := ok_one_form (P := P) (w := w) (base := base) T
  have G_bytes_of := ok_bytes_of (P := P) (w := w) (base := base) T
  refine T.d_shown.okX sc_shown (fun vs H Q E h => by obtain ⟨h, rs, rfl, _⟩ := h; rfl) fun f cdv A outer s H vs Q E hr h tk => ?_
  obtain ⟨h, rs, rfl, ⟨rl, as, ⟨dx, hh⟩, hl, hL⟩, hrs, q⟩ := h
  have hlen : as.length = rs.length := paired_len hL
  have hnil : as = [] ↔ rs = [] := by
    constructor
    · intro z
      exact List.eq_nil_of_length_eq_zero (by rw [← hlen, z]; rfl)
    · intro z
      exact List.eq_nil_of_length_eq_zero (by rw [hlen, z]; rfl)
  have hbz : (rs.flatMap Valaya.shownRec).length ≤ 900000 := by
    have a := form_small hrs.fine
    have b := hrs.six
    omega
  refine ⟨_, (pss_cons (ps_set (i := 1) sc_shown.nd rfl (Or.inl rfl) (pe_fn G_bytes_of hr (by first | decide | omega) (pa_cons (pe_fn G_one_form hr (by first | decide | omega) (pa_cons (pe_me0X (pv 0) G_Holder_all_records hr (by first | decide | omega) tk) pa_nil)) pa_nil)))
  (pss_one (ps_ret (pe_op op_cat (pe_lst (pa_cons (pe_callB call_len_seq (by rfl) T.f_len PySem.boot_len (pa_cons (pv 1) pa_nil)) pa_nil)) (pv 1))))), ?_⟩
  refine ⟨_, rfl, h, dx, _, rfl, hh, rfl, h, rl, as, rfl, ⟨dx, hh⟩, hl, fun z => q.1 (hnil.mp z), fun ne => ?_⟩
  have q := q.2 fun e => ne (hnil.mpr e)
  refine ⟨rl, as, rs, rfl, hl, hL, hrs.fine, hrs.six, fun H1 s1 => ⟨_, rfl, by omega, fun p H2 np s2 hp => ?_⟩⟩
  refine ⟨_, rfl, p, _, rfl, .inl (SqL.of hp), (by show 1 ≤ sizeLine; decide), fun z nz => ⟨_, rfl, ?_⟩⟩
  rw [List.length_map]
  have eb : (bytesI (rs.flatMap Valaya.shownRec)).length = (rs.flatMap Valaya.shownRec).length := by
    unfold bytesI
    rw [List.length_map]
  rw [← eb] at q
  exact len_list q (by omega) (s1.trans s2) hp z nz
/-! ### leaves, their widths -/
def OutL (K : PySem.W.Frag) (H : Hp) (E : XK) (rs : List Rec) (n : Int) (k : Rec → Prop) : Prop := OutH K H E rs (OutO K H E "NoSuchRecord" (-2) ((pick n rs.length).bind fun k => rs[k]?) k)
theorem ask_leaves {H : Hp} {E : XK} {rs : List Rec} {h : Addr} {n : Int} {Q : VK} {k : Rec → Prop} (hH : HoldAt K H h rs) (q : OutL K H E rs n k) (c : ∀ r ∈ rs, k r → ∀ (lv : Addr) (ls : List Addr), H lv = some (.lst (ls.map V.ref)) → LeafL K H ls (Valaya.leavesOf r.t) → Q (.ref lv) H) : spLeavesOf K [.ref h, .int n] H Q E := by
  refine ⟨h, n, rs, rfl, hH, q.1, fun ne => ?_⟩
  have q := q.2 ne
  cases e : (pick n rs.length).bind fun k => rs[k]? with
  | none =>
    rw [e] at q
    exact q
  | some r =>
    rw [e] at q
    have hm : r ∈ rs := by
      obtain ⟨j, _, hj⟩ := Option.bind_eq_some_iff.mp e
      exact List.mem_of_getElem? hj
    exact c r hm q
def widthsL (t : Ty) : List Int := (Valaya.leavesOf t).map fun f => (Valaya.width f : Int)
def spTellLeaves (K : PySem.W.Frag) : Sp := fun vs H Q E => ∃ (h : Addr) (n : Int) (rs : List Rec), vs = [.ref h, .int n] ∧ HoldAt K H h rs ∧ Held rs ∧ OutL K H E rs n fun r => kList H Q ([((widthsL r.t).length : Int), (widthsL r.t).sum] ++ widthsL r.t)
theorem ok_tell_leaves (T : Txt K mg) : FnAt P w K mg base (L2.CX P w) 7 "tell_leaves" ["holder", "record"] (spTellLeaves K) := by
  have G_Holder_leaves_of := ok_Holder_leaves_of (P := P) (w := w) (base := base) T
  have G_Leaf_width := ok_Leaf_width (P := P) (w := w) (base := base) T
  refine T.d_tell_leaves.okX sc_tell_leaves (fun vs H Q E h => by obtain ⟨h, n, rs, rfl, _⟩ := h; rfl) fun f cdv A outer s H vs Q E hr h tk => ?_
  obtain ⟨h, n, rs, rfl, hH, hrs, q⟩ := h
  obtain ⟨rl, as, ⟨dx, hh⟩, hl, hL⟩ := id hH
  refine ⟨_, (pss_cons (ps_setLc (i := 2) (own := [("leaf", 3)]) (g := (gName 3)) (tt := tYes) (by rfl) sc_tell_leaves.nd rfl rfl (sw_true rfl rfl rfl (by decide +kernel)) (pi_list (pe_meX (pv 0) G_Holder_leaves_of hr (by first | decide | omega) tk (pa_cons (pv 1) pa_nil))) (blkOk_by (own := [("leaf", 3)]) (N := ["holder", "record", "widths", "leaf"]) (sc := defScope s_tell_leaves) (by decide +kernel)) (fun _ _ _ _ _ => by exact (pg_name (i := 3) sc_tell_leaves.nd rfl (Or.inl rfl))) (fun _ _ _ _ _ => pts_nil) (fun _ _ _ _ _ => by exact (pe_me0 (pv 3) G_Leaf_width hr (by first | decide | omega))))
  (pss_one (ps_ret (pe_op op_cat (pe_lst (pa_cons (pe_callB call_len_seq (by rfl) T.f_len PySem.boot_len (pa_cons (pv 2) pa_nil)) (pa_cons (pe_callB (cr_sum rfl) (by rfl) T.f_sum (by decide +kernel) (pa_cons (pv 2) pa_nil)) pa_nil))) (pv 2))))), ?_⟩
  refine ⟨_, rfl, h, dx, _, rfl, hh, rfl, argS rfl (ask_leaves hH q fun r hr q lv ls hlv hls => ?_)⟩
  have hfr := hrs.fine r hr
  have hn24 : (Valaya.leavesOf r.t).length ≤ 24 := by
    unfold Valaya.leavesOf
    rw [leaves_length]
    exact hfr.lv
  refine ⟨lv, rfl, ⟨_, SqL.of hlv⟩, fun D nD => lc_to (K := K) (a := lv) (ys := (widthsL r.t).map V.int) nD (SqL.of hlv) (by unfold widthsL; simp only [List.length_map]; exact (paired_len hls).symm) (fun i y v H4 hy hv s4 e4 => ?_) fun H4 s4 e4 => ?_⟩
  · obtain ⟨b, hb, rfl⟩ := ref_item hy
    obtain ⟨f, hf, hfa⟩ := paired_at hls hb
    have ev : v = V.int (Valaya.width f : Int) := by
      unfold widthsL at hv
      rw [List.getElem?_map, List.getElem?_map, hf] at hv
      exact (Option.some.inj hv).symm
    have hfa4 := hfa.keeps (same_keeps (K := K) s4)
    obtain ⟨g, ⟨db, hbi⟩, _⟩ := id hfa4
    have hin := leaf_in hfr.fine 0 [] 1 [] none f (List.mem_of_getElem? hf)
    obtain ⟨i1, i2, i3⟩ := hin
    refine ⟨rfl, ?_⟩
    refine ⟨_, rfl, b, db, _, rfl, hbi, rfl, b, f, rfl, hfa4, i1, by omega, ?_⟩
    rw [← ev]
    exact lc_put nD s4 e4 hv (by unfold widthsL; simp only [List.length_map]; rw [sizeLine_eq]; omega)
  · have hwl : (widthsL r.t).length ≤ 24 := by
      unfold widthsL
      rw [List.length_map]
      exact hn24
    refine ⟨_, rfl, D, _, rfl, .inl (SqL.of e4), _, rfl, D, _, rfl, SqL.of e4, (by show 2 ≤ sizeLine; decide), fun z nz => ⟨_, rfl, ?_⟩⟩
    rw [List.length_map]
    have s5 : Same H4 (upd H4 z (.lst [.int (widthsL r.t).length, .int (widthsL r.t).sum])) := same_upd nz
    refine ⟨z, D, _, _, rfl, rfl, upd_same, s5 _ _ e4, ?_, fun t nt => ?_⟩
    · rw [List.length_map, sizeLine_eq]
      show 2 + _ ≤ _
      omega
    · refine q t _ ((s4.trans s5).free nt) ((s4.trans s5).trans (same_upd nt)) ?_
      rw [upd_same, List.map_append]
      rfl
/-! ### codes -/
theorem codeFold_length : ∀ {fs : List Leaf} {s s' : List Int × List Int}, codeFold fs s = some s' → s'.1.length = s.1.length + fs.length
  | [], s, s', h => by
    cases h
    rfl
  | f :: fs, s, s', h => by
    have h : (codeStep f s).bind (codeFold fs) = some s' := h
    cases e : codeStep f s with
    | none =>
      rw [e] at h
      cases h
    | some s1 =>
      rw [e] at h
      have := codeFold_length (s := s1) h
      have e1 : s1.1.length = s.1.length + 1 := by
        unfold codeStep at e
        split at e
        · split at e
          · split at e
            · cases e
              simp
            · cases e
          · cases e
        · cases e
          simp
      rw [this, e1, List.length_cons]
      omega
theorem codesIn_length {fs : List Leaf} {v cs : List Int} (h : codesIn fs v = some cs) : cs.length = fs.length := by
  unfold codesIn at h
  obtain ⟨s, hs, h⟩ := Option.bind_eq_some_iff.mp h
  split at h
  · cases h
    rw [codeFold_length hs]
    simp
  · cases h
theorem guards_small {rs : List Rec} (h : Held rs) {r : Rec} (hr : r ∈ rs) : ∀ f ∈ Valaya.leavesOf r.t, f.guards.length ≤ 5000 := fun f hf => by
  have := (h.ok.nb r hr f hf).2
  omega
theorem leaves_small {rs : List Rec} (h : Held rs) {r : Rec} (hr : r ∈ rs) : (Valaya.leavesOf r.t).length ≤ 24 := by
  unfold Valaya.leavesOf
  rw [leaves_length]
  exact (h.fine r hr).lv
def spTellCodes (K : PySem.W.Frag) : Sp := fun vs H Q E => ∃ (h vl : Addr) (n : Int) (rs : List Rec) (v : List Int), vs = [.ref h, .int n, .ref vl] ∧ HoldAt K H h rs ∧ Held rs ∧ SqL K H vl (v.map V.int) ∧ OutL K H E rs n fun r => OutO K H E "NoValue" (-4) (codesIn (Valaya.leavesOf r.t) v) fun cs => kList H Q ([(cs.length : Int)] ++ cs)
theorem ok_tell_codes (T : Txt K mg) : FnAt P w K mg base (L2.CX P w) 7 "tell_codes" ["holder", "record", "value"] (spTellCodes K) := by
  have G_Holder_leaves_of := ok_Holder_leaves_of (P := P) (w := w) (base := base) T
  have G_codes_of := ok_codes_of (P := P) (w := w) (base := base) T
  refine T.d_tell_codes.okX sc_tell_codes (fun vs H Q E h => by obtain ⟨h, vl, n, rs, v, rfl, _⟩ := h; rfl) fun f cdv A outer s H vs Q E hr h tk => ?_
  obtain ⟨h, vl, n, rs, v, rfl, hH, hrs, hv, q⟩ := h
  obtain ⟨rl, as, ⟨dx, hh⟩, hl, hL⟩ := id hH
  refine ⟨_, (pss_cons (ps_set (i := 3) sc_tell_codes.nd rfl (Or.inl rfl) (pe_fnX G_codes_of hr (by first | decide | omega) tk (pa_cons (pe_meX (pv 0) G_Holder_leaves_of hr (by first | decide | omega) tk (pa_cons (pv 1) pa_nil)) (pa_cons (pv 2) pa_nil))))
  (pss_one (ps_ret (pe_op op_cat (pe_lst (pa_cons (pe_callB call_len_seq (by rfl) T.f_len PySem.boot_len (pa_cons (pv 3) pa_nil)) pa_nil)) (pv 3))))), ?_⟩
  refine ⟨_, rfl, h, dx, _, rfl, hh, rfl, argS rfl (ask_leaves hH q fun r hr q lv ls hlv hls => ?_)⟩
  have h24 := leaves_small hrs hr
  refine ⟨_, rfl, lv, vl, ls, _, v, rfl, hlv, hls, ahead_of _, guards_small hrs hr, by omega, hv, ?_⟩
  cases e : codesIn (Valaya.leavesOf r.t) v with
  | none =>
    rw [e] at q
    exact q
  | some cs =>
    rw [e] at q
    intro p H2 np s2 hp
    refine ⟨_, rfl, p, _, rfl, .inl (SqL.of hp), (by show 1 ≤ sizeLine; decide), fun z nz => ⟨_, rfl, ?_⟩⟩
    rw [List.length_map]
    exact len_list q (by rw [codesIn_length e]; omega) s2 hp z nz
/-! ### a leaf -/
def leafRow (f : Leaf) : List Int := ([1, (f.name.length : Int)] ++ bytesI f.name) ++ [f.lo, f.hi, (Valaya.width f : Int), (f.kind : Int), (f.align : Int), (f.hot : Int), (f.guards.length : Int)] ++ f.guards.flatMap fun g => [(g.1 : Int), (g.2 : Int)]
def spTellLeaf (K : PySem.W.Frag) : Sp := fun vs H Q E => ∃ (h : Addr) (n m : Int) (rs : List Rec), vs = [.ref h, .int n, .int m] ∧ HoldAt K H h rs ∧ Held rs ∧ OutL K H E rs n fun r => OutO K H E "NoSuchLeafOrValue" (-3) ((pick m (Valaya.leavesOf r.t).length).bind fun k => (Valaya.leavesOf r.t)[k]?) fun f => kList H Q (leafRow f)
theorem ok_tell_leaf (T : Txt K mg) : FnAt P w K mg base (L2.CX P w) 7 "tell_leaf" ["holder", "record", "number"] (spTellLeaf K) := by
  have G_Holder_leaves_of := ok_Holder_leaves_of (P := P) (w := w) (base := base) T
  have G_NoSuchLeafOrValue := ok_NoSuchLeafOrValue (P := P) (w := w) (base := base) T
  have G_bytes_of := ok_bytes_of (P := P) (w := w) (base := base) T
  have G_Leaf_width := ok_Leaf_width (P := P) (w := w) (base := base) T
  refine T.d_tell_leaf.okX sc_tell_leaf (fun vs H Q E h => by obtain ⟨h, n, m, rs, rfl, _⟩ := h; rfl) fun f cdv A outer s H vs Q E hr h tk => ?_
  obtain ⟨h, n, m, rs, rfl, hH, hrs, q⟩ := h
  obtain ⟨rl, as, ⟨dx, hh⟩, hl, hL⟩ := id hH
  refine ⟨_, (pss_cons (ps_set (i := 3) sc_tell_leaf.nd rfl (Or.inl rfl) (pe_meX (pv 0) G_Holder_leaves_of hr (by first | decide | omega) tk (pa_cons (pv 1) pa_nil)))
  (pss_cons (ps_if (pt_not (pt_chain op_le op_lt pe_int (pv 2) (pe_callB call_len_seq (by rfl) T.f_len PySem.boot_len (pa_cons (pv 3) pa_nil)))) (pss_one (ps_raise rfl tk (pmk_rz0 G_NoSuchLeafOrValue hr (by first | decide | omega)))) pss_nil)
  (pss_cons (ps_set (i := 4) sc_tell_leaf.nd rfl (Or.inl rfl) (pe_ix ix_list (pv 3) (pv 2) (fun _ _ => rfl)))
  (pss_cons (ps_set (i := 5) sc_tell_leaf.nd rfl (Or.inl rfl) (pe_fn G_bytes_of hr (by first | decide | omega) (pa_cons (pe_fl T.c_Leaf T.na_Leaf_name (pv 4)) pa_nil)))
  (pss_cons (ps_set (i := 6) sc_tell_leaf.nd rfl (Or.inl rfl) (pe_op op_cat (pe_lst (pa_cons pe_int (pa_cons (pe_callB call_len_seq (by rfl) T.f_len PySem.boot_len (pa_cons (pv 5) pa_nil)) pa_nil))) (pv 5)))
  (pss_cons (ps_expr (pe_bm PySem.F.plainAttrs_list PySem.F.slot_list_extend PySem.F.type_list_extend mt_extend (pv 6) (pa_cons (pe_lst (pa_cons (pe_fl T.c_Leaf T.na_Leaf_least (pv 4)) (pa_cons (pe_fl T.c_Leaf T.na_Leaf_greatest (pv 4)) (pa_cons (pe_me0 (pv 4) G_Leaf_width hr (by first | decide | omega)) (pa_cons (pe_fl T.c_Leaf T.na_Leaf_kind (pv 4)) (pa_cons (pe_fl T.c_Leaf T.na_Leaf_aligned (pv 4)) (pa_cons (pe_fl T.c_Leaf T.na_Leaf_hot (pv 4)) (pa_cons (pe_callB call_len_seq (by rfl) T.f_len PySem.boot_len (pa_cons (pe_fl T.c_Leaf T.na_Leaf_guards (pv 4)) pa_nil)) pa_nil)))))))) pa_nil)))
  (pss_cons (ps_for (passes_of rfl) rfl (pi_tup (pe_fl T.c_Leaf T.na_Leaf_guards (pv 4))) (pg_tup rfl (pgs_cons (pg_name (i := 7) sc_tell_leaf.nd rfl (Or.inl rfl)) (pgs_cons (pg_name (i := 8) sc_tell_leaf.nd rfl (Or.inl rfl)) pgs_nil))) (pss_one (ps_expr (pe_bm PySem.F.plainAttrs_list PySem.F.slot_list_extend PySem.F.type_list_extend mt_extend (pv 6) (pa_cons (pe_lst (pa_cons (pv 7) (pa_cons (pv 8) pa_nil))) pa_nil)))))
  (pss_one (ps_ret (pv 6)))))))))), ?_⟩
  refine ⟨_, rfl, h, dx, _, rfl, hh, rfl, argS rfl (ask_leaves hH q fun r hr q lv ls hlv hls => ?_)⟩
  have hll : ls.length = (Valaya.leavesOf r.t).length := paired_len hls
  refine ⟨_, rfl, _, _, rfl, rfl, _, rfl, ?_⟩
  by_cases c1 : 0 ≤ m
  · refine if_t (decide_eq_true c1) ⟨_, rfl, lv, _, rfl, .inl (SqL.of hlv), _, _, rfl, rfl, _, rfl, ?_⟩
    rw [List.length_map]
    by_cases c2 : m < ls.length
    · have ek : pick m (Valaya.leavesOf r.t).length = some m.toNat := if_pos ⟨c1, by omega⟩
      have hlt : m.toNat < ls.length := by omega
      have ha : ls[m.toNat]? = some ls[m.toNat] := List.getElem?_eq_getElem hlt
      obtain ⟨f, hf, hfa⟩ := paired_at hls ha
      rw [ek, Option.bind_some, hf] at q
      have q : kList H Q (leafRow f) := q
      have hm := List.mem_of_getElem? hf
      have hin := leaf_in (hrs.fine r hr).fine 0 [] 1 [] none f hm
      obtain ⟨i1, i2, i3⟩ := hin
      have hnl := (hrs.ok.nb r hr f hm).1
      have hgl := (hrs.ok.nb r hr f hm).2
      generalize hb : ls[m.toNat] = b at *
      refine if_f (by rw [decide_eq_true c2]; rfl) ?_
      refine ⟨_, rfl, _, rfl, lv, _, _, V.ref b, rfl, rfl, SqL.of hlv, ?_, ?_⟩
      · have := atI_nat (xs := ls.map V.ref) (j := m.toNat) (v := V.ref b) (by rw [List.getElem?_map, ha]; rfl)
        rwa [Int.toNat_of_nonneg c1] at this
      obtain ⟨g, ⟨db, hbi⟩, hga⟩ := id hfa
      obtain ⟨gas, g1, g2, g3⟩ := guards_len hga
      refine ⟨_, rfl, b, db, _, _, rfl, hbi, rfl, f.name, rfl, by omega, fun p H2 np s2 hp => ?_⟩
      have hbl : (bytesI f.name).length = f.name.length := by
        unfold bytesI
        rw [List.length_map]
      refine ⟨_, rfl, p, _, rfl, .inl (SqL.of hp), (by show 2 ≤ sizeLine; decide), fun z nz => ⟨_, rfl, ?_⟩⟩
      rw [List.length_map, hbl]
      have s3 : Same H2 (upd H2 z (.lst [.int 1, .int f.name.length])) := same_upd nz
      refine ⟨z, p, _, _, rfl, rfl, upd_same, s3 _ _ hp, ?_, fun t nt => ?_⟩
      · rw [List.length_map, hbl, sizeLine_eq]
        show 2 + _ ≤ _
        omega
      have s4 := same_upd (o := .lst ([V.int 1, V.int f.name.length] ++ (bytesI f.name).map V.int)) nt
      have st := s2.trans (s3.trans s4)
      have nt0 : H t = none := (s2.trans s3).free nt
      have ht4 : (upd (upd H2 z (.lst [.int 1, .int f.name.length])) t (.lst ([V.int 1, V.int f.name.length] ++ (bytesI f.name).map V.int))) t = some (.lst (([1, (f.name.length : Int)] ++ bytesI f.name).map V.int)) := by
        rw [upd_same, List.map_append]
        rfl
      generalize upd (upd H2 z (.lst [.int 1, .int f.name.length])) t (.lst ([V.int 1, V.int f.name.length] ++ (bytesI f.name).map V.int)) = H4 at *
      have hb4 := st _ _ hbi
      have hfa4 := hfa.keeps (same_keeps (K := K) st)
      have g4 := SqT.same st g1
      refine ⟨_, rfl, .inl ⟨rfl, _, SqL.of ht4⟩, _, rfl, b, db, _, _, rfl, hb4, rfl, _, rfl, b, db, _, _, rfl, hb4, rfl, _, rfl, b, db, _, rfl, hb4, rfl, b, f, rfl, hfa4, i1, by omega, _, rfl, b, db, _, _, rfl, hb4, rfl, _, rfl, b, db, _, _, rfl, hb4, rfl, _, rfl, b, db, _, _, rfl, hb4, rfl, _, rfl, b, db, _, _, rfl, hb4, rfl, g, _, rfl, .inr g4, (by show 7 ≤ sizeLine; decide), fun x nx => ?_⟩
      have htx : t ≠ x := ne_of_none ht4 nx
      refine ⟨t, x, _, _, rfl, rfl, (upd_ne htx).trans ht4, upd_same, ?_, ?_⟩
      · rw [List.length_map, List.length_append, hbl, sizeLine_eq]
        show 2 + _ + 7 ≤ _
        omega
      rw [List.length_map, g3]
      have s5 : Same H4 (upd H4 x (.lst [.int f.lo, .int f.hi, .int (Valaya.width f : Nat), .int f.kind, .int f.align, .int f.hot, .int f.guards.length])) := same_upd nx
      have s6 : Same H (upd (upd H4 x (.lst [.int f.lo, .int f.hi, .int (Valaya.width f : Nat), .int f.kind, .int f.align, .int f.hot, .int f.guards.length])) t (.lst (([1, (f.name.length : Int)] ++ bytesI f.name).map V.int ++ [.int f.lo, .int f.hi, .int (Valaya.width f : Nat), .int f.kind, .int f.align, .int f.hot, .int f.guards.length]))) := same_lst nt0 (st.trans s5)
      have ht6 : (upd (upd H4 x (.lst [.int f.lo, .int f.hi, .int (Valaya.width f : Nat), .int f.kind, .int f.align, .int f.hot, .int f.guards.length])) t (.lst (([1, (f.name.length : Int)] ++ bytesI f.name).map V.int ++ [.int f.lo, .int f.hi, .int (Valaya.width f : Nat), .int f.kind, .int f.align, .int f.hot, .int f.guards.length]))) t = some (.lst ((([1, (f.name.length : Int)] ++ bytesI f.name) ++ [f.lo, f.hi, (Valaya.width f : Int), (f.kind : Int), (f.align : Int), (f.hot : Int), (f.guards.length : Int)]).map V.int)) := by
        rw [upd_same, List.map_append (l₁ := [1, (f.name.length : Int)] ++ bytesI f.name)]
        rfl
      generalize upd (upd H4 x (.lst [.int f.lo, .int f.hi, .int (Valaya.width f : Nat), .int f.kind, .int f.align, .int f.hot, .int f.guards.length])) t (.lst (([1, (f.name.length : Int)] ++ bytesI f.name).map V.int ++ [.int f.lo, .int f.hi, .int (Valaya.width f : Nat), .int f.kind, .int f.align, .int f.hot, .int f.guards.length])) = H6 at *
      have hpre : (([1, (f.name.length : Int)] ++ bytesI f.name) ++ [f.lo, f.hi, (Valaya.width f : Int), (f.kind : Int), (f.align : Int), (f.hot : Int), (f.guards.length : Int)]).length ≤ 2000 := by
        rw [List.length_append, List.length_append, hbl]
        show 2 + _ + 7 ≤ _
        omega
      generalize hpr : (([1, (f.name.length : Int)] ++ bytesI f.name) ++ [f.lo, f.hi, (Valaya.width f : Int), (f.kind : Int), (f.align : Int), (f.hot : Int), (f.guards.length : Int)]) = pre at *
      refine ⟨_, rfl, b, db, _, _, rfl, s6 _ _ hbi, rfl, g, rfl, ⟨_, SqT.same s6 g1⟩, ?_⟩
      refine for_it (walk_tup (K := K) (a := g) (xs := gas.map V.ref)) (fun i σ H' => ∃ (v7 v8 : Option V), σ = [some (.ref h), some (.int n), some (.int m), some (.ref lv), some (.ref b), some (.ref p), some (.ref t), v7, v8] ∧ Same H H' ∧ H' t = some (.lst ((pre ++ (f.guards.take i).flatMap fun g => [(g.1 : Int), (g.2 : Int)]).map V.int)))
        ⟨none, none, rfl, s6, by simpa using ht6⟩ (fun i σ H' _ z => by obtain ⟨v7, v8, _, s7, _⟩ := z; exact SqT.same s7 g1) ?_ ?_
      · rintro i y σ H7 H8 hi ⟨v7, v8, rfl, s7, ht7⟩ ⟨e8, hy⟩
        subst e8
        obtain ⟨ga, hga', rfl⟩ := ref_item hy
        obtain ⟨pr, hpr', hpa⟩ := paired_at g2 hga'
        have hpb : H8 ga = some (.tup [.int pr.1, .int pr.2]) := s7 _ _ hpa
        refine ⟨ga, _, rfl, SqT.of hpb, rfl, _, _, rfl, _, _, rfl, rfl, ?_⟩
        refine ⟨_, rfl, .inl ⟨rfl, _, SqL.of ht7⟩, _, rfl, _, rfl, (by show 2 ≤ sizeLine; decide), fun x2 nx2 => ?_⟩
        have htx2 : t ≠ x2 := ne_of_none ht7 nx2
        have hfl : ∀ l : List (Nat × Nat), (l.flatMap fun g => [(g.1 : Int), (g.2 : Int)]).length = 2 * l.length := by
          intro l
          induction l with
          | nil => rfl
          | cons a l ih => rw [List.flatMap_cons, List.length_append, ih, List.length_cons]; simp; omega
        refine ⟨t, x2, _, _, rfl, rfl, (upd_ne htx2).trans ht7, upd_same, ?_, ?_⟩
        · rw [List.length_map, List.length_append, hfl, List.length_take, sizeLine_eq]
          show _ + 2 ≤ _
          omega
        · refine ⟨_, _, rfl, same_lst nt0 (s7.trans (same_upd nx2)), ?_⟩
          rw [upd_same, ← take_snoc hpr', List.flatMap_append, ← List.append_assoc, List.map_append (l₁ := pre ++ _)]
          rfl
      · rintro σ H7 ⟨v7, v8, rfl, s7, ht7⟩
        rw [List.length_map, g3, List.take_length] at ht7
        refine ⟨_, rfl, q t H7 nt0 s7 ?_⟩
        unfold leafRow
        rw [hpr]
        exact ht7
    · have ek : pick m (Valaya.leavesOf r.t).length = none := if_neg fun z => c2 (by omega)
      rw [ek] at q
      exact if_t (by rw [decide_eq_false c2]; rfl) (ref_at (K := K) q)
  · have ek : pick m (Valaya.leavesOf r.t).length = none := if_neg fun z => c1 z.1
    rw [ek] at q
    exact if_f (decide_eq_false c1) ⟨_, rfl, if_t rfl (ref_at (K := K) q)⟩
end
end Lv
set_option Elab.async false
set_option linter.all false
set_option maxRecDepth 100000
set_option maxHeartbeats 4000000
/-! A list of whole numbers is none of the lists that records lie in. -/
namespace Lv
open PySem PySem.Spec PyProof.Rows L2 TL
open Valaya (Ty Rec Leaf)
/-- as Keeps, but of the lists only those of objects that are not empty -/
structure KeepsN (K : PySem.W.Frag) (H H' : Hp) : Prop where
  ins : ∀ a C fs, Ins H a C fs → Ins H' a C fs
  lst : ∀ a (bs : List Addr), bs ≠ [] → H a = some (.lst (bs.map V.ref)) → H' a = some (.lst (bs.map V.ref))
  tup : ∀ a xs, SqT K H a xs → SqT K H' a xs
  tup1 : ∀ a xs, H a = some (.tup xs) → H' a = some (.tup xs)
section
variable {K : PySem.W.Frag}
theorem keepsN_put {H : Hp} {t : Addr} {xs : List Int} {o : HO} (h : H t = some (.lst (xs.map V.int))) : KeepsN K H (upd H t o) := by
  refine ⟨fun a C fs hi => ?_, fun a bs hb ha => ?_, fun a ys ha => ?_, fun a ys ha => ?_⟩
  · obtain ⟨d, hi⟩ := hi
    exact ⟨d, by rw [upd_ne fun z => by rw [z, h] at hi; cases hi]; exact hi⟩
  · rw [upd_ne fun z => ?_]
    · exact ha
    · rw [z, h] at ha
      injection ha with ha
      injection ha with ha
      cases bs with
      | nil => exact hb rfl
      | cons b bs =>
        cases xs with
        | nil => cases ha
        | cons x xs => cases ha
  · rcases ha with (ha | ⟨u, ha⟩) | ha
    · exact .inl (.inl (by rw [upd_ne fun z => by rw [z, h] at ha; cases ha]; exact ha))
    · exact .inl (.inr ⟨u, by rw [upd_ne fun z => by rw [z, h] at ha; cases ha]; exact ha⟩)
    · exact .inr ha
  · rw [upd_ne fun z => by rw [z, h] at ha; cases ha]
    exact ha
theorem LeafL.keepsN {H H' : Hp} {as : List Addr} {fs : List Leaf} (h : LeafL K H as fs) (k : KeepsN K H H') : LeafL K H' as fs := paired_mono (fun _ _ z => by
  obtain ⟨g, h1, gs, h2, h3⟩ := z
  exact ⟨g, k.ins _ _ _ h1, gs, k.tup _ _ h2, paired_mono (fun _ _ z => k.tup1 _ _ z) h3⟩) h
theorem row_ne {H : Hp} {f : Bool} {fs : Ty} {bs : List Addr} (h1 : isRow fs = true) (h2 : Fine fs) (h3 : 1 ≤ Valaya.rowLength fs) (h : Lays K H fs f bs) : bs ≠ [] := fun z => by
  have := paired_len (Lays.row h1 h2 h)
  rw [z, rowL_length] at this
  simp at this
  omega
theorem leaf_ne {H : Hp} {t : Ty} {ls : List Addr} (hf : Fine t) (hr : isRow t = false) (h : LeafL K H ls (Valaya.leavesOf t)) : ls ≠ [] := fun z => by
  have := paired_len h
  unfold Valaya.leavesOf at this
  rw [z, leaves_length] at this
  have := leaves_pos hf (.inl hr)
  simp at *
  omega
theorem InnerOf.keepsN {H H' : Hp} {bs cs : List Addr} (h : InnerOf K H bs cs) (k : KeepsN K H H') : InnerOf K H' bs cs := paired_mono (fun _ _ z => by
  obtain ⟨x, hh, z⟩ := z
  exact ⟨x, hh, k.ins _ _ _ z⟩) h
theorem inner_ne {H : Hp} {bs cs : List Addr} (hb : bs ≠ []) (h : InnerOf K H bs cs) : cs ≠ [] := fun z => by
  have := paired_len h
  rw [z] at this
  exact hb (List.eq_nil_of_length_eq_zero this)
theorem Lays.keepsN {H H' : Hp} (k : KeepsN K H H') : ∀ (t : Ty) (f : Bool) (as : List Addr), Fine t → Lays K H t f as → Lays K H' t f as := by
  intro t
  induction t with
  | num lo hi al =>
    intro f as _ h
    obtain ⟨a, e, h1⟩ := h
    exact ⟨a, e, k.ins _ _ _ h1⟩
  | maybe t ih =>
    intro f as hf h
    obtain ⟨a, b, e, h1, h2⟩ := h
    exact ⟨a, b, e, k.ins _ _ _ h1, ih _ _ hf.2 h2⟩
  | many n t ih =>
    intro f as hf h
    obtain ⟨a, b, e, h1, h2⟩ := h
    exact ⟨a, b, e, k.ins _ _ _ h1, ih _ _ hf.2.2.2 h2⟩
  | one_ fs ih =>
    intro f as hf h
    obtain ⟨a, l, bs, e, h1, h2, h3⟩ := h
    exact ⟨a, l, bs, e, k.ins _ _ _ h1, k.lst _ _ (row_ne hf.1 hf.2.2.2 (by have := hf.2.1; omega) h3) h2, ih _ _ hf.2.2.2 h3⟩
  | named x t ih =>
    intro f as hf h
    obtain ⟨a, r, l, lv, pl, bs, ls, cs, e, h1, h2, h3, h4, h5, h6, h7, h8⟩ := h
    have h4' := ih _ _ hf.2.2 h4
    obtain ⟨_, ⟨fs, rfl⟩, hft⟩ := hf
    exact ⟨a, r, l, lv, pl, bs, ls, cs, e, k.ins _ _ _ h1, k.ins _ _ _ h2, k.lst _ _ (row_ne hft.1 hft.2.2 hft.2.1 h4) h3, h4', k.lst _ _ (leaf_ne hft rfl h6) h5, h6.keepsN k, k.lst _ _ (inner_ne (row_ne hft.1 hft.2.2 hft.2.1 h4) h8) h7, h8.keepsN k⟩
  | rec_ fs ih =>
    intro f as hf h
    exact ih _ _ hf.2.2 h
  | nil =>
    intro f as _ h
    exact h
  | field x hh t r iht ihr =>
    intro f as hf h
    obtain ⟨b, c, bs, e, h1, h2, h3⟩ := h
    refine ⟨b, c, bs, e, ?_, iht _ _ hf.2.2.2.2.1 h2, ihr _ _ hf.2.2.2.2.2.2 h3⟩
    by_cases hb : f = true
    · rw [if_pos hb] at h1 ⊢
      exact k.ins _ _ _ h1
    · rw [if_neg hb] at h1 ⊢
      exact k.ins _ _ _ h1
theorem RecAt.keepsN {H H' : Hp} (k : KeepsN K H H') {r : Addr} {x : ValayBase.Bytes} {t : Ty} (hf : Fine t) (hr : ∃ fs, t = .rec_ fs) (h : RecAt K H r x t) : RecAt K H' r x t := by
  obtain ⟨l, lv, pl, bs, ls, cs, h2, h3, h4, h5, h6, h7, h8⟩ := h
  obtain ⟨fs, rfl⟩ := hr
  exact ⟨l, lv, pl, bs, ls, cs, k.ins _ _ _ h2, k.lst _ _ (row_ne hf.1 hf.2.2 hf.2.1 h4) h3, Lays.keepsN k _ _ _ hf h4, k.lst _ _ (leaf_ne hf rfl h6) h5, h6.keepsN k, k.lst _ _ (inner_ne (row_ne hf.1 hf.2.2 hf.2.1 h4) h8) h7, h8.keepsN k⟩
theorem RecL.keepsN {H H' : Hp} (k : KeepsN K H H') : ∀ {as : List Addr} {rs : List Rec}, (∀ r ∈ rs, RecFine r) → RecL K H as rs → RecL K H' as rs
  | _, _, _, .nil => .nil
  | _, _, hf, .cons h t => .cons (RecAt.keepsN k (hf _ (List.mem_cons_self ..)).fine (hf _ (List.mem_cons_self ..)).row h) (RecL.keepsN k (fun r hr => hf r (List.mem_cons_of_mem _ hr)) t)
end
end Lv
set_option linter.all false
/-! The calls, out of the one list of numbers. -/
namespace Lv
/-- a call that may be handed in -/
inductive Form : List (List Int) → Prop
  | load (b : List Int) (h : ∀ z ∈ b, 0 ≤ z ∧ z ≤ 255) (hl : b.length ≤ 8192) : Form [[0], b]
  | shown : Form [[1]]
  | leaves (r : Int) : Form [[2, r]]
  | leaf (r i : Int) : Form [[3, r, i]]
  | codes (r : Int) (v : List Int) (hl : v.length ≤ 2000) : Form [[4, r], v]
  | value (r : Int) (v : List Int) (hl : v.length ≤ 2000) : Form [[5, r], v]
  | count (r : Int) : Form [[6, r]]
  | nth (r n : Int) : Form [[7, r, n]]
  | index (r : Int) (v : List Int) (hl : v.length ≤ 2000) : Form [[8, r], v]
theorem len0 {α : Type} {l : List α} (h : l.length = 0) : l = [] := List.eq_nil_of_length_eq_zero h
theorem len1 {α : Type} {l : List α} (h : l.length = 1) : ∃ a, l = [a] := by
  match l, h with
  | [a], _ => exact ⟨a, rfl⟩
theorem len2 {α : Type} {l : List α} (h : l.length = 2) : ∃ a b, l = [a, b] := by
  match l, h with
  | [a, b], _ => exact ⟨a, b, rfl⟩
theorem list_bound {lo hi : Int} {n : Nat} {v : List Int} (h : PyInside.lists [(lo, hi, 0, n)] [v] = true) : v.length ≤ n ∧ ∀ z ∈ v, lo ≤ z ∧ z ≤ hi := by
  have h : (decide (0 ≤ v.length) && decide (v.length ≤ n) && v.all (PyInside.within lo hi) && true) = true := h
  simp only [Bool.and_eq_true, decide_eq_true_eq, List.all_eq_true, PyInside.within] at h
  exact ⟨h.1.1.2, fun z hz => h.1.2 z hz⟩
theorem form_of {c : List (List Int)} (h : PyFlat.okCall PyValaya.shape c) (hb : PyInside.call PyValaya.bound c = true) : Form c := by
  obtain ⟨p, a, xs, rfl, hs⟩ := h
  have hb : (PyInside.each (PyValaya.bound p).1 a && PyInside.lists (PyValaya.bound p).2 xs) = true := hb
  unfold PyValaya.shape at hs
  by_cases h0 : p = 0
  · subst h0
    rw [if_pos rfl] at hs
    injection hs with hs
    injection hs with e1 e2
    obtain rfl := len0 e1.symm
    obtain ⟨b, rfl⟩ := len1 e2.symm
    obtain ⟨l1, l2⟩ := list_bound (Bool.and_eq_true_iff.mp hb).2
    exact .load b l2 l1
  rw [if_neg h0] at hs
  by_cases h1 : p = 1
  · subst h1
    rw [if_pos rfl] at hs
    injection hs with hs
    injection hs with e1 e2
    obtain rfl := len0 e1.symm
    obtain rfl := len0 e2.symm
    exact .shown
  rw [if_neg h1] at hs
  by_cases h2 : p = 2
  · subst h2
    rw [if_pos rfl] at hs
    injection hs with hs
    injection hs with e1 e2
    obtain ⟨x, rfl⟩ := len1 e1.symm
    obtain rfl := len0 e2.symm
    exact .leaves x
  rw [if_neg h2] at hs
  by_cases h3 : p = 3
  · subst h3
    rw [if_pos rfl] at hs
    injection hs with hs
    injection hs with e1 e2
    obtain ⟨x, y, rfl⟩ := len2 e1.symm
    obtain rfl := len0 e2.symm
    exact .leaf x y
  rw [if_neg h3] at hs
  by_cases h4 : p = 4
  · subst h4
    rw [if_pos rfl] at hs
    injection hs with hs
    injection hs with e1 e2
    obtain ⟨x, rfl⟩ := len1 e1.symm
    obtain ⟨b, rfl⟩ := len1 e2.symm
    exact .codes x b (list_bound (Bool.and_eq_true_iff.mp hb).2).1
  rw [if_neg h4] at hs
  by_cases h5 : p = 5
  · subst h5
    rw [if_pos rfl] at hs
    injection hs with hs
    injection hs with e1 e2
    obtain ⟨x, rfl⟩ := len1 e1.symm
    obtain ⟨b, rfl⟩ := len1 e2.symm
    exact .value x b (list_bound (Bool.and_eq_true_iff.mp hb).2).1
  rw [if_neg h5] at hs
  by_cases h6 : p = 6
  · subst h6
    rw [if_pos rfl] at hs
    injection hs with hs
    injection hs with e1 e2
    obtain ⟨x, rfl⟩ := len1 e1.symm
    obtain rfl := len0 e2.symm
    exact .count x
  rw [if_neg h6] at hs
  by_cases h7 : p = 7
  · subst h7
    rw [if_pos rfl] at hs
    injection hs with hs
    injection hs with e1 e2
    obtain ⟨x, y, rfl⟩ := len2 e1.symm
    obtain rfl := len0 e2.symm
    exact .nth x y
  rw [if_neg h7] at hs
  by_cases h8 : p = 8
  · subst h8
    rw [if_pos rfl] at hs
    injection hs with hs
    injection hs with e1 e2
    obtain ⟨x, rfl⟩ := len1 e1.symm
    obtain ⟨b, rfl⟩ := len1 e2.symm
    exact .index x b (list_bound (Bool.and_eq_true_iff.mp hb).2).1
  rw [if_neg h8] at hs
  cases hs
theorem whole_form {c : List (List Int)} (h : Form c) : PyValaya.whole c = c := by
  cases h <;> rfl
/-- what is known of the list that is handed in -/
theorem asked_ok {l : List Int} (h : PyValaya.answers_asked l = true) : ∃ cs, l = PyFlat.put cs ∧ (∀ c ∈ cs, Form c) ∧ cs.length ≤ 100 ∧ PyValaya.answers l = PyFlat.told (PyFlat.played ValayaNeutral.step ValayaNeutral.start cs) ∧ (PyFlat.told (PyFlat.played ValayaNeutral.step ValayaNeutral.start cs)).length ≤ 10000000 := by
  unfold PyValaya.answers_asked at h
  cases e : PyFlat.calls PyValaya.shape l.length l with
  | none =>
    rw [e] at h
    cases h
  | some cs =>
    rw [e] at h
    have h : (!cs.isEmpty && PyFlat.atMost 100 cs && PyInside.calls PyValaya.bound cs && ValayaNeutral.asked (cs.map PyValaya.whole) && PyFlat.short 10000000 (PyValaya.answers l)) = true := h
    rw [Bool.and_eq_true, Bool.and_eq_true, Bool.and_eq_true, Bool.and_eq_true] at h
    obtain ⟨⟨⟨⟨_, h1⟩, h2⟩, _⟩, h4⟩ := h
    obtain ⟨e1, ok⟩ := PyFlat.put_calls _ _ _ e
    have hf : ∀ c ∈ cs, Form c := fun c hc => form_of (ok c hc) (List.all_eq_true.mp h2 c hc)
    have ew : cs.map PyValaya.whole = cs := by
      have : ∀ l : List (List (List Int)), (∀ c ∈ l, Form c) → l.map PyValaya.whole = l := by
        intro l
        induction l with
        | nil => intro _; rfl
        | cons a l ih =>
          intro hl
          rw [List.map_cons, whole_form (hl a (List.mem_cons_self ..)), ih fun c hc => hl c (List.mem_cons_of_mem _ hc)]
      exact this cs hf
    have ea : PyValaya.answers l = PyFlat.told (PyFlat.played ValayaNeutral.step ValayaNeutral.start cs) := by
      unfold PyValaya.answers PyValaya.calls
      rw [e]
      show PyFlat.told (PyFlat.played _ _ (cs.map PyValaya.whole)) = _
      rw [ew]
    refine ⟨cs, e1, hf, of_decide_eq_true h1, ea, ?_⟩
    rw [← ea]
    exact of_decide_eq_true h4
end Lv
set_option Elab.async false
set_option linter.all false
set_option maxRecDepth 100000
set_option maxHeartbeats 4000000
namespace Lv
open PySem PySem.Spec PyProof.Rows L2 TL
open Valaya (Ty Rec Leaf)
def objOf : List Rec → Valaya.Obj
  | [] => none
  | r :: rs => some (r :: rs)
/-- a class of refusals -/
structure RefOk (K : PySem.W.Frag) (x : Str) : Prop where
  err : Err K (He.ga K x)
  na : NoAttr K (He.ga K x) "answer"
  xm : PySem.W.exmOne K (.ref (He.ga K x)) (.ref (He.ga K "Refusal")) = some true
/-- behind a call -/
structure After (K : PySem.W.Frag) (H H' : Hp) (h ln cl : Addr) (rs' : List Rec) (ns : List Int) (j : Nat) : Prop where
  but : But2 h ln H H'
  hold : HoldAt K H' h rs'
  held : Held rs'
  same0 : rs' = [] → H' h = H h
  line : LineAt K H' ln cl ns j
def spAnswer (K : PySem.W.Frag) : Sp := fun vs H Q E => ∃ (h ln cl : Addr) (rs : List Rec) (ns : List Int) (i : Nat) (c : List (List Int)) (rest : List Int), vs = [.ref h, .ref ln] ∧ HoldAt K H h rs ∧ Held rs ∧ LineAt K H ln cl ns i ∧ ns.drop i = PyFlat.put1 c ++ rest ∧ Form c ∧
  (∀ (ans : List Int) (rs' : List Rec) (p : Addr) (H' : Hp), ValayaNeutral.step (objOf rs) c = (objOf rs', ans) → H p = none → After K H H' h ln cl rs' ns (i + (PyFlat.put1 c).length) → H' p = some (.lst (ans.map V.int)) → Q (.ref p) H') ∧
  (∀ (x : Str) (n : Int) (d : Addr) (H' : Hp), RefOk K x → ValayaNeutral.step (objOf rs) c = (objOf rs, [n]) → After K H H' h ln cl rs ns (i + (PyFlat.put1 c).length) → H' d = some (.xd (gNo n [])) → E (.ref (He.ga K x)) (some d) H')
def muT (N : Nat) (t : Addr) : L2.St → Hp → Nat := fun _ H => match H t with
  | some (.lst xs) => N - xs.length
  | _ => 0
theorem muT_at {N : Nat} {t : Addr} {σ : L2.St} {H : Hp} {xs : List V} (h : H t = some (.lst xs)) : muT N t σ H = N - xs.length := by
  unfold muT
  rw [h]
def playL (rs : List Rec) (cs : List (List (List Int))) : List Int := PyFlat.told (PyFlat.played ValayaNeutral.step (objOf rs) cs)
theorem play_cons {rs rs' : List Rec} {c : List (List Int)} {cs : List (List (List Int))} {ans : List Int} (h : ValayaNeutral.step (objOf rs) c = (objOf rs', ans)) : playL rs (c :: cs) = (ans.length : Int) :: (ans ++ playL rs' cs) := by
  unfold playL
  show (((ValayaNeutral.step (objOf rs) c).2 :: PyFlat.played _ (ValayaNeutral.step (objOf rs) c).1 cs).flatMap fun a => (a.length : Int) :: a) = _
  rw [h, List.flatMap_cons]
  rfl
def InvA (K : PySem.W.Frag) (H : Hp) (cl h ln t : Addr) (l all : List Int) : L2.St → Hp → Prop := fun σ H' => ∃ (v : Option V) (rl : Addr) (as : List Addr) (rs : List Rec) (i : Nat) (rest : List (List (List Int))) (acc : List Int), σ = [some (.ref cl), some (.ref h), some (.ref ln), some (.ref t), v, none] ∧ Same H H' ∧ Ins H' h (cH K) (holdF rl) ∧ H' rl = some (.lst (as.map V.ref)) ∧ RecL K H' as rs ∧ rl ≠ t ∧ Held rs ∧ LineAt K H' ln cl l i ∧ i ≤ l.length ∧ l.drop i = PyFlat.put rest ∧ (∀ c ∈ rest, Form c) ∧ H' t = some (.lst (acc.map V.int)) ∧ acc ++ playL rs rest = all
section
variable {P : Program} {w : World} {K : PySem.W.Frag} {mg : Str → Option Value} {base : Heap}
def spAnswers (K : PySem.W.Frag) : Sp := fun vs H Q _ => ∃ (cl : Addr) (l : List Int) (cs : List (List (List Int))), vs = [.ref cl] ∧ SqL K H cl (l.map V.int) ∧ l = PyFlat.put cs ∧ (∀ c ∈ cs, Form c) ∧ (playL [] cs).length ≤ 10000000 ∧ kList H Q (playL [] cs)
abbrev nAnswers : List Str := ["calls", "holder", "line", "told", "answer", "refusal"]
theorem body_answers (T : Txt K mg) {lv : Nat} (hlv : 2 ≤ lv) (G_answer_of : FnAt P w K mg base (L2.CX P w) lv "answer_of" ["holder", "line"] (spAnswer K)) : Body P w K mg base nAnswers "answers" s_answers lv (spAnswers K) := by
  have G_Holder := ok_Holder (P := P) (w := w) (base := base) T
  have G_Line := ok_Line (P := P) (w := w) (base := base) T
  have G_Line_ended := ok_Line_ended (P := P) (w := w) (base := base) T
  intro f cdv A outer s H vs Q E hr h
  obtain ⟨cl, l, cs, rfl, hS, hl, hF, hz, q⟩ := h
  refine ⟨_, (pss_cons (ps_set (i := 1) sc_answers.nd rfl (Or.inl rfl) (pe_mk0 G_Holder hr (by first | decide | omega)))
  (pss_cons (ps_set (i := 2) sc_answers.nd rfl (Or.inl rfl) (pe_mk G_Line hr (by first | decide | omega) (pa_cons (pv 0) pa_nil)))
  (pss_cons (ps_set (i := 3) sc_answers.nd rfl (Or.inl rfl) (pe_lst pa_nil))
  (pss_cons (ps_while PassesOwn.never (pt_not (pt_val (pe_me0 (pv 2) G_Line_ended hr (by first | decide | omega)))) (pss_cons (ps_try_as (i := 5) rfl rfl sc_answers.nd rfl rfl ⟨rfl, by decide, .inl T.e_Refusal.g⟩ L2.takes0 (fun W pn xe tk _ => by exact (pss_one (ps_set (i := 4) sc_answers.nd rfl (Or.inl rfl) (pe_fnX G_answer_of hr (by first | decide | omega) tk (pa_cons (pv 1) (pa_cons (pv 2) pa_nil)))))) (fun a oe cls d pn hz hf => by exact (pss_one (ps_set (i := 4) sc_answers.nd rfl (Or.inl rfl) (pe_lst (pa_cons (pe_errG hz hf (pv 5)) pa_nil))))))
  (pss_cons (ps_expr (pe_bm PySem.F.plainAttrs_list PySem.F.slot_list_append PySem.F.type_list_append mt_append (pv 3) (pa_cons (pe_callB call_len_seq (by rfl) T.f_len PySem.boot_len (pa_cons (pv 4) pa_nil)) pa_nil)))
  (pss_one (ps_expr (pe_bm PySem.F.plainAttrs_list PySem.F.slot_list_extend PySem.F.type_list_extend mt_extend (pv 3) (pa_cons (pv 4) pa_nil)))))))
  (pss_one (ps_ret (pv 3))))))), ?_⟩
  intro h dh nh ndh neh
  refine ⟨h, dh, rfl, upd_same, fun H1 rl nrl hh1 hrl1 b1 => ⟨rfl, ?_⟩⟩
  have s1 : Same H H1 := fun b o hb => by
    have h1 : b ≠ h := ne_of_none hb nh
    refine b1 _ _ ?_ h1
    rw [upd_ne h1, upd_ne (ne_of_none hb ndh)]
    exact hb
  refine ⟨_, rfl, fun ln dl nln ndl nel => made rfl nln ndl nel fun H2 s2 h2 => ?_⟩
  refine ⟨by decide, fun t nt => ?_⟩
  have s3 : Same H2 (upd H2 t (.lst [])) := same_upd nt
  have nt0 : H t = none := (s1.trans s2).free nt
  have nln0 : H ln = none := s1.free nln
  have hrlt : rl ≠ t := fun z => by
    have := s2 _ _ hrl1
    rw [z, nt] at this
    cases this
  have hlnh : ln ≠ h := fun z => by
    rw [z, hh1] at nln
    cases nln
  have st := s1.trans (s2.trans s3)
  have hH3 : (upd H2 t (.lst [])) h = some (.ins (cH K) dh (holdF rl)) := s3 _ _ (s2 _ _ hh1)
  have hrl3 : (upd H2 t (.lst [])) rl = some (.lst (([] : List Addr).map V.ref)) := s3 _ _ (s2 _ _ hrl1)
  have hL3 : LineAt K (upd H2 t (.lst [])) ln cl l 0 := ⟨h2.same s3, st.seq hS⟩
  have ht3 : (upd H2 t (.lst [])) t = some (.lst (([] : List Int).map V.int)) := upd_same
  generalize upd H2 t (.lst []) = H3 at *
  refine while_go (InvA K H cl h ln t l (playL [] cs)) (muT (playL [] cs).length t) ⟨none, rl, [], [], 0, cs, [], rfl, st, ⟨dh, hH3⟩, hrl3, .nil, hrlt, .inl rfl, hL3, Nat.zero_le _, by rw [List.drop_zero]; exact hl, hF, ht3, rfl⟩ ?_
  clear hH3 hrl3 hL3 ht3 hrlt hrl1 hh1
  rintro σ H' ⟨v, rl', as, rs, i, rest, acc, rfl, sH, ⟨dx', hh⟩, hrl, hR, hrlt, hHd, hLn, hil, hdr, hFm, ht, hall⟩
  obtain ⟨⟨dln, hln⟩, hSl⟩ := id hLn
  refine ⟨_, rfl, ln, dln, _, rfl, hln, rfl, ln, cl, l, i, rfl, hLn, ⟨_, rfl, ?_⟩⟩
  cases rest with
  | nil =>
    have hi : l.length ≤ i := by
      have : (l.drop i).length = 0 := by
        rw [hdr]
        rfl
      rw [List.length_drop] at this
      omega
    refine if_f (by rw [decide_eq_true (by omega)]; rfl) ⟨_, rfl, q t H' nt0 sH ?_⟩
    rw [← hall]
    show H' t = some (.lst ((acc ++ []).map V.int))
    rw [List.append_nil]
    exact ht
  | cons c rest =>
    have hput : (PyFlat.put1 c).length + (PyFlat.put rest).length = l.length - i := by
      have : (l.drop i).length = (PyFlat.put1 c ++ PyFlat.put rest).length := congrArg List.length hdr
      rw [List.length_drop, List.length_append] at this
      exact this.symm
    have hp1 : 1 ≤ (PyFlat.put1 c).length := by
      cases hFm c (List.mem_cons_self ..) <;> simp [PyFlat.put1] <;> omega
    have hi : i < l.length := by omega
    refine if_t (by rw [decide_eq_false (by omega)]; rfl) (turn_on ?_)
    have htot : acc.length + (playL rs (c :: rest)).length ≤ 10000000 := by
      rw [← hall, List.length_append] at hz
      exact hz
    have fin : ∀ (ans : List Int) (rs' : List Rec) (p : Addr) (H4 : Hp) (vp : V), ValayaNeutral.step (objOf rs) c = (objOf rs', ans) → After K H' H4 h ln cl rs' l (i + (PyFlat.put1 c).length) → H4 t = some (.lst (acc.map V.int)) →
        InvA K H cl h ln t l (playL [] cs) [some (.ref cl), some (.ref h), some (.ref ln), some (.ref t), some vp, none] (upd (upd H4 t (.lst (acc.map V.int ++ [V.int ans.length]))) t (.lst (acc.map V.int ++ [V.int ans.length] ++ ans.map V.int))) ∧
        muT (playL [] cs).length t [some (.ref cl), some (.ref h), some (.ref ln), some (.ref t), some vp, none] (upd (upd H4 t (.lst (acc.map V.int ++ [V.int ans.length]))) t (.lst (acc.map V.int ++ [V.int ans.length] ++ ans.map V.int))) < muT (playL [] cs).length t [some (V.ref cl), some (.ref h), some (.ref ln), some (.ref t), v, none] H' := fun ans rs' p H4 vp hst af ht4 => by
      have ep := play_cons (cs := rest) hst
      have eu : upd (upd H4 t (.lst (acc.map V.int ++ [V.int ans.length]))) t (.lst (acc.map V.int ++ [V.int ans.length] ++ ans.map V.int)) = upd H4 t (.lst (acc.map V.int ++ [V.int ans.length] ++ ans.map V.int)) := by
        funext b
        by_cases e : b = t
        · rw [e, upd_same, upd_same]
        · rw [upd_ne e, upd_ne e, upd_ne e]
      rw [eu]
      have eacc : acc.map V.int ++ [V.int ans.length] ++ ans.map V.int = (acc ++ ((ans.length : Int) :: ans)).map V.int := by
        rw [List.map_append, List.append_assoc]
        rfl
      rw [eacc]
      have kN : KeepsN K H4 (upd H4 t (.lst ((acc ++ ((ans.length : Int) :: ans)).map V.int))) := keepsN_put ht4
      have sH4 : Same H H4 := fun b o hb => af.but _ _ (sH _ _ hb) (ne_of_none hb nh) (ne_of_none hb nln0)
      obtain ⟨rl2, as2, i2, hrl2, hR2⟩ := af.hold
      have hrt2 : rl2 ≠ t := fun z => by
        rw [z, ht4] at hrl2
        injection hrl2 with hrl2
        injection hrl2 with hrl2
        cases as2 with
        | cons a as2 =>
          cases acc with
          | nil => cases hrl2
          | cons _ _ => cases hrl2
        | nil =>
          cases hR2
          obtain ⟨d2, i2⟩ := i2
          rw [af.same0 rfl, hh] at i2
          injection i2 with i2
          injection i2 with _ _ i2
          unfold holdF at i2
          injection i2 with i2
          injection i2 with _ i2
          injection i2 with i2
          exact hrlt (i2.trans z)
      refine ⟨⟨_, rl2, as2, rs', _, rest, _, rfl, same_lst nt0 sH4, kN.ins _ _ _ i2, by rw [upd_ne hrt2]; exact hrl2, RecL.keepsN kN af.held.fine hR2, hrt2, af.held, ⟨kN.ins _ _ _ af.line.1, (same_lst nt0 sH4).seq hS⟩, by omega, ?_, fun c hc => hFm c (List.mem_cons_of_mem _ hc), upd_same, ?_⟩, ?_⟩
      · rw [← List.drop_drop, hdr]
        show (PyFlat.put1 c ++ PyFlat.put rest).drop _ = _
        rw [PyFlat.drop_len]
      · rw [← hall, ep, List.append_assoc]
        rfl
      · rw [muT_at upd_same, muT_at ht, List.length_map, List.length_map, ← hall, List.length_append, List.length_append, ep, List.length_cons, List.length_cons]
        omega
    refine ⟨_, rfl, _, rfl, h, ln, cl, rs, l, i, c, PyFlat.put rest, rfl, ⟨rl', as, ⟨dx', hh⟩, hrl, hR⟩, hHd, hLn, hdr, hFm c (List.mem_cons_self ..), fun ans rs' p H4 hst np af hp => ?_, fun x n d H4 rx hst af hd => ?_⟩
    · have ht4 : H4 t = some (.lst (acc.map V.int)) := (af.but _ _ ht (fun z => by rw [z, hh] at ht; cases ht) (fun z => by rw [z, hln] at ht; cases ht))
      have hpt : p ≠ t := fun z => by
        rw [z, ht] at np
        cases np
      have epl := congrArg List.length (play_cons (cs := rest) hst)
      rw [List.length_cons, List.length_append] at epl
      refine ⟨_, rfl, .inl ⟨rfl, _, SqL.of ht4⟩, _, rfl, p, _, rfl, .inl (SqL.of hp), t, _, _, rfl, rfl, ht4, ?_, ?_⟩
      · rw [List.length_map, sizeLine_eq]
        omega
      rw [List.length_map]
      refine ⟨_, rfl, .inl ⟨rfl, _, SqL.of upd_same⟩, _, rfl, t, p, _, _, rfl, rfl, upd_same, (upd_ne hpt).trans hp, ?_, ?_⟩
      · rw [List.length_append, List.length_map, List.length_map, List.length_singleton, sizeLine_eq]
        omega
      exact fin ans _ p _ _ hst af ht4
    · refine ⟨true, rx.xm, fun _ a0 na0 => ?_, fun z => nomatch z⟩
      refine ⟨_, rfl, rfl, _, d, _, _, rfl, rfl, rx.err, rx.na, hd, rfl, (by show 1 ≤ sizeLine; decide), fun p np => ?_⟩
      have ht40 : H4 t = some (.lst (acc.map V.int)) := af.but _ _ ht (fun z => by rw [z, hh] at ht; cases ht) (fun z => by rw [z, hln] at ht; cases ht)
      have s5 : Same H4 (upd H4 p (.lst [.int n])) := same_upd np
      have hp5 : (upd H4 p (.lst [.int n])) p = some (.lst (([n] : List Int).map V.int)) := upd_same
      have af5 : After K H' (upd H4 p (.lst [.int n])) h ln cl rs l (i + (PyFlat.put1 c).length) := by
        obtain ⟨rl2, as2, i2, hrl2, hR2⟩ := af.hold
        refine ⟨fun b o hb h1 h2 => s5 _ _ (af.but _ _ hb h1 h2), ⟨rl2, as2, i2.same s5, s5 _ _ hrl2, hR2.keeps (same_keeps s5)⟩, af.held, fun e => ?_, ⟨af.line.1.same s5, s5.seq af.line.2⟩⟩
        have e1 := af.same0 e
        rw [hh] at e1
        rw [hh]
        exact s5 _ _ e1
      have ht4 : (upd H4 p (.lst [.int n])) t = some (.lst (acc.map V.int)) := s5 _ _ ht40
      have hpt : p ≠ t := fun z => by
        rw [z, ht40] at np
        cases np
      have epl := congrArg List.length (play_cons (cs := rest) hst)
      rw [List.length_cons, List.length_append] at epl
      refine ⟨_, rfl, .inl ⟨rfl, _, SqL.of ht4⟩, _, rfl, p, _, rfl, .inl (SqL.of hp5), t, _, _, rfl, rfl, ht4, ?_, ?_⟩
      · rw [List.length_map, sizeLine_eq]
        omega
      rw [List.length_map]
      refine ⟨_, rfl, .inl ⟨rfl, _, SqL.of upd_same⟩, _, rfl, t, p, _, _, rfl, rfl, upd_same, (upd_ne hpt).trans hp5, ?_, ?_⟩
      · rw [List.length_append, List.length_map, List.length_map, List.length_singleton, sizeLine_eq]
        omega
      exact fin [n] _ p _ _ hst af5 ht4
end
end Lv
set_option Elab.async false
set_option linter.all false
set_option maxRecDepth 100000
set_option maxHeartbeats 4000000
namespace Lv
open PySem PySem.Spec PyProof.Rows L2 TL
open Valaya (Ty Rec Leaf)
section
variable {P : Program} {w : World} {K : PySem.W.Frag} {mg : Str → Option Value} {base : Heap}
theorem After.same {H H1 H2 : Hp} {h ln cl : Addr} {rs : List Rec} {ns : List Int} {j : Nat} (a : After K H H1 h ln cl rs ns j) (s : Same H1 H2) (hh : ∃ o, H h = some o) : After K H H2 h ln cl rs ns j := by
  obtain ⟨rl, as, i1, hrl, hR⟩ := a.hold
  refine ⟨fun b o hb h1 h2 => s _ _ (a.but _ _ hb h1 h2), ⟨rl, as, i1.same s, s _ _ hrl, hR.keeps (same_keeps s)⟩, a.held, fun e => ?_, ⟨a.line.1.same s, s.seq a.line.2⟩⟩
  have e1 := a.same0 e
  obtain ⟨o, hh⟩ := hh
  rw [hh] at e1 ⊢
  exact s _ _ e1
theorem After.new {H H1 : Hp} {h ln cl : Addr} {rs : List Rec} {ns : List Int} {j : Nat} (a : After K H H1 h ln cl rs ns j) {p : Addr} (np : H1 p = none) : H p = none := by
  cases e : H p with
  | none => rfl
  | some o =>
    obtain ⟨rl, as, ⟨d1, i1⟩, _⟩ := a.hold
    obtain ⟨⟨d2, i2⟩, _⟩ := a.line
    have := a.but _ _ e (fun z => by rw [z, i1] at np; cases np) (fun z => by rw [z, i2] at np; cases np)
    rw [np] at this
    cases this
abbrev QY (K : PySem.W.Frag) (H : Hp) (Q : VK) (h ln cl : Addr) (rs : List Rec) (ns : List Int) (j : Nat) (c : List (List Int)) : Prop := ∀ (ans : List Int) (rs' : List Rec) (p : Addr) (H' : Hp), ValayaNeutral.step (objOf rs) c = (objOf rs', ans) → H p = none → After K H H' h ln cl rs' ns j → H' p = some (.lst (ans.map V.int)) → Q (.ref p) H'
abbrev QN (K : PySem.W.Frag) (H : Hp) (E : XK) (h ln cl : Addr) (rs : List Rec) (ns : List Int) (j : Nat) (c : List (List Int)) : Prop := ∀ (x : Str) (n : Int) (d : Addr) (H' : Hp), RefOk K x → ValayaNeutral.step (objOf rs) c = (objOf rs, [n]) → After K H H' h ln cl rs ns j → H' d = some (.xd (gNo n [])) → E (.ref (He.ga K x)) (some d) H'
theorem ref_ans {H H1 : Hp} {E : XK} {h ln cl : Addr} {rs : List Rec} {ns : List Int} {j : Nat} {c : List (List Int)} (qN : QN K H E h ln cl rs ns j c) (a : After K H H1 h ln cl rs ns j) (hh : ∃ o, H h = some o) {x : Str} {n : Int} (rx : RefOk K x) (hs : ValayaNeutral.step (objOf rs) c = (objOf rs, [n])) : Ref_ K H1 E x n := fun d H' s' hd => qN x n d H' rx hs (a.same s' hh) hd
theorem list_ans {H H1 : Hp} {Q : VK} {h ln cl : Addr} {rs : List Rec} {ns : List Int} {j : Nat} {c : List (List Int)} (qY : QY K H Q h ln cl rs ns j c) (a : After K H H1 h ln cl rs ns j) (hh : ∃ o, H h = some o) {ans : List Int} (hs : ValayaNeutral.step (objOf rs) c = (objOf rs, ans)) : kList H1 Q ans := fun p H' np s' hp => qY ans rs p H' hs (a.new np) (a.same s' hh) hp
theorem obj_ne {rs : List Rec} (h : rs ≠ []) : objOf rs = some rs := by
  cases rs with
  | nil => exact absurd rfl h
  | cons _ _ => rfl
/-- a call that asks one record -/
theorem ans_outL {H H1 : Hp} {E : XK} {h ln cl : Addr} {rs : List Rec} {ns : List Int} {j : Nat} {c : List (List Int)} {k : Rec → Prop} {n : Int} {f : Rec → ValayBase.Answer} (qN : QN K H E h ln cl rs ns j c) (a : After K H H1 h ln cl rs ns j) (hh : ∃ o, H h = some o) (r1 : RefOk K "NoRecords") (r2 : RefOk K "NoSuchRecord")
    (h0 : ValayaNeutral.step none c = (none, [-1])) (h1 : ValayaNeutral.step (some rs) c = (some rs, ValayaNeutral.encode (Valaya.withRec rs n f))) (hk : ∀ r ∈ rs, ValayaNeutral.step (objOf rs) c = (objOf rs, ValayaNeutral.encode (f r)) → k r) : OutL K H1 E rs n k := by
  refine ⟨fun e => ref_ans qN a hh r1 (by rw [e]; exact h0), fun ne => ?_⟩
  have ho := obj_ne ne
  unfold Valaya.withRec at h1
  have ep : ((ValayBase.index n rs.length).bind fun k => rs[k]?) = ((pick n rs.length).bind fun k => rs[k]?) := rfl
  rw [ep] at h1
  cases e : (pick n rs.length).bind fun k => rs[k]? with
  | none =>
    rw [e] at h1
    exact ref_ans qN a hh r2 (by rw [ho]; exact h1)
  | some r =>
    rw [e] at h1
    have hm : r ∈ rs := by
      obtain ⟨j, _, hj⟩ := Option.bind_eq_some_iff.mp e
      exact List.mem_of_getElem? hj
    exact hk r hm (by rw [ho]; exact h1)
/-! ### what each call answers -/
theorem step_leaves (rs : List Rec) (n : Int) : ValayaNeutral.step (some rs) [[2, n]] = (some rs, ValayaNeutral.encode (Valaya.withRec rs n fun x => let l := Valaya.leavesOf x.t; ⟨(l.length : Int), Valaya.nats ((l.map Valaya.width).sum :: l.map Valaya.width)⟩)) := rfl
theorem step_leaf (rs : List Rec) (n i : Int) : ValayaNeutral.step (some rs) [[3, n, i]] = (some rs, ValayaNeutral.encode (Valaya.withRec rs n fun x => (match (ValayBase.index i (Valaya.leavesOf x.t).length).bind fun k => (Valaya.leavesOf x.t)[k]? with
    | none => ValayBase.one (-3)
    | some f => ⟨1, ValayBase.textRow f.name ++ ([f.lo, f.hi] ++ Valaya.nats ([Valaya.width f, f.kind, f.align, f.hot, f.guards.length] ++ f.guards.flatMap fun g => [g.1, g.2]))⟩))) := rfl
theorem step_codes (rs : List Rec) (n : Int) (v : List Int) : ValayaNeutral.step (some rs) [[4, n], v] = (some rs, ValayaNeutral.encode (Valaya.withRec rs n fun x => (match Valaya.codesOf x.t v with
    | none => ValayBase.one (-4)
    | some c => ⟨(c.length : Int), Valaya.codeRow c⟩))) := rfl
theorem step_value (rs : List Rec) (n : Int) (v : List Int) : ValayaNeutral.step (some rs) [[5, n], v] = (some rs, ValayaNeutral.encode (Valaya.withRec rs n fun x => (match (Valaya.readCodes v).bind (Valaya.backChecked x.t) with
    | none => ValayBase.one (-4)
    | some v => ⟨(v.length : Int), v⟩))) := rfl
theorem step_count (rs : List Rec) (n : Int) : ValayaNeutral.step (some rs) [[6, n]] = (some rs, ValayaNeutral.encode (Valaya.withRec rs n fun x => if Valaya.GREAT < Valaya.countOf x.t then ValayBase.one (-6) else ⟨(Valaya.countOf x.t : Int), Valaya.nats [Valaya.bitsFor (Valaya.countOf x.t)]⟩)) := rfl
theorem step_nth (rs : List Rec) (n m : Int) : ValayaNeutral.step (some rs) [[7, n, m]] = (some rs, ValayaNeutral.encode (Valaya.withRec rs n fun x => if Valaya.GREAT < Valaya.countOf x.t then ValayBase.one (-6) else (match ValayBase.index m (Valaya.countOf x.t) with
    | none => ValayBase.one (-3)
    | some k => let v := Valaya.nthOf x.t k; ⟨(v.length : Int), v⟩))) := rfl
theorem step_index (rs : List Rec) (n : Int) (v : List Int) : ValayaNeutral.step (some rs) [[8, n], v] = (some rs, ValayaNeutral.encode (Valaya.withRec rs n fun x => if Valaya.GREAT < Valaya.countOf x.t then ValayBase.one (-6) else (match Valaya.codesOf x.t v with
    | none => ValayBase.one (-4)
    | some _ => ValayBase.one (Valaya.indexOf x.t v : Nat)))) := rfl
theorem nats_sum (l : List Nat) : ((l.sum : Nat) : Int) = (l.map fun (n : Nat) => (n : Int)).sum := by
  induction l with
  | nil => rfl
  | cons a l ih => rw [List.sum_cons, List.map_cons, List.sum_cons, ← ih]; omega
theorem ans_leaves (t : Ty) : ValayaNeutral.encode (let l := Valaya.leavesOf t; (⟨(l.length : Int), Valaya.nats ((l.map Valaya.width).sum :: l.map Valaya.width)⟩ : ValayBase.Answer)) = [((widthsL t).length : Int), (widthsL t).sum] ++ widthsL t := by
  show ((Valaya.leavesOf t).length : Int) :: ((((Valaya.leavesOf t).map Valaya.width).sum : Nat) : Int) :: (((Valaya.leavesOf t).map Valaya.width).map fun (n : Nat) => (n : Int)) = _
  have e : (((Valaya.leavesOf t).map Valaya.width).map fun (n : Nat) => (n : Int)) = widthsL t := by
    unfold widthsL
    rw [List.map_map]
    rfl
  rw [nats_sum, e]
  unfold widthsL
  rw [List.length_map]
  rfl
theorem ans_leaf (f : Leaf) : ValayaNeutral.encode ⟨1, ValayBase.textRow f.name ++ ([f.lo, f.hi] ++ Valaya.nats ([Valaya.width f, f.kind, f.align, f.hot, f.guards.length] ++ f.guards.flatMap fun g => [g.1, g.2]))⟩ = leafRow f := by
  have e : ∀ l : List (Nat × Nat), (Valaya.nats (l.flatMap fun g => [g.1, g.2])) = l.flatMap fun g => [(g.1 : Int), (g.2 : Int)] := by
    intro l
    unfold Valaya.nats
    induction l with
    | nil => rfl
    | cons a l ih => rw [List.flatMap_cons, List.map_append, ih, List.flatMap_cons]; rfl
  have e2 : Valaya.nats ([Valaya.width f, f.kind, f.align, f.hot, f.guards.length] ++ f.guards.flatMap fun g => [g.1, g.2]) = [(Valaya.width f : Int), (f.kind : Int), (f.align : Int), (f.hot : Int), (f.guards.length : Int)] ++ f.guards.flatMap fun g => [(g.1 : Int), (g.2 : Int)] := by
    rw [← e]
    unfold Valaya.nats
    rw [List.map_append]
    rfl
  unfold ValayaNeutral.encode leafRow ValayBase.textRow bytesI
  rw [e2]
  simp only [List.cons_append, List.nil_append, List.append_assoc]
theorem codes_in {r : Rec} (h : Fine r.t) (v : List Int) : codesIn (Valaya.leavesOf r.t) v = (Valaya.codesOf r.t v).map Valaya.codeRow := codes_fold r.t h.wf v
end
end Lv
set_option Elab.async false
set_option linter.all false
set_option maxRecDepth 100000
set_option maxHeartbeats 4000000
namespace Lv
open PySem PySem.Spec PyProof.Rows L2 TL
open Valaya (Ty)
/-- what is asked of a part that is told or numbered -/
structure TPart (n : Nat) (t : Ty) : Prop where
  fine : Fine t
  sh : (clOf t).isSome = true
  dp : dep t ≤ 6
  dd : dd t ≤ n
  d6 : Dep6 t
theorem TPart.ok {n : Nat} {t : Ty} (h : TPart n t) : PartOk 6 t := ⟨h.fine, h.sh, h.dp⟩
theorem TPart.pos {n : Nat} {ts : List Ty} (h : ∀ t ∈ ts, TPart n t) : ∀ t ∈ ts, 1 ≤ cn t := fun t ht => cn_pos (h t ht).fine
theorem tpart_row {n : Nat} {fs : Ty} (hf : Fine fs) (hd : dep fs ≤ 6) (hn : dd fs ≤ n) (h6 : Dep6 fs) : ∀ t ∈ tys fs, TPart n t := fun t ht => by
  obtain ⟨p, hp, rfl⟩ := tys_mem ht
  have fp := fine_rowL hf p hp
  exact ⟨fp.2.2.2.2, fp.2.2.2.1, Nat.le_trans (dep_row p hp) hd, Nat.le_trans (dd_row p hp) hn, d6_row h6 p hp⟩
theorem int_div (a b : Nat) : ((a : Int) / (b : Int)) = ((a / b : Nat) : Int) := (Int.natCast_ediv a b).symm
theorem int_mod (a b : Nat) : ((a : Int) % (b : Int)) = ((a % b : Nat) : Int) := (Int.natCast_emod a b).symm
theorem drop_cons' {ts : List Ty} {i : Nat} {t : Ty} (h : ts[i]? = some t) : ts.drop i = t :: ts.drop (i + 1) := by
  have hi := (List.getElem?_eq_some_iff.mp h).1
  have e2 := (List.getElem?_eq_some_iff.mp h).2
  rw [← e2]
  exact List.drop_eq_getElem_cons hi
section
variable {P : Program} {w : World} {K : PySem.W.Frag} {mg : Str → Option Value} {base : Heap}
def spTell (K : PySem.W.Frag) (n : Nat) (c : Cl) : Sp := fun vs H Q _ => ∃ (a D : Addr) (t : Ty) (k : Nat) (os : List Int), vs = [.ref a, .int k, .ref D] ∧ Lays K (del H D) t false [a] ∧ clOf t = some c ∧ TPart n t ∧ cn t ≤ 1000000000000000000 ∧ k < cn t ∧ H D = some (.lst (os.map V.int)) ∧ os.length + Valaya.countLeaves t ≤ 1000 ∧
  ∀ H', But D H H' → H' D = some (.lst ((os ++ Valaya.nthBy t none k).map V.int)) → Q .non H'
theorem len_tell {n : Nat} {c : Cl} : Len (spTell K n c) ["self", "number", "told"] := fun vs H Q E h => by
  obtain ⟨a, D, t, k, os, rfl, _⟩ := h
  rfl
abbrev TellAt (P : Program) (w : World) (K : PySem.W.Frag) (mg : Str → Option Value) (base : Heap) (n : Nat) : Prop := ∀ c : Cl, MeAt P w K mg base CX0 (2 * n + 20) (c.addr K) "tell" ["self", "number", "told"] (spTell K n c)
def spTellRow (K : PySem.W.Frag) (n : Nat) : Sp := fun vs H Q _ => ∃ (l D : Addr) (cs : List Addr) (ts : List Ty) (k : Nat) (os : List Int), vs = [.ref l, .int k, .ref D] ∧ del H D l = some (.lst (cs.map V.ref)) ∧ PartsAt K (del H D) cs ts ∧ (∀ t ∈ ts, TPart n t) ∧ cprod ts ≤ 1000000000000000000 ∧ k < cprod ts ∧ H D = some (.lst (os.map V.int)) ∧ os.length + lsum ts ≤ 1000 ∧
  ∀ H', But D H H' → H' D = some (.lst ((os ++ nthRow ts k).map V.int)) → Q .non H'
theorem tell_at {m : Str} {H : Hp} {t : Ty} {l a : Addr} (h : Lays K (del H l) t false [a]) (hc : (clOf t).isSome = true) (hm : shapeMeth m = true) : ∃ (c : Cl) (dx : Addr) (fs : List (Str × V)), clOf t = some c ∧ H a = some (.ins (c.addr K) dx fs) ∧ fs.lookup m = none := (Lays.keeps (same_keeps del_same') _ _ _ h).cl hc hm
theorem ok_tell_row (T : Txt K mg) {n : Nat} (G_U_tell : TellAt P w K mg base n) : FnAt P w K mg base CX0 (2 * n + 21) "tell_row" ["parts", "number", "told"] (spTellRow K n) := by
  have G_U_value_count := ok_value_count (P := P) (w := w) (base := base) T 6
  have G_count_row := ok_count_row (P := P) (w := w) (base := base) T G_U_value_count
  refine T.d_tell_row.ok sc_tell_row (fun vs H Q E h => by obtain ⟨l, D, cs, ts, k, os, rfl, _⟩ := h; rfl) fun f cdv A outer s H vs Q E hr h => ?_
  obtain ⟨l, D, cs, ts, k, os, rfl, hl, hP, hO, hB, hk, hD, hz, q⟩ := h
  have hpos := TPart.pos hO
  have hlH := del_same' _ _ hl
  refine ⟨_, (pss_cons (ps_set (i := 3) sc_tell_row.nd rfl (Or.inl rfl) (pe_fn G_count_row hr (by first | decide | omega) (pa_cons (pv 0) pa_nil)))
  (pss_one (ps_for PassesOwn.never rfl (pi_list (pv 0)) (pg_name (i := 4) sc_tell_row.nd rfl (Or.inl rfl)) (pss_cons (ps_aug (i := 3) sc_tell_row.nd rfl (Or.inl rfl) (pe_meU0 (pv 4) G_U_value_count hr (by first | decide | omega)) ip_divN)
  (pss_cons (ps_expr (pe_meU (pv 4) G_U_tell hr (by first | decide | omega) (pa_cons (pe_op op_divN (pv 1) (pv 3)) (pa_cons (pv 2) pa_nil))))
  (pss_one (ps_aug (i := 1) sc_tell_row.nd rfl (Or.inl rfl) (pv 3) ip_modN))))))), ?_⟩
  refine ⟨_, rfl, l, cs, ts, rfl, hlH, hP.keeps (same_keeps del_same'), fun t ht => (hO t ht).ok, small_big hB, fun H1 s1 => ?_⟩
  have inv0 : But D H H1 := same_but s1
  refine ⟨_, rfl, l, rfl, ⟨_, SqL.of (s1 _ _ hlH)⟩, for_list (K := K) (a := l) (xs := cs.map V.ref) (fun i σ H' => ∃ (x : Option V) (m : Nat) (ot : List Int), σ = [some (.ref l), some (.int m), some (.ref D), some (.int (cprod (ts.drop i) : Nat)), x] ∧ Same (del H D) (del H' D) ∧ But D H H' ∧ m < cprod (ts.drop i) ∧ H' D = some (.lst ((os ++ ot).map V.int)) ∧ ot.length ≤ lsum (ts.take i) ∧ ot ++ nthRow (ts.drop i) m = nthRow ts k)
    ⟨none, k, [], rfl, same_del s1, inv0, hk, by rw [List.append_nil]; exact s1 _ _ hD, Nat.zero_le _, rfl⟩ (fun i σ H' _ z => by obtain ⟨x, m, ot, _, s2, _⟩ := z; exact SqL.of (del_same' _ _ (s2 _ _ hl))) ?_ ?_⟩
  · rintro i y σ H2 hy ⟨x, m, ot, rfl, s2, b2, hm, hD2, hol, hre⟩
    obtain ⟨c, hc, rfl⟩ := ref_item hy
    obtain ⟨t, ht, hlt⟩ := paired_at hP hc
    have hmem := List.mem_of_getElem? ht
    have ho := hO t hmem
    have ed := drop_cons' ht
    have hct : cn t ≤ 1000000000000000000 := Nat.le_trans (cprod_part hpos t hmem) hB
    have hwt : cprod (ts.drop (i + 1)) ≤ 1000000000000000000 := Nat.le_trans (cprod_drop hpos (i + 1)) hB
    have hw0 : 0 < cprod (ts.drop (i + 1)) := cprod_pos fun u hu => hpos u (List.mem_of_mem_drop hu)
    have hc0 : 0 < cn t := hpos t hmem
    have ew : cprod (ts.drop i) = cn t * cprod (ts.drop (i + 1)) := by rw [ed]; rfl
    have hlt2 : Lays K (del H2 D) t false [c] := Lays.keeps (same_keeps s2) _ _ _ hlt
    refine ⟨_, rfl, _, rfl, val_ask (Lays.keeps (same_keeps del_same') _ _ _ hlt2) ho.fine ho.sh ho.dp (small_big hct) fun H3 s3 => ?_⟩
    refine ⟨_, _, rfl, rfl, hc0, small_big hct, ?_⟩
    rw [ew, Nat.mul_div_cancel_left _ hc0]
    have hlt3 : Lays K (del H3 D) t false [c] := Lays.keeps (same_keeps (same_del s3)) _ _ _ hlt2
    obtain ⟨cl, dc, fc, ec, hcc, lk⟩ := tell_at (m := "tell") hlt3 ho.sh (by decide)
    refine ⟨_, rfl, cl, c, dc, fc, rfl, hcc, lk, _, rfl, _, rfl, m, _, rfl, rfl, hw0, small_big hwt, _, rfl, ?_⟩
    have hsz : os.length + ot.length + Valaya.countLeaves t ≤ 1000 := by
      have e2 : lsum (ts.take (i + 1)) = lsum (ts.take i) + Valaya.countLeaves t := by
        rw [← take_snoc ht, lsum_append]
        rfl
      have := lsum_take ts (i + 1)
      omega
    refine ⟨c, D, t, m / cprod (ts.drop (i + 1)), os ++ ot, rfl, hlt3, ec, ho, hct, ?_, s3 _ _ hD2, by rw [List.length_append]; exact hsz, fun H4 b4 hD4 => ?_⟩
    · rw [Nat.div_lt_iff_lt_mul hw0, ← ew]
      exact hm
    refine ⟨_, rfl, _, rfl, m, _, rfl, rfl, hw0, ?_⟩
    refine ⟨some (.ref c), m % cprod (ts.drop (i + 1)), ot ++ Valaya.nthBy t none (m / cprod (ts.drop (i + 1))), rfl, s2.trans ((same_del s3).trans (but_del b4)), (b2.trans (same_but s3)).trans b4, Nat.mod_lt _ hw0, ?_, ?_, ?_⟩
    · rw [← List.append_assoc]
      exact hD4
    · rw [List.length_append, ← take_snoc ht, lsum_append]
      have := nth_part t (m / cprod (ts.drop (i + 1)))
      show _ ≤ lsum (ts.take i) + (Valaya.countLeaves t + 0)
      omega
    · rw [← hre, ed, List.append_assoc]
      rfl
  · rintro σ H' ⟨x, m, ot, rfl, s2, b2, hm, hD2, hol, hre⟩
    rw [List.length_map, paired_len hP, List.drop_length] at hre
    have hre : ot ++ [] = nthRow ts k := hre
    rw [List.append_nil] at hre
    rw [hre] at hD2
    exact q H' b2 hD2
end
end Lv
set_option Elab.async false
set_option linter.all false
set_option maxRecDepth 100000
set_option maxHeartbeats 4000000
namespace Lv
open PySem PySem.Spec PyProof.Rows L2 TL
open Valaya (Ty)
def muC (n : Nat) (i : Nat) : L2.St → Hp → Nat := fun σ _ => match σ[i]? with
  | some (some (.int j)) => n - j.toNat
  | _ => 0
section
variable {P : Program} {w : World} {K : PySem.W.Frag} {mg : Str → Option Value} {base : Heap}
/-- one number more at the end of what is told -/
theorem told_put {H : Hp} {D : Addr} {os : List Int} {v : Int} : (upd H D (.lst (os.map V.int ++ [V.int v]))) D = some (.lst ((os ++ [v]).map V.int)) := by
  rw [upd_same, List.map_append]
  rfl
theorem named_parts {H : Hp} {fs : Ty} {bs cs : List Addr} (hf : Fine (.rec_ fs)) (h4 : Lays K H (.rec_ fs) true bs) (h8 : InnerOf K H bs cs) : PartsAt K H cs (tys fs) := parts_fields (Lays.row hf.1 hf.2.2 (show Lays K H fs true bs from h4)) h8
theorem ok_tell (T : Txt K mg) : ∀ n : Nat, TellAt P w K mg base n := by
  have G_U_value_count := ok_value_count (P := P) (w := w) (base := base) T 6
  have G_Many_row := ok_Many_row (P := P) (w := w) (base := base) T
  intro n
  induction n with
  | zero =>
    intro c
    have no : ∀ {vs : List V} {H : Hp} {Q : VK} {E : XK}, spTell K 0 c vs H Q E → False := fun {vs H Q E} h => by
      obtain ⟨a, D, t, k, os, _, _, hc, hp, _⟩ := h
      have := dd_pos hp.sh
      have := hp.dd
      omega
    cases c with
    | num => exact T.m_Number_tell.ok sc_Number_tell len_tell fun f cdv A outer s H vs Q E hr h => (no h).elim
    | maybe => exact T.m_Maybe_tell.ok sc_Maybe_tell len_tell fun f cdv A outer s H vs Q E hr h => (no h).elim
    | many => exact T.m_Many_tell.ok sc_Many_tell len_tell fun f cdv A outer s H vs Q E hr h => (no h).elim
    | one => exact T.m_One_tell.ok sc_One_tell len_tell fun f cdv A outer s H vs Q E hr h => (no h).elim
    | named => exact T.m_Named_tell.ok sc_Named_tell len_tell fun f cdv A outer s H vs Q E hr h => (no h).elim
  | succ n ih =>
    have G_U_tell : TellAt P w K mg base n := ih
    have G_tell_row := ok_tell_row (P := P) (w := w) (base := base) T ih
    intro c
    cases c with
    | num =>
      refine T.m_Number_tell.ok sc_Number_tell len_tell fun f cdv A outer s H vs Q E hr h => ?_
      obtain ⟨a, D, t, k, os, rfl, hl, hc, hp, hB, hk, hD, hz, q⟩ := h
      cases t <;> first | cases hc | skip
      rename_i lo hi al
      obtain ⟨_, e, dx, h1⟩ := Lays.keeps (same_keeps del_same') _ _ _ hl
      cases e
      refine ⟨_, (pss_one (ps_expr (pe_bm PySem.F.plainAttrs_list PySem.F.slot_list_append PySem.F.type_list_append mt_append (pv 2) (pa_cons (pe_op op_add (pe_fl T.c_Number T.na_Number_first (pv 0)) (pv 1)) pa_nil)))), ?_⟩
      refine ⟨_, rfl, .inl ⟨rfl, _, SqL.of hD⟩, _, rfl, a, dx, _, _, rfl, h1, rfl, _, rfl, _, _, rfl, rfl, D, _, _, rfl, rfl, hD, ?_, ?_⟩
      · rw [List.length_map, sizeLine_eq]
        omega
      · exact q _ but_upd told_put
    | maybe =>
      refine T.m_Maybe_tell.ok sc_Maybe_tell len_tell fun f cdv A outer s H vs Q E hr h => ?_
      obtain ⟨a, D, t, k, os, rfl, hl, hc, hp, hB, hk, hD, hz, q⟩ := h
      cases t <;> first | cases hc | skip
      rename_i t
      obtain ⟨_, b, e, ⟨dx, h1⟩, h2⟩ := hl
      cases e
      have h1' := del_same' _ _ h1
      have hcl : cn (.maybe t) = 1 + cn t := rfl
      have hll : Valaya.countLeaves (.maybe t) = 1 + Valaya.countLeaves t := rfl
      have en : Valaya.nthBy (.maybe t) none k = if k = 0 then [0] else 1 :: Valaya.nthBy t none (k - 1) := rfl
      refine ⟨_, (pss_one (ps_if (pt_cmpR op_eq (pv 1) pe_int (nomark _)) (pss_one (ps_expr (pe_bm PySem.F.plainAttrs_list PySem.F.slot_list_append PySem.F.type_list_append mt_append (pv 2) (pa_cons pe_int pa_nil)))) (pss_cons (ps_expr (pe_bm PySem.F.plainAttrs_list PySem.F.slot_list_append PySem.F.type_list_append mt_append (pv 2) (pa_cons pe_int pa_nil)))
  (pss_one (ps_expr (pe_meU (pe_fl T.c_Maybe T.na_Maybe_inner (pv 0)) G_U_tell hr (by first | decide | omega) (pa_cons (pe_op op_sub (pv 1) pe_int) (pa_cons (pv 2) pa_nil)))))))), ?_⟩
      refine ⟨_, rfl, rfl, _, rfl, ?_⟩
      by_cases c0 : k = 0
      · refine if_t (decide_eq_true (by rw [c0]; rfl)) ?_
        refine ⟨_, rfl, .inl ⟨rfl, _, SqL.of hD⟩, D, _, _, rfl, rfl, hD, ?_, ?_⟩
        · rw [List.length_map, sizeLine_eq]
          omega
        · rw [en, if_pos c0] at q
          exact q _ but_upd told_put
      · refine if_f (decide_eq_false fun z => c0 (by have := V.int.inj z; omega)) ?_
        refine ⟨_, rfl, .inl ⟨rfl, _, SqL.of hD⟩, D, _, _, rfl, rfl, hD, ?_, ?_⟩
        · rw [List.length_map, sizeLine_eq]
          omega
        · rw [en, if_neg c0] at q
          have hD2 := told_put (H := H) (D := D) (os := os) (v := 1)
          have b2 : But D H (upd H D (.lst (os.map V.int ++ [V.int 1]))) := but_upd
          generalize upd H D (.lst (os.map V.int ++ [V.int 1])) = H2 at *
          have h1a := del_same' _ _ (but_del b2 _ _ h1)
          have h22 : Lays K (del H2 D) t false [b] := Lays.keeps (same_keeps (but_del b2)) _ _ _ h2
          have hsh := hp.fine.1
          obtain ⟨cl, dc, fc, ec, hcc, lk⟩ := tell_at (m := "tell") h22 hsh (by decide)
          refine ⟨_, rfl, a, dx, _, _, rfl, h1a, rfl, cl, b, dc, fc, rfl, hcc, lk, _, rfl, _, _, rfl, rfl, _, rfl, ?_⟩
          have hdd := hp.dd
          simp only [dd] at hdd
          have hdp := hp.dp
          simp only [dep] at hdp
          refine ⟨b, D, t, k - 1, os ++ [1], ?_, h22, ec, ⟨hp.fine.2, hsh, by omega, by omega, hp.d6⟩, by omega, by omega, hD2, by rw [List.length_append, List.length_singleton]; omega, fun H4 b4 hD4 => q H4 (b2.trans b4) ?_⟩
          · show [V.ref b, V.int ((k : Int) - 1), V.ref D] = _
            rw [show ((k : Int) - 1) = ((k - 1 : Nat) : Int) by omega]
          · rw [List.append_assoc] at hD4
            exact hD4
    | many =>
      refine T.m_Many_tell.ok sc_Many_tell len_tell fun f cdv A outer s H vs Q E hr h => ?_
      obtain ⟨a, D, t, k, os, rfl, hl, hc, hp, hB, hk, hD, hz, q⟩ := h
      cases t <;> first | cases hc | skip
      rename_i m t
      obtain ⟨_, b, e, ⟨dx, h1⟩, h2⟩ := hl
      cases e
      have h1' := del_same' _ _ h1
      have hf := hp.fine
      have hdd := hp.dd
      simp only [dd] at hdd
      have hdp := hp.dp
      simp only [dep] at hdp
      have en : Valaya.nthBy (.many m t) none k = nthRow (List.replicate m t) k := nth_many t m k
      have el : Valaya.countLeaves (.many m t) = lsum (List.replicate m t) := (lsum_rep t m).symm
      rw [many_pow] at hB hk
      rw [el] at hz
      rw [en] at q
      refine ⟨_, (pss_one (ps_expr (pe_fn G_tell_row hr (by first | decide | omega) (pa_cons (pe_me0 (pv 0) G_Many_row hr (by first | decide | omega)) (pa_cons (pv 1) (pa_cons (pv 2) pa_nil)))))), ?_⟩
      refine ⟨_, rfl, a, dx, _, rfl, h1', rfl, a, b, m, rfl, ⟨dx, h1'⟩, hf.2.1, fun p H2 np s2 hp2 => ?_⟩
      have hpD : p ≠ D := fun z => by
        rw [z, hD] at np
        cases np
      refine ⟨_, rfl, _, rfl, p, D, _, List.replicate m t, k, os, rfl, (by rw [del_ne hpD]; exact hp2), parts_rep (Lays.keeps (same_keeps (same_del s2)) _ _ _ h2) m, fun u hu => ?_, hB, hk, s2 _ _ hD, hz, fun H3 b3 hD3 => q H3 ((same_but s2).trans b3) hD3⟩
      rw [(List.mem_replicate.mp hu).2]
      exact ⟨hf.2.2.2, hf.2.2.1, by omega, by omega, hp.d6⟩
    | one =>
      refine T.m_One_tell.ok sc_One_tell len_tell fun f cdv A outer s H vs Q E hr h => ?_
      obtain ⟨a, D, t, k, os, rfl, hl, hc, hp, hB, hk, hD, hz, q⟩ := h
      cases t <;> first | cases hc | skip
      rename_i fs
      obtain ⟨_, l, bs, e, ⟨dx, h1⟩, h2, h3⟩ := hl
      cases e
      have hf := hp.fine
      have hdd := hp.dd
      simp only [dd] at hdd
      have hdp := hp.dp
      simp only [dep] at hdp
      have hTP : ∀ t ∈ tys fs, TPart n t := tpart_row hf.2.2.2 (by omega) (by omega) hp.d6
      have en : Valaya.nthBy (.one_ fs) none k = nthAlt (tys fs) 0 k := nth_alt hf.1 hf.2.2.2 0 k
      have el : Valaya.countLeaves (.one_ fs) = 1 + lsum (tys fs) := by
        show 1 + Valaya.countLeaves fs = _
        rw [lsum_row hf.1 hf.2.2.2]
      rw [one_sum hf] at hB hk
      rw [el] at hz
      rw [en] at q
      obtain ⟨cs, hA, hPa⟩ := parts_alts (Lays.row hf.1 hf.2.2.2 h3)
      have hPa : PartsAt K (del H D) cs (tys fs) := hPa
      have hbc : bs.length = cs.length := paired_len hA
      have hct : cs.length = (tys fs).length := paired_len hPa
      -- the alternative with a number
      have alt : ∀ (H' : Hp) (j : Nat), Same (del H D) H' → j < (tys fs).length → ∃ (b c db : Addr) (x : V) (t : Ty), H' a = some (.ins (cO K) dx [("alternatives", .ref l)]) ∧ H' l = some (.lst (bs.map V.ref)) ∧ bs[j]? = some b ∧ H' b = some (.ins (cA K) db [("name", x), ("inner", .ref c)]) ∧ (tys fs)[j]? = some t ∧ Lays K (del H D) t false [c] := by
        intro H' j s' hj
        have hb : bs[j]? = some (bs[j]'(by omega)) := List.getElem?_eq_getElem (by omega)
        obtain ⟨c, hc', x, db, hx⟩ := paired_at hA hb
        obtain ⟨t, ht, hlt⟩ := paired_at hPa hc'
        exact ⟨_, c, db, x, t, s' _ _ h1, s' _ _ h2, hb, s' _ _ hx, ht, hlt⟩
      refine ⟨_, (pss_cons (ps_set (i := 3) sc_One_tell.nd rfl (Or.inl rfl) pe_int)
  (pss_cons (ps_while PassesOwn.never (pt_cmpR op_ge (pv 1) (pe_meU0 (pe_fl T.c_Alternative T.na_Alternative_inner (pe_ix ix_list (pe_fl T.c_One T.na_One_alternatives (pv 0)) (pv 3) (fun _ _ => rfl))) G_U_value_count hr (by first | decide | omega)) (nomark _)) (pss_cons (ps_aug (i := 1) sc_One_tell.nd rfl (Or.inl rfl) (pe_meU0 (pe_fl T.c_Alternative T.na_Alternative_inner (pe_ix ix_list (pe_fl T.c_One T.na_One_alternatives (pv 0)) (pv 3) (fun _ _ => rfl))) G_U_value_count hr (by first | decide | omega)) ip_sub)
  (pss_one (ps_aug (i := 3) sc_One_tell.nd rfl (Or.inl rfl) pe_int ip_add))))
  (pss_cons (ps_expr (pe_bm PySem.F.plainAttrs_list PySem.F.slot_list_append PySem.F.type_list_append mt_append (pv 2) (pa_cons (pv 3) pa_nil)))
  (pss_one (ps_expr (pe_meU (pe_fl T.c_Alternative T.na_Alternative_inner (pe_ix ix_list (pe_fl T.c_One T.na_One_alternatives (pv 0)) (pv 3) (fun _ _ => rfl))) G_U_tell hr (by first | decide | omega) (pa_cons (pv 1) (pa_cons (pv 2) pa_nil)))))))), ?_⟩
      refine while_go (fun σ H' => ∃ (j m : Nat), σ = [some (.ref a), some (.int m), some (.ref D), some (.int j)] ∧ Same H H' ∧ m < csum ((tys fs).drop j) ∧ nthAlt ((tys fs).drop j) j m = nthAlt (tys fs) 0 k) (muC (tys fs).length 3) ⟨0, k, rfl, Same.refl H, hk, rfl⟩ ?_
      rintro σ H1 ⟨j, m, rfl, s1, hm, hre⟩
      have hj := csum_drop_lt hm
      have sd1 : Same (del H D) H1 := del_same'.trans s1
      obtain ⟨b, c, db, x, t, g1, g2, g3, g4, g5, g6⟩ := alt H1 j sd1 hj
      have ed := drop_cons' g5
      have htp := hTP t (List.mem_of_getElem? g5)
      have hct : cn t ≤ 1000000000000000000 := Nat.le_trans (csum_part t (List.mem_of_getElem? g5)) hB
      refine ⟨_, rfl, _, rfl, a, dx, _, _, rfl, g1, rfl, _, rfl, l, _, _, V.ref b, rfl, rfl, SqL.of g2, atI_nat (by rw [List.getElem?_map, g3]; rfl), b, db, _, _, rfl, g4, rfl, val_ask (Lays.keeps (same_keeps sd1) _ _ _ g6) htp.fine htp.sh htp.dp (small_big hct) fun H2 s2 => ⟨_, _, rfl, rfl, _, rfl, ?_⟩⟩
      have s12 := s1.trans s2
      have sd2 := sd1.trans s2
      by_cases c1 : m < cn t
      · refine if_f (decide_eq_false (by show ¬ ((m : Int) ≥ (cn t : Nat)); omega)) ?_
        have hre : nthAlt (tys fs) 0 k = (j : Int) :: Valaya.nthBy t none m := by
          rw [← hre, ed]
          exact if_pos c1
        rw [hre] at q
        have hD2 := s12 _ _ hD
        refine ⟨_, rfl, .inl ⟨rfl, _, SqL.of hD2⟩, _, rfl, D, _, _, rfl, rfl, hD2, ?_, ?_⟩
        · rw [List.length_map, sizeLine_eq]
          omega
        · have hD3 := told_put (H := H2) (D := D) (os := os) (v := (j : Int))
          have b3 : But D H (upd H2 D (.lst (os.map V.int ++ [V.int j]))) := but_put (same_but s12)
          generalize upd H2 D (.lst (os.map V.int ++ [V.int j])) = H3 at *
          obtain ⟨b', c', db', x', t', i1, i2, i3, i4, i5, i6⟩ := alt H3 j ((but_del b3).trans del_same') hj
          obtain rfl : t' = t := by
            rw [i5] at g5
            exact Option.some.inj g5
          have i6 : Lays K (del H3 D) t' false [c'] := Lays.keeps (same_keeps (but_del b3)) _ _ _ i6
          obtain ⟨cl, dc, fc, ec, hcc, lk⟩ := tell_at (m := "tell") i6 htp.sh (by decide)
          refine ⟨_, rfl, a, dx, _, _, rfl, i1, rfl, _, rfl, l, _, _, V.ref b', rfl, rfl, SqL.of i2, atI_nat (by rw [List.getElem?_map, i3]; rfl), b', db', _, _, rfl, i4, rfl, cl, c', dc, fc, rfl, hcc, lk, _, rfl, _, rfl, ?_⟩
          have hlt' : Valaya.countLeaves t' ≤ lsum (tys fs) := by
            have := lsum_take (tys fs) (j + 1)
            rw [← take_snoc i5, lsum_append] at this
            have e : lsum [t'] = Valaya.countLeaves t' := rfl
            omega
          refine ⟨c', D, t', m, os ++ [(j : Int)], rfl, i6, ec, htp, hct, c1, hD3, by rw [List.length_append, List.length_singleton]; omega, fun H4 b4 hD4 => q H4 (b3.trans b4) ?_⟩
          rw [List.append_assoc] at hD4
          exact hD4
      · refine if_t (decide_eq_true (by show ((m : Int) ≥ (cn t : Nat)); omega)) (turn_on ?_)
        obtain ⟨b', c', db', x', t', i1, i2, i3, i4, i5, i6⟩ := alt H2 j sd2 hj
        obtain rfl : t' = t := by
          rw [i5] at g5
          exact Option.some.inj g5
        refine ⟨_, rfl, _, rfl, a, dx, _, _, rfl, i1, rfl, _, rfl, l, _, _, V.ref b', rfl, rfl, SqL.of i2, atI_nat (by rw [List.getElem?_map, i3]; rfl), b', db', _, _, rfl, i4, rfl, val_ask (Lays.keeps (same_keeps sd2) _ _ _ i6) htp.fine htp.sh htp.dp (small_big hct) fun H3 s3 => ⟨_, _, rfl, rfl, ?_⟩⟩
        refine ⟨_, rfl, _, _, rfl, rfl, ?_⟩
        refine ⟨⟨j + 1, m - cn t', ?_, s12.trans s3, ?_, ?_⟩, ?_⟩
        · rw [show (((m - cn t' : Nat)) : Int) = (m : Int) - (cn t' : Nat) by omega]
          rfl
        · rw [ed] at hm
          have hm : m < cn t' + csum ((tys fs).drop (j + 1)) := hm
          omega
        · rw [← hre, ed]
          exact (if_neg c1).symm
        · show (tys fs).length - ((j : Int) + 1).toNat < (tys fs).length - ((j : Int)).toNat
          omega
    | named =>
      refine T.m_Named_tell.ok sc_Named_tell len_tell fun f cdv A outer s H vs Q E hr h => ?_
      obtain ⟨a, D, t, k, os, rfl, hl, hc, hp, hB, hk, hD, hz, q⟩ := h
      cases t <;> first | cases hc | skip
      rename_i x t
      obtain ⟨_, r, l, lv, pl, bs, ls, cs, e, ⟨dx, h1⟩, ⟨dr, h2⟩, h3, h4, h5, h6, h7, h8⟩ := hl
      cases e
      have hf := hp.fine
      obtain ⟨fs, rfl⟩ := hf.2.1
      have hff : Fine (.rec_ fs) := hf.2.2
      have hdd := hp.dd
      simp only [dd] at hdd
      have h6' := hp.d6
      have en : Valaya.nthBy (.named x (.rec_ fs)) none k = nthRow (tys fs) k := nth_row hff.1 hff.2.2 k
      have el : Valaya.countLeaves (.named x (.rec_ fs)) = lsum (tys fs) := lsum_row hff.1 hff.2.2
      have ec : cn (.named x (.rec_ fs)) = cprod (tys fs) := count_prod hff.1 hff.2.2
      rw [ec] at hB hk
      rw [el] at hz
      rw [en] at q
      refine ⟨_, (pss_one (ps_expr (pe_fn G_tell_row hr (by first | decide | omega) (pa_cons (pe_fl T.c_Record T.na_Record_parts (pe_fl T.c_Named T.na_Named_record (pv 0))) (pa_cons (pv 1) (pa_cons (pv 2) pa_nil)))))), ?_⟩
      refine ⟨_, rfl, a, dx, _, _, rfl, del_same' _ _ h1, rfl, r, dr, _, _, rfl, del_same' _ _ h2, rfl, _, rfl, _, rfl, pl, D, cs, tys fs, k, os, rfl, h7, named_parts hff h4 h8, tpart_row hff.2.2 h6'.1 (by omega) h6'.2, hB, hk, hD, hz, q⟩
end
end Lv
set_option Elab.async false
set_option linter.all false
set_option maxRecDepth 100000
set_option maxHeartbeats 4000000
namespace Lv
open PySem PySem.Spec PyProof.Rows L2 TL
open Valaya (Ty)
theorem drop_app {cs a b : List Int} {st : Nat} (h : cs.drop st = a ++ b) : cs.drop (st + a.length) = b := by
  rw [← List.drop_drop, h, List.drop_left]
theorem drop_head {cs b : List Int} {st : Nat} {x : Int} (h : cs.drop st = x :: b) : cs[st]? = some x := by
  have : (cs.drop st)[0]? = some x := by rw [h]; rfl
  rw [List.getElem?_drop] at this
  simpa using this
theorem codeRow_len (c : List (Option Nat)) : (Valaya.codeRow c).length = c.length := List.length_map _
theorem codeRow_none (n : Nat) : Valaya.codeRow (List.replicate n none) = List.replicate n (-1) := by simp [Valaya.codeRow]
section
variable {P : Program} {w : World} {K : PySem.W.Frag} {mg : Str → Option Value} {base : Heap}
def spNumOf (K : PySem.W.Frag) (n : Nat) (c : Cl) : Sp := fun vs H Q _ => ∃ (a cl : Addr) (t : Ty) (st : Nat) (cs rest : List Int) (cd : List (Option Nat)) (v v' : List Int), vs = [.ref a, .ref cl, .int st] ∧ Lays K H t false [a] ∧ clOf t = some c ∧ TPart n t ∧ cn t ≤ 1000000000000000000 ∧ H cl = some (.lst (cs.map V.int)) ∧ Valaya.takeValue t none v = some (cd, v') ∧ cs.drop st = Valaya.codeRow cd ++ rest ∧
  ∀ H', Same H H' → Q (.int ((Valaya.indexBy t none v).1 : Nat)) H'
theorem len_num {n : Nat} {c : Cl} : Len (spNumOf K n c) ["self", "codes", "start"] := fun vs H Q E h => by
  obtain ⟨a, cl, t, st, cs, rest, cd, v, v', rfl, _⟩ := h
  rfl
abbrev NumOfAt (P : Program) (w : World) (K : PySem.W.Frag) (mg : Str → Option Value) (base : Heap) (n : Nat) : Prop := ∀ c : Cl, MeAt P w K mg base CX0 (2 * n + 20) (c.addr K) "number_of" ["self", "codes", "start"] (spNumOf K n c)
def spNumRow (K : PySem.W.Frag) (n : Nat) : Sp := fun vs H Q _ => ∃ (l cl : Addr) (ds : List Addr) (ts : List Ty) (st : Nat) (cs rest : List Int) (cd : List (Option Nat)) (v v' : List Int), vs = [.ref l, .ref cl, .int st] ∧ H l = some (.lst (ds.map V.ref)) ∧ PartsAt K H ds ts ∧ (∀ t ∈ ts, TPart n t) ∧ cprod ts ≤ 1000000000000000000 ∧ H cl = some (.lst (cs.map V.int)) ∧ takeRow ts v = some (cd, v') ∧ cs.drop st = Valaya.codeRow cd ++ rest ∧
  ∀ H', Same H H' → Q (.int ((idxRow ts v).1 : Nat)) H'
theorem ok_number_row (T : Txt K mg) {n : Nat} (G_U_number_of : NumOfAt P w K mg base n) : FnAt P w K mg base CX0 (2 * n + 21) "number_row" ["parts", "codes", "start"] (spNumRow K n) := by
  have G_U_value_count := ok_value_count (P := P) (w := w) (base := base) T 6
  have G_U_leaf_count := ok_leaf_count (P := P) (w := w) (base := base) T 6
  refine T.d_number_row.ok sc_number_row (fun vs H Q E h => by obtain ⟨l, cl, ds, ts, st, cs, rest, cd, v, v', rfl, _⟩ := h; rfl) fun f cdv A outer s H vs Q E hr h => ?_
  obtain ⟨l, cl, ds, ts, st, cs, rest, cd, v, v', rfl, hl, hP, hO, hB, hcl, hT, hdr, q⟩ := h
  have hpos := TPart.pos hO
  refine ⟨_, (pss_cons (ps_set (i := 3) sc_number_row.nd rfl (Or.inl rfl) pe_int)
  (pss_cons (ps_for PassesOwn.never rfl (pi_list (pv 0)) (pg_name (i := 4) sc_number_row.nd rfl (Or.inl rfl)) (pss_cons (ps_set (i := 3) sc_number_row.nd rfl (Or.inl rfl) (pe_op op_add (pe_op op_mulS (pv 3) (pe_meU0 (pv 4) G_U_value_count hr (by first | decide | omega))) (pe_meU (pv 4) G_U_number_of hr (by first | decide | omega) (pa_cons (pv 1) (pa_cons (pv 2) pa_nil)))))
  (pss_one (ps_aug (i := 2) sc_number_row.nd rfl (Or.inl rfl) (pe_meU0 (pv 4) G_U_leaf_count hr (by first | decide | omega)) ip_add))))
  (pss_one (ps_ret (pv 3))))), ?_⟩
  refine ⟨_, rfl, l, rfl, ⟨_, SqL.of hl⟩, for_list (K := K) (a := l) (xs := ds.map V.ref) (fun i σ H' => ∃ (x : Option V) (m st' : Nat) (cd' : List (Option Nat)) (u : List Int), σ = [some (.ref l), some (.ref cl), some (.int st'), some (.int m), x] ∧ Same H H' ∧ takeRow (ts.drop i) u = some (cd', v') ∧ cs.drop st' = Valaya.codeRow cd' ++ rest ∧ m * cprod (ts.drop i) + (idxRow (ts.drop i) u).1 = (idxRow ts v).1)
    ⟨none, 0, st, cd, v, rfl, Same.refl H, hT, hdr, by rw [Nat.zero_mul, Nat.zero_add]; rfl⟩ (fun i σ H' _ z => by obtain ⟨x, m, st', cd', u, _, s2, _⟩ := z; exact SqL.of (s2 _ _ hl)) ?_ ?_⟩
  · rintro i y σ H2 hy ⟨x, m, st', cd', u, rfl, s2, hT2, hdr2, hre⟩
    obtain ⟨c, hc, rfl⟩ := ref_item hy
    obtain ⟨t, ht, hlt⟩ := paired_at hP hc
    have hmem := List.mem_of_getElem? ht
    have ho := hO t hmem
    have ed := drop_cons' ht
    have hct : cn t ≤ 1000000000000000000 := Nat.le_trans (cprod_part hpos t hmem) hB
    rw [ed] at hT2 hre
    obtain ⟨c1, l1, c2, a1, a2, rfl⟩ := takeRow_cons hT2
    rw [codeRow_append, List.append_assoc] at hdr2
    have hlt2 : Lays K H2 t false [c] := Lays.keeps (same_keeps s2) _ _ _ hlt
    refine ⟨_, rfl, _, rfl, val_ask hlt2 ho.fine ho.sh ho.dp (small_big hct) fun H3 s3 => ?_⟩
    have hlt3 : Lays K H3 t false [c] := Lays.keeps (same_keeps s3) _ _ _ hlt2
    obtain ⟨cc, dc, fc, ec, hcc, lk⟩ := hlt3.cl ho.sh (m := "number_of") (by decide)
    refine ⟨m, cn t, rfl, rfl, hct, _, rfl, cc, c, dc, fc, rfl, hcc, lk, _, rfl, _, rfl, ?_⟩
    refine ⟨c, cl, t, st', cs, _, c1, u, l1, rfl, hlt3, ec, ho, hct, s3 _ _ (s2 _ _ hcl), a1, hdr2, fun H4 s4 => ?_⟩
    refine ⟨_, _, rfl, rfl, ?_⟩
    refine ⟨_, rfl, _, rfl, cnt_ask (Lays.keeps (same_keeps s4) _ _ _ hlt3) ho.fine ho.sh ho.dp fun H5 s5 => ⟨_, _, rfl, rfl, ?_⟩⟩
    refine ⟨some (.ref c), m * cn t + (Valaya.indexBy t none u).1, st' + Valaya.countLeaves t, c2, l1, ?_, s2.trans (s3.trans (s4.trans s5)), a2, ?_, ?_⟩
    · rw [Int.natCast_add, Int.natCast_add]
      rfl
    · have := drop_app hdr2
      rw [codeRow_len, take_length t none u c1 l1 a1] at this
      exact this
    · rw [← hre]
      show (m * cn t + (Valaya.indexBy t none u).1) * cprod (ts.drop (i + 1)) + _ = m * (cn t * cprod (ts.drop (i + 1))) + ((Valaya.indexBy t none u).1 * cprod (ts.drop (i + 1)) + (idxRow (ts.drop (i + 1)) (Valaya.indexBy t none u).2).1)
      rw [rest_of ho.fine ho.sh a1, Nat.add_mul, Nat.mul_assoc, Nat.add_assoc]
  · rintro σ H' ⟨x, m, st', cd', u, rfl, s2, hT2, hdr2, hre⟩
    rw [List.length_map, paired_len hP, List.drop_length] at hre
    have hre : m * 1 + 0 = (idxRow ts v).1 := hre
    rw [Nat.mul_one, Nat.add_zero] at hre
    refine ⟨_, rfl, ?_⟩
    rw [hre]
    exact q H' s2
end
end Lv
set_option Elab.async false
set_option linter.all false
set_option maxRecDepth 100000
set_option maxHeartbeats 4000000
namespace Lv
open PySem PySem.Spec PyProof.Rows L2 TL
open Valaya (Ty)
theorem cut_head {xs : List V} {j : Nat} (h : j ≤ xs.length) : cutV xs none (some (j : Int)) = xs.take j := by
  unfold cutV
  rw [HT.sIx_nat, Nat.min_eq_left h]
  show (xs.drop 0).take (j - 0) = _
  rw [List.drop_zero, Nat.sub_zero]
theorem int_lsum (ts : List Ty) : ((ts.map fun t => (Valaya.countLeaves t : Int)).sum) = (lsum ts : Nat) := by
  induction ts with
  | nil => rfl
  | cons t r ih =>
    rw [List.map_cons, List.sum_cons, ih]
    show _ = ((Valaya.countLeaves t + lsum r : Nat) : Int)
    omega
section
variable {P : Program} {w : World} {K : PySem.W.Frag} {mg : Str → Option Value} {base : Heap}
theorem PartsAt.take {H : Hp} {cs : List Addr} {ts : List Ty} (h : PartsAt K H cs ts) : ∀ j : Nat, PartsAt K H (cs.take j) (ts.take j) := by
  unfold PartsAt at h ⊢
  induction h with
  | nil => intro j; rw [List.take_nil, List.take_nil]; exact .nil
  | cons z _ ih =>
    intro j
    cases j with
    | zero => exact .nil
    | succ j => exact .cons z (ih j)
theorem ok_number_of (T : Txt K mg) : ∀ n : Nat, NumOfAt P w K mg base n := by
  have G_U_value_count := ok_value_count (P := P) (w := w) (base := base) T 6
  have G_U_leaf_count := ok_leaf_count (P := P) (w := w) (base := base) T 6
  have G_Many_row := ok_Many_row (P := P) (w := w) (base := base) T
  intro n
  induction n with
  | zero =>
    intro c
    have no : ∀ {vs : List V} {H : Hp} {Q : VK} {E : XK}, spNumOf K 0 c vs H Q E → False := fun {vs H Q E} h => by
      obtain ⟨a, cl, t, st, cs, rest, cd, v, v', _, _, hc, hp, _⟩ := h
      have := dd_pos hp.sh
      have := hp.dd
      omega
    cases c with
    | num => exact T.m_Number_number_of.ok sc_Number_number_of len_num fun f cdv A outer s H vs Q E hr h => (no h).elim
    | maybe => exact T.m_Maybe_number_of.ok sc_Maybe_number_of len_num fun f cdv A outer s H vs Q E hr h => (no h).elim
    | many => exact T.m_Many_number_of.ok sc_Many_number_of len_num fun f cdv A outer s H vs Q E hr h => (no h).elim
    | one => exact T.m_One_number_of.ok sc_One_number_of len_num fun f cdv A outer s H vs Q E hr h => (no h).elim
    | named => exact T.m_Named_number_of.ok sc_Named_number_of len_num fun f cdv A outer s H vs Q E hr h => (no h).elim
  | succ n ih =>
    have G_U_number_of : NumOfAt P w K mg base n := ih
    have G_number_row := ok_number_row (P := P) (w := w) (base := base) T ih
    intro c
    cases c with
    | num =>
      refine T.m_Number_number_of.ok sc_Number_number_of len_num fun f cdv A outer s H vs Q E hr h => ?_
      obtain ⟨a, cl, t, st, cs, rest, cd, v, v', rfl, hl, hc, hp, hB, hcl, hT, hdr, q⟩ := h
      cases t <;> first | cases hc | skip
      rename_i lo hi al
      obtain ⟨z, hz1, e⟩ : ∃ z, cs[st]? = some z ∧ z = (((Valaya.indexBy (.num lo hi al) none v).1 : Nat) : Int) := by
        cases v with
        | nil => cases hT
        | cons x v =>
          simp only [Valaya.takeValue] at hT
          split at hT
          · cases hT
            exact ⟨_, drop_head hdr, rfl⟩
          · cases hT
      refine ⟨_, (pss_one (ps_ret (pe_ix ix_list (pv 1) (pv 2) (fun _ _ => rfl)))), ?_⟩
      refine ⟨_, rfl, _, rfl, cl, _, _, V.int z, rfl, rfl, SqL.of hcl, atI_nat (by rw [List.getElem?_map, hz1]; rfl), ?_⟩
      rw [e]
      exact q H (Same.refl H)
    | maybe =>
      refine T.m_Maybe_number_of.ok sc_Maybe_number_of len_num fun f cdv A outer s H vs Q E hr h => ?_
      obtain ⟨a, cl, t, st, cs, rest, cd, v, v', rfl, hl, hc, hp, hB, hcl, hT, hdr, q⟩ := h
      cases t <;> first | cases hc | skip
      rename_i t
      obtain ⟨_, b, e, ⟨dx, h1⟩, h2⟩ := hl
      cases e
      have hdd := hp.dd
      simp only [dd] at hdd
      have hdp := hp.dp
      simp only [dep] at hdp
      have hcl' : cn (.maybe t) = 1 + cn t := rfl
      refine ⟨_, (pss_cons (ps_if (pt_cmpR op_eq (pe_ix ix_list (pv 1) (pv 2) (fun _ _ => rfl)) pe_int (nomark _)) (pss_one (ps_ret pe_int)) pss_nil)
  (pss_one (ps_ret (pe_op op_add pe_int (pe_meU (pe_fl T.c_Maybe T.na_Maybe_inner (pv 0)) G_U_number_of hr (by first | decide | omega) (pa_cons (pv 1) (pa_cons (pe_op op_add (pv 2) pe_int) pa_nil))))))), ?_⟩
      simp only [Valaya.takeValue] at hT
      split at hT
      · rename_i r
        cases hT
        have hz := drop_head hdr
        refine ⟨_, rfl, _, rfl, cl, _, _, V.int 0, rfl, rfl, SqL.of hcl, atI_nat (by rw [List.getElem?_map, hz]; rfl), rfl, _, rfl, if_t rfl ?_⟩
        exact q H (Same.refl H)
      · rename_i r
        obtain ⟨y, hy, e⟩ := Option.map_eq_some_iff.mp hT
        cases e
        have hdr : cs.drop st = 1 :: (Valaya.codeRow y.1 ++ rest) := hdr
        have hz := drop_head hdr
        have hd2 : cs.drop (st + 1) = Valaya.codeRow y.1 ++ rest := drop_app (a := [1]) hdr
        refine ⟨_, rfl, _, rfl, cl, _, _, V.int 1, rfl, rfl, SqL.of hcl, atI_nat (by rw [List.getElem?_map, hz]; rfl), rfl, _, rfl, if_f rfl ?_⟩
        have hsh := hp.fine.1
        obtain ⟨cc, dc, fc, ec, hcc, lk⟩ := h2.cl hsh (m := "number_of") (by decide)
        refine ⟨_, rfl, a, dx, _, _, rfl, h1, rfl, cc, b, dc, fc, rfl, hcc, lk, _, rfl, _, rfl, _, _, rfl, rfl, ?_⟩
        refine ⟨b, cl, t, st + 1, cs, rest, y.1, r, y.2, rfl, h2, ec, ⟨hp.fine.2, hsh, by omega, by omega, hp.d6⟩, by omega, hcl, hy, hd2, fun H2 s2 => ⟨_, _, rfl, rfl, ?_⟩⟩
        have := q H2 s2
        have e : (Valaya.indexBy (.maybe t) none (1 :: r)).1 = 1 + (Valaya.indexBy t none r).1 := by
          show (if (1 : Int) = 0 then _ else ((Valaya.indexBy t none r).1 + 1, (Valaya.indexBy t none r).2)).1 = _
          rw [if_neg (by decide)]
          exact Nat.add_comm ..
        rw [e, Int.natCast_add] at this
        exact this
      · cases hT
    | many =>
      refine T.m_Many_number_of.ok sc_Many_number_of len_num fun f cdv A outer s H vs Q E hr h => ?_
      obtain ⟨a, cl, t, st, cs, rest, cd, v, v', rfl, hl, hc, hp, hB, hcl, hT, hdr, q⟩ := h
      cases t <;> first | cases hc | skip
      rename_i m t
      obtain ⟨_, b, e, ⟨dx, h1⟩, h2⟩ := hl
      cases e
      have hf := hp.fine
      have hdd := hp.dd
      simp only [dd] at hdd
      have hdp := hp.dp
      simp only [dep] at hdp
      have en : (Valaya.indexBy (.many m t) none v) = idxRow (List.replicate m t) v := idx_many t m v
      have hT : Valaya.takeMany (Valaya.takeValue t none) m v = some (cd, v') := hT
      rw [take_many] at hT
      rw [many_pow] at hB
      rw [en] at q
      refine ⟨_, (pss_one (ps_ret (pe_fn G_number_row hr (by first | decide | omega) (pa_cons (pe_me0 (pv 0) G_Many_row hr (by first | decide | omega)) (pa_cons (pv 1) (pa_cons (pv 2) pa_nil)))))), ?_⟩
      refine ⟨_, rfl, a, dx, _, rfl, h1, rfl, a, b, m, rfl, ⟨dx, h1⟩, hf.2.1, fun p H2 np s2 hp2 => ?_⟩
      refine ⟨_, rfl, _, rfl, p, cl, _, List.replicate m t, st, cs, rest, cd, v, v', rfl, hp2, parts_rep (Lays.keeps (same_keeps s2) _ _ _ h2) m, fun u hu => ?_, hB, s2 _ _ hcl, hT, hdr, fun H3 s3 => q H3 (s2.trans s3)⟩
      rw [(List.mem_replicate.mp hu).2]
      exact ⟨hf.2.2.2, hf.2.2.1, by omega, by omega, hp.d6⟩
    | one =>
      refine T.m_One_number_of.ok sc_One_number_of len_num fun f cdv A outer s H vs Q E hr h => ?_
      obtain ⟨a, cl, t, st, cs, rest, cd, v, v', rfl, hl, hc, hp, hB, hcl, hT, hdr, q⟩ := h
      cases t <;> first | cases hc | skip
      rename_i fs
      obtain ⟨_, l, bs, e, ⟨dx, h1⟩, h2, h3⟩ := hl
      cases e
      have hf := hp.fine
      have hdd := hp.dd
      simp only [dd] at hdd
      have hdp := hp.dp
      simp only [dep] at hdp
      have hTP : ∀ t ∈ tys fs, TPart n t := tpart_row hf.2.2.2 (by omega) (by omega) hp.d6
      rw [one_sum hf] at hB
      obtain ⟨es, hA, hPa⟩ := parts_alts (Lays.row hf.1 hf.2.2.2 h3)
      have hPa : PartsAt K H es (tys fs) := hPa
      have hbe : bs.length = es.length := paired_len hA
      have het : es.length = (tys fs).length := paired_len hPa
      have hl4 : (tys fs).length ≤ 4 := by rw [tys_length]; exact hf.2.2.1
      -- what is told by the value
      obtain ⟨j, t, c1, k, r, hj, ht, hT1, hdr1, hix⟩ : ∃ (j : Nat) (t : Ty) (c1 : List (Option Nat)) (k : Nat) (r : List Int), j < (tys fs).length ∧ (tys fs)[j]? = some t ∧ Valaya.takeValue t none r = some (c1, v') ∧ cs.drop st = (j : Int) :: (List.replicate (lsum ((tys fs).take j)) (-1) ++ (Valaya.codeRow c1 ++ (List.replicate k (-1) ++ rest))) ∧ (Valaya.indexBy (.one_ fs) none v).1 = csum ((tys fs).take j) + (Valaya.indexBy t none r).1 := by
        cases v with
        | nil => cases hT
        | cons z r =>
          simp only [Valaya.takeValue] at hT
          split at hT
          · rename_i hz
            obtain ⟨y, hy, e⟩ := Option.map_eq_some_iff.mp hT
            cases e
            obtain ⟨t, c1, k, g1, g2, g3, g4⟩ := take_alt hf.1 hf.2.2.2 z.toNat r y.1 y.2 (by omega) hy
            refine ⟨z.toNat, t, c1, k, r, by rw [tys_length]; omega, g1, g2, ?_, ?_⟩
            · rw [hdr]
              show ((z.toNat : Int) :: Valaya.codeRow y.1) ++ rest = _
              rw [g3, codeRow_append, codeRow_append, codeRow_none, codeRow_none, List.cons_append, List.append_assoc, List.append_assoc]
            · show (Valaya.indexBy fs (some z.toNat) r).1 = _
              rw [g4]
          · cases hT
      rw [hix] at q
      have hz := drop_head hdr1
      have htp := hTP t (List.mem_of_getElem? ht)
      have hct : cn t ≤ 1000000000000000000 := Nat.le_trans (csum_part t (List.mem_of_getElem? ht)) hB
      refine ⟨_, (pss_cons (ps_set (i := 3) sc_One_number_of.nd rfl (Or.inl rfl) (pe_ix ix_list (pv 1) (pv 2) (fun _ _ => rfl)))
  (pss_cons (ps_setLc (i := 4) (own := [("alternative", 7)]) (g := (gName 7)) (tt := tYes) (by rfl) sc_One_number_of.nd rfl rfl (sw_true rfl rfl rfl (by decide +kernel)) (pi_list (pe_slice sl_list (pe_fl T.c_One T.na_One_alternatives (pv 0)) po_none (po_some (pv 3)))) (blkOk_by (own := [("alternative", 7)]) (N := ["self", "codes", "start", "chosen", "ahead", "chosen_start", "number", "alternative", "inner"]) (sc := defScope s_One_number_of) (by decide +kernel)) (fun _ _ _ _ _ => by exact (pg_name (i := 7) sc_One_number_of.nd rfl (Or.inl rfl))) (fun _ _ _ _ _ => pts_nil) (fun _ _ _ _ _ => by exact (pe_fl T.c_Alternative T.na_Alternative_inner (pv 7))))
  (pss_cons (ps_set (i := 5) sc_One_number_of.nd rfl (Or.inl rfl) (pe_op op_add (pe_op op_add (pv 2) pe_int) (pe_callB (cr_sum rfl) (by rfl) T.f_sum (by decide +kernel) (pa_cons (by exact (pe_lc (own := [("inner", 8)]) (g := (gName 8)) (tt := tYes) (by rfl) sc_One_number_of.nd (pi_list (pv 4)) (blkOk_by (own := [("inner", 8)]) (N := ["self", "codes", "start", "chosen", "ahead", "chosen_start", "number", "alternative", "inner"]) (sc := defScope s_One_number_of) (by decide +kernel)) (fun _ _ _ _ _ => by exact (pg_name (i := 8) sc_One_number_of.nd rfl (Or.inl rfl))) (fun _ _ _ _ _ => pts_nil) (fun _ _ _ _ _ => by exact (pe_meU0 (pv 8) G_U_leaf_count hr (by first | decide | omega))))) pa_nil))))
  (pss_cons (ps_set (i := 6) sc_One_number_of.nd rfl (Or.inl rfl) (pe_meU (pe_fl T.c_Alternative T.na_Alternative_inner (pe_ix ix_list (pe_fl T.c_One T.na_One_alternatives (pv 0)) (pv 3) (fun _ _ => rfl))) G_U_number_of hr (by first | decide | omega) (pa_cons (pv 1) (pa_cons (pv 5) pa_nil))))
  (pss_one (ps_ret (pe_op op_add (pe_callB (cr_sum rfl) (by rfl) T.f_sum (by decide +kernel) (pa_cons (by exact (pe_lc (own := [("inner", 8)]) (g := (gName 8)) (tt := tYes) (by rfl) sc_One_number_of.nd (pi_list (pv 4)) (blkOk_by (own := [("inner", 8)]) (N := ["self", "codes", "start", "chosen", "ahead", "chosen_start", "number", "alternative", "inner"]) (sc := defScope s_One_number_of) (by decide +kernel)) (fun _ _ _ _ _ => by exact (pg_name (i := 8) sc_One_number_of.nd rfl (Or.inl rfl))) (fun _ _ _ _ _ => pts_nil) (fun _ _ _ _ _ => by exact (pe_meU0 (pv 8) G_U_value_count hr (by first | decide | omega))))) pa_nil)) (pv 6)))))))), ?_⟩
      refine ⟨_, rfl, _, rfl, cl, _, _, V.int (j : Int), rfl, rfl, SqL.of hcl, atI_nat (by rw [List.getElem?_map, hz]; rfl), ?_⟩
      refine ⟨_, rfl, a, dx, _, _, rfl, h1, rfl, _, rfl, _, rfl, l, _, rfl, SqL.of h2, fun p np => ?_⟩
      rw [cut_head (by rw [List.length_map]; omega), ← List.map_take]
      have s1 : Same H (upd H p (.lst ((bs.take j).map V.ref))) := same_upd np
      have hp1 : (upd H p (.lst ((bs.take j).map V.ref))) p = some (.lst ((bs.take j).map V.ref)) := upd_same
      generalize upd H p (.lst ((bs.take j).map V.ref)) = H1 at *
      refine ⟨p, rfl, ⟨_, SqL.of hp1⟩, fun D nD => lc_to (K := K) (a := p) (ys := (es.take j).map V.ref) nD (SqL.of hp1) (by simp only [List.length_map, List.length_take]; omega) (fun i y z H2 hy hzz s2 e2 => ?_) fun H2 s2 hD2 => ?_⟩
      · obtain ⟨b, hb, rfl⟩ := ref_item hy
        have hb' : bs[i]? = some b := by
          rw [List.getElem?_take] at hb
          split at hb
          · exact hb
          · cases hb
        obtain ⟨c, hc', x, db, hx⟩ := paired_at hA hb'
        have hi : i < j := by
          rw [List.getElem?_take] at hb
          split at hb
          · assumption
          · cases hb
        have ez : z = V.ref c := by
          rw [List.getElem?_map, List.getElem?_take, if_pos hi, hc'] at hzz
          exact (Option.some.inj hzz).symm
        subst ez
        refine ⟨rfl, ?_⟩
        refine ⟨_, rfl, b, db, _, _, rfl, s2 _ _ (s1 _ _ hx), rfl, ?_⟩
        exact lc_put nD s2 e2 hzz (by rw [List.length_map, List.length_take, sizeLine_eq]; omega)
      have s12 := s1.trans s2
      have hPt : PartsAt K H2 (es.take j) ((tys fs).take j) := (hPa.keeps (same_keeps s12)).take j
      refine ⟨_, rfl, _, _, rfl, rfl, _, rfl, D, rfl, ⟨_, SqL.of hD2⟩, fun D3 nD3 => lc_to (K := K) (a := D) (ys := (((tys fs).take j).map fun t => (Valaya.countLeaves t : Int)).map V.int) nD3 (SqL.of hD2) (by simp only [List.length_map, List.length_take]; omega) (fun i y z H3 hy hzz s3 e3 => ?_) fun H3 s3 hD3 => ?_⟩
      · obtain ⟨c, hb, rfl⟩ := ref_item hy
        obtain ⟨u, hu, hlu⟩ := paired_at hPt hb
        have ez : z = V.int (Valaya.countLeaves u : Nat) := by
          rw [List.getElem?_map, List.getElem?_map, hu] at hzz
          exact (Option.some.inj hzz).symm
        subst ez
        have hup := hTP u (List.mem_of_mem_take (List.mem_of_getElem? hu))
        refine ⟨rfl, ?_⟩
        refine ⟨_, rfl, cnt_ask (Lays.keeps (same_keeps s3) _ _ _ hlu) hup.fine hup.sh hup.dp fun H4 s4 => ?_⟩
        exact lc_put nD3 (s3.trans s4) (s4 _ _ e3) hzz (by simp only [List.length_map, List.length_take]; rw [sizeLine_eq]; omega)
      refine ⟨D3, _, rfl, SqL.of hD3, _, _, rfl, rfl, ?_⟩
      rw [int_lsum]
      have s13 := s12.trans s3
      have hb : bs[j]? = some (bs[j]'(by omega)) := List.getElem?_eq_getElem (by omega)
      obtain ⟨c, hc', x, db, hx⟩ := paired_at hA hb
      obtain ⟨t2, ht2, hlt⟩ := paired_at hPa hc'
      obtain rfl : t2 = t := by
        rw [ht2] at ht
        exact Option.some.inj ht
      have hlt3 : Lays K H3 t2 false [c] := Lays.keeps (same_keeps s13) _ _ _ hlt
      obtain ⟨cc, dc, fc, ec, hcc, lk⟩ := hlt3.cl htp.sh (m := "number_of") (by decide)
      refine ⟨_, rfl, a, dx, _, _, rfl, s13 _ _ h1, rfl, _, rfl, l, _, _, V.ref _, rfl, rfl, SqL.of (s13 _ _ h2), atI_nat (by rw [List.getElem?_map, hb]; rfl), _, db, _, _, rfl, s13 _ _ hx, rfl, cc, c, dc, fc, rfl, hcc, lk, _, rfl, _, rfl, ?_⟩
      have hd5 : cs.drop (st + 1 + lsum ((tys fs).take j)) = Valaya.codeRow c1 ++ (List.replicate k (-1) ++ rest) := by
        have e1 := drop_app (a := [(j : Int)]) hdr1
        have e2 := drop_app e1
        rw [List.length_replicate] at e2
        exact e2
      refine ⟨c, cl, t2, st + 1 + lsum ((tys fs).take j), cs, _, c1, r, v', ?_, hlt3, ec, htp, hct, s13 _ _ hcl, hT1, hd5, fun H5 s5 => ?_⟩
      · rw [Int.natCast_add, Int.natCast_add]
        rfl
      have s15 := s13.trans s5
      have hPt5 : PartsAt K H5 (es.take j) ((tys fs).take j) := (hPa.keeps (same_keeps s15)).take j
      have hD5 := s5 _ _ (s3 _ _ hD2)
      refine ⟨_, rfl, D, rfl, ⟨_, SqL.of hD5⟩, fun D6 nD6 => lc_to (K := K) (a := D) (ys := (((tys fs).take j).map fun t => (cn t : Int)).map V.int) nD6 (SqL.of hD5) (by simp only [List.length_map, List.length_take]; omega) (fun i y z H6 hy hzz s6 e6 => ?_) fun H6 s6 hD6 => ?_⟩
      · obtain ⟨c, hb, rfl⟩ := ref_item hy
        obtain ⟨u, hu, hlu⟩ := paired_at hPt5 hb
        have ez : z = V.int (cn u : Nat) := by
          rw [List.getElem?_map, List.getElem?_map, hu] at hzz
          exact (Option.some.inj hzz).symm
        subst ez
        have hum := List.mem_of_mem_take (List.mem_of_getElem? hu)
        have hup := hTP u hum
        refine ⟨rfl, ?_⟩
        refine ⟨_, rfl, val_ask (Lays.keeps (same_keeps s6) _ _ _ hlu) hup.fine hup.sh hup.dp (small_big (Nat.le_trans (csum_part u hum) hB)) fun H4 s4 => ?_⟩
        exact lc_put nD6 (s6.trans s4) (s4 _ _ e6) hzz (by simp only [List.length_map, List.length_take]; rw [sizeLine_eq]; omega)
      refine ⟨D6, _, rfl, SqL.of hD6, _, rfl, _, _, rfl, rfl, ?_⟩
      rw [int_sum]
      have := q H6 (s15.trans s6)
      rw [Int.natCast_add] at this
      exact this
    | named =>
      refine T.m_Named_number_of.ok sc_Named_number_of len_num fun f cdv A outer s H vs Q E hr h => ?_
      obtain ⟨a, cl, t, st, cs, rest, cd, v, v', rfl, hl, hc, hp, hB, hcl, hT, hdr, q⟩ := h
      cases t <;> first | cases hc | skip
      rename_i x t
      obtain ⟨_, r, l, lv, pl, bs, ls, es, e, ⟨dx, h1⟩, ⟨dr, h2⟩, h3, h4, h5, h6, h7, h8⟩ := hl
      cases e
      have hf := hp.fine
      obtain ⟨fs, rfl⟩ := hf.2.1
      have hff : Fine (.rec_ fs) := hf.2.2
      have hdd := hp.dd
      simp only [dd] at hdd
      have h6' := hp.d6
      have en : (Valaya.indexBy (.named x (.rec_ fs)) none v) = idxRow (tys fs) v := idx_row hff.1 hff.2.2 v
      have ec : cn (.named x (.rec_ fs)) = cprod (tys fs) := count_prod hff.1 hff.2.2
      have hT : Valaya.takeValue fs none v = some (cd, v') := hT
      rw [take_row hff.1 hff.2.2] at hT
      rw [ec] at hB
      rw [en] at q
      refine ⟨_, (pss_one (ps_ret (pe_fn G_number_row hr (by first | decide | omega) (pa_cons (pe_fl T.c_Record T.na_Record_parts (pe_fl T.c_Named T.na_Named_record (pv 0))) (pa_cons (pv 1) (pa_cons (pv 2) pa_nil)))))), ?_⟩
      exact ⟨_, rfl, a, dx, _, _, rfl, h1, rfl, r, dr, _, _, rfl, h2, rfl, _, rfl, _, rfl, pl, cl, es, tys fs, st, cs, rest, cd, v, v', rfl, h7, named_parts hff h4 h8, tpart_row hff.2.2 h6'.1 (by omega) h6'.2, hB, hcl, hT, hdr, q⟩
end
end Lv
set_option Elab.async false
set_option linter.all false
set_option maxRecDepth 100000
set_option maxHeartbeats 4000000
namespace Lv
open PySem PySem.Spec PyProof.Rows L2 TL
open Valaya (Ty Rec Leaf)
theorem backFold_more : ∀ {fs : List Leaf} {cs : List Int} {s s' : List Int × List Int}, backFold fs cs s = some s' → s'.2.length ≤ s.2.length + fs.length
  | [], [], s, s', h => by
    cases h
    exact Nat.le_refl _
  | [], _ :: _, _, _, h => by cases h
  | _ :: _, [], _, _, h => by cases h
  | f :: fs, x :: cs, s, s', h => by
    have h : (backStep f x s).bind (backFold fs cs) = some s' := h
    obtain ⟨s1, h1, h⟩ := Option.bind_eq_some_iff.mp h
    have := backFold_more h
    have e1 : s1.2.length ≤ s.2.length + 1 := by
      unfold backStep at h1
      split at h1
      · split at h1
        · cases h1
          simp
        · cases h1
      · split at h1
        · cases h1
          simp
        · cases h1
    rw [List.length_cons]
    omega
theorem backIn_length {fs : List Leaf} {cs vs : List Int} (h : backIn fs cs = some vs) : vs.length ≤ fs.length := by
  unfold backIn at h
  obtain ⟨s, hs, rfl⟩ := Option.map_eq_some_iff.mp h
  have := backFold_more hs
  simpa using this
/-- what is known of a record that is held -/
structure RecT (t : Ty) : Prop where
  fine : Fine t
  isRec : ∃ fs, t = .rec_ fs
  dp : dep t ≤ 6
  dd : dd t ≤ 40
  d6 : Dep6 t
  lv : Valaya.countLeaves t ≤ 24
theorem held_rec {rs : List Rec} (h : Held rs) {r : Rec} (hr : r ∈ rs) : RecT r.t := ⟨(h.ok.fine r hr).2.2, (h.ok.fine r hr).2.1, (h.ok.d6 r hr).1, h.ok.dd r hr, (h.ok.d6 r hr).2, (h.fine r hr).lv⟩
section
variable {P : Program} {w : World} {K : PySem.W.Frag} {mg : Str → Option Value} {base : Heap}
def spValueAt (K : PySem.W.Frag) : Sp := fun vs H Q _ => ∃ (a : Addr) (k : Nat) (x : ValayBase.Bytes) (t : Ty), vs = [.ref a, .int k] ∧ RecAt K H a x t ∧ RecT t ∧ cn t ≤ 1000000000000000000 ∧ k < cn t ∧ kList H Q (Valaya.nthBy t none k)
theorem ok_Record_value_at (T : Txt K mg) : MeAt P w K mg base CX0 102 (cR K) "value_at" ["self", "number"] (spValueAt K) := by
  have G_tell_row := ok_tell_row (P := P) (w := w) (base := base) T (ok_tell (P := P) (w := w) (base := base) T 40)
  refine T.m_Record_value_at.ok sc_Record_value_at (fun vs H Q E h => by obtain ⟨a, k, x, t, rfl, _⟩ := h; rfl) fun f cdv A outer s H vs Q E hr h => ?_
  obtain ⟨a, k, x, t, rfl, hat, hR, hB, hk, q⟩ := h
  obtain ⟨fs, rfl⟩ := hR.isRec
  have hff := hR.fine
  have en : Valaya.nthBy (.rec_ fs) none k = nthRow (tys fs) k := nth_row hff.1 hff.2.2 k
  have el : Valaya.countLeaves (.rec_ fs) = lsum (tys fs) := lsum_row hff.1 hff.2.2
  have ec : cn (.rec_ fs) = cprod (tys fs) := count_prod hff.1 hff.2.2
  have hlv := hR.lv
  rw [ec] at hB hk
  rw [el] at hlv
  rw [en] at q
  obtain ⟨l, lv, pl, bs, ls, cs, ⟨da, g1⟩, g2, g3, g4, g5, g6, g7⟩ := hat
  refine ⟨_, (pss_cons (ps_set (i := 2) sc_Record_value_at.nd rfl (Or.inl rfl) (pe_lst pa_nil))
  (pss_cons (ps_expr (pe_fn G_tell_row hr (by first | decide | omega) (pa_cons (pe_fl T.c_Record T.na_Record_parts (pv 0)) (pa_cons (pv 1) (pa_cons (pv 2) pa_nil)))))
  (pss_one (ps_ret (pv 2))))), ?_⟩
  refine ⟨by decide, fun D nD => ?_⟩
  have s1 : Same H (upd H D (.lst [])) := same_upd nD
  have sd : Same H (del (upd H D (.lst [])) D) := fun b o h => by
    rw [del_upd, del_ne (ne_of_none h nD)]
    exact h
  have hD : (upd H D (.lst [])) D = some (.lst []) := upd_same
  generalize upd H D (.lst []) = H1 at *
  refine ⟨_, rfl, a, da, _, _, rfl, s1 _ _ g1, rfl, _, rfl, _, rfl, pl, D, cs, tys fs, k, [], rfl, sd _ _ g6, (named_parts hff g3 g7).keeps (same_keeps sd), tpart_row hff.2.2 hR.dp hR.dd hR.d6, hB, hk, hD, by simp only [List.length_nil]; omega, fun H2 b2 hD2 => ?_⟩
  refine ⟨_, rfl, q D H2 nD ?_ hD2⟩
  exact sd.trans ((but_del b2).trans del_same')
def spNumberAt (K : PySem.W.Frag) : Sp := fun vs H Q _ => ∃ (a cl : Addr) (x : ValayBase.Bytes) (t : Ty) (cd : List (Option Nat)) (v v' : List Int), vs = [.ref a, .ref cl] ∧ RecAt K H a x t ∧ RecT t ∧ cn t ≤ 1000000000000000000 ∧ H cl = some (.lst ((Valaya.codeRow cd).map V.int)) ∧ Valaya.takeValue t none v = some (cd, v') ∧ ∀ H', Same H H' → Q (.int ((Valaya.indexBy t none v).1 : Nat)) H'
theorem ok_Record_number_at (T : Txt K mg) : MeAt P w K mg base CX0 102 (cR K) "number_at" ["self", "codes"] (spNumberAt K) := by
  have G_number_row := ok_number_row (P := P) (w := w) (base := base) T (ok_number_of (P := P) (w := w) (base := base) T 40)
  refine T.m_Record_number_at.ok sc_Record_number_at (fun vs H Q E h => by obtain ⟨a, k, x, t, cd, v, v', rfl, _⟩ := h; rfl) fun f cdv A outer s H vs Q E hr h => ?_
  obtain ⟨a, cl, x, t, cd, v, v', rfl, hat, hR, hB, hcl, hT, q⟩ := h
  obtain ⟨fs, rfl⟩ := hR.isRec
  have hff := hR.fine
  have en : Valaya.indexBy (.rec_ fs) none v = idxRow (tys fs) v := idx_row hff.1 hff.2.2 v
  have ec : cn (.rec_ fs) = cprod (tys fs) := count_prod hff.1 hff.2.2
  have hT : Valaya.takeValue fs none v = some (cd, v') := hT
  rw [take_row hff.1 hff.2.2] at hT
  rw [ec] at hB
  rw [en] at q
  obtain ⟨l, lv, pl, bs, ls, cs, ⟨da, g1⟩, g2, g3, g4, g5, g6, g7⟩ := hat
  refine ⟨_, (pss_one (ps_ret (pe_fn G_number_row hr (by first | decide | omega) (pa_cons (pe_fl T.c_Record T.na_Record_parts (pv 0)) (pa_cons (pv 1) (pa_cons pe_int pa_nil)))))), ?_⟩
  exact ⟨_, rfl, a, da, _, _, rfl, g1, rfl, _, rfl, pl, cl, cs, tys fs, 0, Valaya.codeRow cd, [], cd, v, v', rfl, g6, named_parts hff g3 g7, tpart_row hff.2.2 hR.dp hR.dd hR.d6, hB, hcl, hT, by rw [List.drop_zero, List.append_nil], q⟩
/-! ### value -/
def spTellValue (K : PySem.W.Frag) : Sp := fun vs H Q E => ∃ (h cl : Addr) (n : Int) (rs : List Rec) (c : List Int), vs = [.ref h, .int n, .ref cl] ∧ HoldAt K H h rs ∧ Held rs ∧ H cl = some (.lst (c.map V.int)) ∧ OutL K H E rs n fun r => OutO K H E "NoValue" (-4) (backIn (Valaya.leavesOf r.t) c) fun v => kList H Q ([(v.length : Int)] ++ v)
theorem ok_tell_value (T : Txt K mg) : FnAt P w K mg base (L2.CX P w) 7 "tell_value" ["holder", "record", "codes"] (spTellValue K) := by
  have G_Holder_leaves_of := ok_Holder_leaves_of (P := P) (w := w) (base := base) T
  have G_value_of := ok_value_of (P := P) (w := w) (base := base) T
  refine T.d_tell_value.okX sc_tell_value (fun vs H Q E h => by obtain ⟨h, vl, n, rs, v, rfl, _⟩ := h; rfl) fun f cdv A outer s H vs Q E hr h tk => ?_
  obtain ⟨h, cl, n, rs, c, rfl, hH, hrs, hc, q⟩ := h
  obtain ⟨rl, as, ⟨dx, hh⟩, hl, hL⟩ := id hH
  refine ⟨_, (pss_cons (ps_set (i := 3) sc_tell_value.nd rfl (Or.inl rfl) (pe_fnX G_value_of hr (by first | decide | omega) tk (pa_cons (pe_meX (pv 0) G_Holder_leaves_of hr (by first | decide | omega) tk (pa_cons (pv 1) pa_nil)) (pa_cons (pv 2) pa_nil))))
  (pss_one (ps_ret (pe_op op_cat (pe_lst (pa_cons (pe_callB call_len_seq (by rfl) T.f_len PySem.boot_len (pa_cons (pv 3) pa_nil)) pa_nil)) (pv 3))))), ?_⟩
  refine ⟨_, rfl, h, dx, _, rfl, hh, rfl, argS rfl (ask_leaves hH q fun r hr q lv ls hlv hls => ?_)⟩
  have h24 := leaves_small hrs hr
  refine ⟨_, rfl, lv, cl, ls, _, c, rfl, hlv, hls, ahead_of _, guards_small hrs hr, by omega, hc, ?_⟩
  cases e : backIn (Valaya.leavesOf r.t) c with
  | none =>
    rw [e] at q
    exact q
  | some vs =>
    rw [e] at q
    intro p H2 np s2 hp
    refine ⟨_, rfl, p, _, rfl, .inl (SqL.of hp), (by show 1 ≤ sizeLine; decide), fun z nz => ⟨_, rfl, ?_⟩⟩
    rw [List.length_map]
    exact len_list q (by have := backIn_length e; omega) s2 hp z nz
/-! ### count, nth, index -/
def OutG (K : PySem.W.Frag) (H : Hp) (E : XK) (t : Ty) (k : Prop) : Prop := (Valaya.GREAT < Valaya.countOf t → Ref_ K H E "TooManyValues" (-6)) ∧ (¬ Valaya.GREAT < Valaya.countOf t → k)
theorem ask_num {H : Hp} {E : XK} {rs : List Rec} {h : Addr} {n : Int} {Q : VK} {k : Rec → Prop} (hH : HoldAt K H h rs) (q : OutL K H E rs n fun r => OutG K H E r.t (k r)) (c : ∀ r ∈ rs, cn r.t ≤ 1000000000000000000 → k r → ∀ a : Addr, RecAt K H a r.x.name r.t → Q (.ref a) H) : spNumRec K [.ref h, .int n] H Q E := by
  refine ⟨h, n, rs, rfl, hH, q.1, fun ne => OutO.imp (K := K) (q.2 ne) fun r hr g => ⟨g.1, fun ng a hat => ?_⟩⟩
  have hm : r ∈ rs := by
    obtain ⟨j, _, hj⟩ := Option.bind_eq_some_iff.mp hr
    exact List.mem_of_getElem? hj
  exact c r hm (Nat.le_of_not_lt ng) (g.2 ng) a hat
def spTellCount (K : PySem.W.Frag) : Sp := fun vs H Q E => ∃ (h : Addr) (n : Int) (rs : List Rec), vs = [.ref h, .int n] ∧ HoldAt K H h rs ∧ Held rs ∧ OutL K H E rs n fun r => OutG K H E r.t (kList H Q [(Valaya.countOf r.t : Int), (Valaya.bitsFor (Valaya.countOf r.t) : Int)])
theorem ok_tell_count (T : Txt K mg) : FnAt P w K mg base (L2.CX P w) 7 "tell_count" ["holder", "record"] (spTellCount K) := by
  have G_Holder_numbered_record_at := ok_Holder_numbered_record_at (P := P) (w := w) (base := base) T
  have G_width_for := ok_width_for (P := P) (w := w) (base := base) T
  refine T.d_tell_count.okX sc_tell_count (fun vs H Q E h => by obtain ⟨h, n, rs, rfl, _⟩ := h; rfl) fun f cdv A outer s H vs Q E hr h tk => ?_
  obtain ⟨h, n, rs, rfl, hH, hrs, q⟩ := h
  obtain ⟨rl, as, ⟨dx, hh⟩, hl, hL⟩ := id hH
  refine ⟨_, (pss_cons (ps_set (i := 2) sc_tell_count.nd rfl (Or.inl rfl) (pe_fl T.c_Record T.na_Record_total (pe_meX (pv 0) G_Holder_numbered_record_at hr (by first | decide | omega) tk (pa_cons (pv 1) pa_nil))))
  (pss_one (ps_ret (pe_lst (pa_cons (pv 2) (pa_cons (pe_fn G_width_for hr (by first | decide | omega) (pa_cons (pe_op op_sub (pv 2) pe_int) pa_nil)) pa_nil)))))), ?_⟩
  refine ⟨_, rfl, h, dx, _, rfl, hh, rfl, argS rfl (ask_num hH q fun r hr hB q a hat => ?_)⟩
  obtain ⟨l, lv, pl, bs, ls, cs, ⟨da, g1⟩, g2, g3, g4, g5, g6, g7⟩ := hat
  have hpos : 1 ≤ cn r.t := cn_pos (held_rec hrs hr).fine
  refine ⟨a, da, _, _, rfl, g1, rfl, ?_⟩
  refine ⟨_, rfl, _, rfl, _, _, rfl, rfl, ((cn r.t : Nat) : Int) - 1, rfl, by omega, by omega, (by show 2 ≤ sizeLine; decide), fun p np => ?_⟩
  have e : (((cn r.t : Nat) : Int) - 1 + 1).toNat = cn r.t := by omega
  rw [e]
  exact q p _ np (same_upd np) upd_same
def spTellNth (K : PySem.W.Frag) : Sp := fun vs H Q E => ∃ (h : Addr) (n m : Int) (rs : List Rec), vs = [.ref h, .int n, .int m] ∧ HoldAt K H h rs ∧ Held rs ∧ OutL K H E rs n fun r => OutG K H E r.t (OutO K H E "NoSuchLeafOrValue" (-3) (pick m (Valaya.countOf r.t)) fun k => kList H Q ([((Valaya.nthOf r.t k).length : Int)] ++ Valaya.nthOf r.t k))
theorem ok_tell_nth (T : Txt K mg) : FnAt P w K mg base (L2.CX P w) 103 "tell_nth" ["holder", "record", "number"] (spTellNth K) := by
  have G_Holder_numbered_record_at := ok_Holder_numbered_record_at (P := P) (w := w) (base := base) T
  have G_NoSuchLeafOrValue := ok_NoSuchLeafOrValue (P := P) (w := w) (base := base) T
  have G_Record_value_at := ok_Record_value_at (P := P) (w := w) (base := base) T
  refine T.d_tell_nth.okX sc_tell_nth (fun vs H Q E h => by obtain ⟨h, n, m, rs, rfl, _⟩ := h; rfl) fun f cdv A outer s H vs Q E hr h tk => ?_
  obtain ⟨h, n, m, rs, rfl, hH, hrs, q⟩ := h
  obtain ⟨rl, as, ⟨dx, hh⟩, hl, hL⟩ := id hH
  refine ⟨_, (pss_cons (ps_set (i := 3) sc_tell_nth.nd rfl (Or.inl rfl) (pe_meX (pv 0) G_Holder_numbered_record_at hr (by first | decide | omega) tk (pa_cons (pv 1) pa_nil)))
  (pss_cons (ps_if (pt_not (pt_chain op_le op_lt pe_int (pv 2) (pe_fl T.c_Record T.na_Record_total (pv 3)))) (pss_one (ps_raise rfl tk (pmk_rz0 G_NoSuchLeafOrValue hr (by first | decide | omega)))) pss_nil)
  (pss_cons (ps_set (i := 4) sc_tell_nth.nd rfl (Or.inl rfl) (pe_me (pv 3) G_Record_value_at hr (by first | decide | omega) (pa_cons (pv 2) pa_nil)))
  (pss_one (ps_ret (pe_op op_cat (pe_lst (pa_cons (pe_callB call_len_seq (by rfl) T.f_len PySem.boot_len (pa_cons (pv 4) pa_nil)) pa_nil)) (pv 4))))))), ?_⟩
  refine ⟨_, rfl, h, dx, _, rfl, hh, rfl, argS rfl (ask_num hH q fun r hr hB q a hat => ?_)⟩
  obtain ⟨l, lv, pl, bs, ls, cs, ⟨da, g1⟩, g2, g3, g4, g5, g6, g7⟩ := id hat
  have hRT := held_rec hrs hr
  refine ⟨_, rfl, _, _, rfl, rfl, _, rfl, ?_⟩
  by_cases c1 : 0 ≤ m
  · refine if_t (decide_eq_true c1) ⟨_, rfl, a, da, _, _, rfl, g1, rfl, _, _, rfl, rfl, _, rfl, ?_⟩
    by_cases c2 : m < ((cn r.t : Nat) : Int)
    · have ek : pick m (Valaya.countOf r.t) = some m.toNat := if_pos ⟨c1, c2⟩
      rw [ek] at q
      have q : kList H Q ([((Valaya.nthOf r.t m.toNat).length : Int)] ++ Valaya.nthOf r.t m.toNat) := q
      refine if_f (by rw [decide_eq_true c2]; rfl) ?_
      refine ⟨_, rfl, a, da, _, rfl, g1, rfl, _, rfl, a, m.toNat, r.x.name, r.t, ?_, hat, hRT, hB, by omega, fun p H2 np s2 hp => ?_⟩
      · rw [Int.toNat_of_nonneg c1]
      refine ⟨_, rfl, p, _, rfl, .inl (SqL.of hp), (by show 1 ≤ sizeLine; decide), fun z nz => ⟨_, rfl, ?_⟩⟩
      rw [List.length_map]
      exact len_list q (by have := nth_part r.t m.toNat; have := hRT.lv; show (Valaya.nthBy r.t none m.toNat).length ≤ _; omega) s2 hp z nz
    · have ek : pick m (Valaya.countOf r.t) = none := if_neg fun z => c2 z.2
      rw [ek] at q
      exact if_t (by rw [decide_eq_false c2]; rfl) (ref_at (K := K) q)
  · have ek : pick m (Valaya.countOf r.t) = none := if_neg fun z => c1 z.1
    rw [ek] at q
    exact if_f (decide_eq_false c1) ⟨_, rfl, if_t rfl (ref_at (K := K) q)⟩
def spTellIndex (K : PySem.W.Frag) : Sp := fun vs H Q E => ∃ (h vl : Addr) (n : Int) (rs : List Rec) (v : List Int), vs = [.ref h, .int n, .ref vl] ∧ HoldAt K H h rs ∧ Held rs ∧ SqL K H vl (v.map V.int) ∧ OutL K H E rs n fun r => OutG K H E r.t (OutO K H E "NoValue" (-4) (Valaya.codesOf r.t v) fun _ => kList H Q [(Valaya.indexOf r.t v : Int)])
theorem ok_tell_index (T : Txt K mg) : FnAt P w K mg base (L2.CX P w) 103 "tell_index" ["holder", "record", "value"] (spTellIndex K) := by
  have G_Holder_numbered_record_at := ok_Holder_numbered_record_at (P := P) (w := w) (base := base) T
  have G_codes_of := ok_codes_of (P := P) (w := w) (base := base) T
  have G_Record_number_at := ok_Record_number_at (P := P) (w := w) (base := base) T
  refine T.d_tell_index.okX sc_tell_index (fun vs H Q E h => by obtain ⟨h, vl, n, rs, v, rfl, _⟩ := h; rfl) fun f cdv A outer s H vs Q E hr h tk => ?_
  obtain ⟨h, vl, n, rs, v, rfl, hH, hrs, hv, q⟩ := h
  obtain ⟨rl, as, ⟨dx, hh⟩, hl, hL⟩ := id hH
  refine ⟨_, (pss_cons (ps_set (i := 3) sc_tell_index.nd rfl (Or.inl rfl) (pe_meX (pv 0) G_Holder_numbered_record_at hr (by first | decide | omega) tk (pa_cons (pv 1) pa_nil)))
  (pss_one (ps_ret (pe_lst (pa_cons (pe_me (pv 3) G_Record_number_at hr (by first | decide | omega) (pa_cons (pe_fnX G_codes_of hr (by first | decide | omega) tk (pa_cons (pe_fl T.c_Record T.na_Record_leaves (pv 3)) (pa_cons (pv 2) pa_nil))) pa_nil)) pa_nil))))), ?_⟩
  refine ⟨_, rfl, h, dx, _, rfl, hh, rfl, argS rfl (ask_num hH q fun r hr hB q a hat => ?_)⟩
  obtain ⟨l, lv, pl, bs, ls, cs, ⟨da, g1⟩, g2, g3, g4, g5, g6, g7⟩ := id hat
  have hRT := held_rec hrs hr
  have h24 := leaves_small hrs hr
  refine ⟨_, rfl, a, da, _, rfl, g1, rfl, _, rfl, a, da, _, _, rfl, g1, rfl, _, rfl, ?_⟩
  refine ⟨lv, vl, ls, _, v, rfl, g4, g5, ahead_of _, guards_small hrs hr, by omega, hv, ?_⟩
  have ec : codesIn (Valaya.leavesOf r.t) v = (Valaya.codesOf r.t v).map Valaya.codeRow := codes_fold r.t hRT.fine.wf v
  rw [ec]
  cases e : Valaya.codesOf r.t v with
  | none =>
    rw [e] at q
    exact q
  | some cd =>
    rw [e] at q
    have q : kList H Q [(Valaya.indexOf r.t v : Int)] := q
    have hT : ∃ v', Valaya.takeValue r.t none v = some (cd, v') := by
      unfold Valaya.codesOf at e
      obtain ⟨y, hy, e⟩ := Option.bind_eq_some_iff.mp e
      split at e
      · cases e
        exact ⟨y.2, hy⟩
      · cases e
    obtain ⟨v', hT⟩ := hT
    intro p H2 np s2 hp
    refine ⟨a, p, r.x.name, r.t, cd, v, v', rfl, RecAt.keeps (same_keeps s2) hat, hRT, hB, hp, hT, fun H3 s3 => ⟨(by show 1 ≤ sizeLine; decide), fun z nz => ?_⟩⟩
    exact q z _ ((s2.trans s3).free nz) ((s2.trans s3).trans (same_upd nz)) upd_same
end
end Lv
set_option Elab.async false
set_option linter.all false
set_option maxRecDepth 100000
set_option maxHeartbeats 4000000
namespace Lv
open PySem PySem.Spec PyProof.Rows L2 TL
open Valaya (Ty Rec Leaf)
theorem drop_cons {ns : List Int} {i : Nat} {x : Int} {r : List Int} (h : ns.drop i = x :: r) : ns[i]? = some x ∧ ns.drop (i + 1) = r := by
  constructor
  · have : (ns.drop i)[0]? = some x := by rw [h]; rfl
    rw [List.getElem?_drop] at this
    simpa using this
  · rw [← List.drop_drop, h]
    rfl
theorem drop_row {ns : List Int} {i : Nat} {b r : List Int} (h : ns.drop i = (b.length : Int) :: (b ++ r)) : ns[i]? = some (b.length : Int) ∧ i + 1 + b.length ≤ ns.length ∧ (ns.drop (i + 1)).take b.length = b := by
  obtain ⟨h1, h2⟩ := drop_cons h
  refine ⟨h1, ?_, ?_⟩
  · have : (ns.drop i).length = ((b.length : Int) :: (b ++ r)).length := congrArg List.length h
    rw [List.length_drop, List.length_cons, List.length_append] at this
    omega
  · rw [h2]
    exact PyFlat.take_len b r
theorem bytes_of_form {b : List Int} (h : ∀ z ∈ b, 0 ≤ z ∧ z ≤ 255) : Bytes_ b := fun n hn => by
  have := h n hn
  unfold Byte
  omega
section
variable {P : Program} {w : World} {K : PySem.W.Frag} {mg : Str → Option Value} {base : Heap}
/-- the line alone has gone on -/
theorem after_line {H H1 : Hp} {h ln cl : Addr} {rs : List Rec} {ns : List Int} {j : Nat} (hH : HoldAt K H h rs) (hd : Held rs) (hln : ∃ dx i, H ln = some (.ins (cLn K) dx (lineF cl i))) (b : But ln H H1) (hL : LineAt K H1 ln cl ns j) : After K H H1 h ln cl rs ns j := by
  obtain ⟨dx, i, hln⟩ := hln
  obtain ⟨rl, as, ⟨d1, i1⟩, hrl, hR⟩ := hH
  have hne : h ≠ ln := fun z => by
    rw [z, hln] at i1
    injection i1 with i1
    injection i1 with _ _ i1
    unfold holdF lineF at i1
    injection i1 with i1
    injection i1 with i1
    exact absurd i1 (by decide)
  exact ⟨(fun x o hx _ h2 => b x o hx h2), ⟨rl, as, ⟨d1, b _ _ i1 hne⟩, b _ _ hrl (fun z => by rw [z, hln] at hrl; cases hrl), hR.keeps (keeps_line hln b)⟩, hd, fun _ => by rw [i1]; exact b _ _ i1 hne, hL⟩
theorem LineAt.but {H H1 : Hp} {ln cl h dh rl : Addr} {ns : List Int} {j : Nat} (L : LineAt K H ln cl ns j) (hh : H h = some (.ins (cH K) dh (holdF rl))) (b : But h H H1) : LineAt K H1 ln cl ns j := by
  obtain ⟨⟨dl, hln⟩, hS⟩ := L
  have hne : ln ≠ h := fun z => by
    rw [z, hh] at hln
    injection hln with i1
    injection i1 with _ _ i1
    unfold holdF lineF at i1
    injection i1 with i1
    injection i1 with i1
    exact absurd i1 (by decide)
  refine ⟨⟨dl, b _ _ hln hne⟩, ?_⟩
  rcases hS with (hS | ⟨o, hS⟩) | hS
  · exact .inl (.inl (b _ _ hS fun z => by rw [z, hh] at hS; cases hS))
  · exact .inl (.inr ⟨o, b _ _ hS fun z => by rw [z, hh] at hS; cases hS⟩)
  · exact .inr hS
theorem step_load {o : Valaya.Obj} {b : List Int} (hb : ∀ z ∈ b, 0 ≤ z ∧ z ≤ 255) : ValayaNeutral.step o [[0], b] = (match Valaya.read (b.map toB) with
    | .ok l => (some l, ValayaNeutral.encode ⟨1, Valaya.nats (l.length :: l.map fun r => Valaya.countLeaves r.t)⟩)
    | .error f => (o, ValayaNeutral.encode (ValayBase.faulty f))) := by
  have e : NeutralIO.bytes b = true := by
    unfold NeutralIO.bytes
    rw [List.all_eq_true]
    intro z hz
    have := hb z hz
    simp
    omega
  have ec : ValayaNeutral.callOf [[0], b] = some (.load (b.map toB)) := by
    show (if NeutralIO.bytes b = true then some (Valaya.Call.load (ValayaNeutral.bytesOf b)) else none) = _
    rw [if_pos e]
    rfl
  unfold ValayaNeutral.step
  rw [ec]
  have es : Valaya.step o (.load (b.map toB)) = (match Valaya.read (b.map toB) with
      | .ok l => (some l, ⟨1, Valaya.nats (l.length :: l.map fun r => Valaya.countLeaves r.t)⟩)
      | .error f => (o, ValayBase.faulty f)) := by
    cases o <;> rfl
  show ((Valaya.step o (.load (b.map toB))).1, ValayaNeutral.encode (Valaya.step o (.load (b.map toB))).2) = _
  rw [es]
  generalize Valaya.read (b.map toB) = z
  cases z <;> rfl
theorem ans_load (rs : List Rec) : ValayaNeutral.encode ⟨1, Valaya.nats (rs.length :: rs.map fun r => Valaya.countLeaves r.t)⟩ = loadedL rs := by
  unfold ValayaNeutral.encode loadedL Valaya.nats Valaya.leavesOf
  simp only [leaves_length, List.map_cons, List.map_map]
  rfl
theorem ok_answer_of (T : Txt K mg) (X : Exm K) : FnAt P w K mg base (L2.CX P w) 105 "answer_of" ["holder", "line"] (spAnswer K) := by
  have G_Line_take_whole := ok_Line_take_whole (P := P) (w := w) (base := base) T
  have G_Line_take_row := ok_Line_take_row (P := P) (w := w) (base := base) T
  have G_load := ok_load (P := P) (w := w) (base := base) T X
  have G_shown := ok_shown (P := P) (w := w) (base := base) T
  have G_tell_leaves := ok_tell_leaves (P := P) (w := w) (base := base) T
  have G_tell_leaf := ok_tell_leaf (P := P) (w := w) (base := base) T
  have G_tell_codes := ok_tell_codes (P := P) (w := w) (base := base) T
  have G_tell_value := ok_tell_value (P := P) (w := w) (base := base) T
  have G_tell_count := ok_tell_count (P := P) (w := w) (base := base) T
  have G_tell_nth := ok_tell_nth (P := P) (w := w) (base := base) T
  have G_tell_index := ok_tell_index (P := P) (w := w) (base := base) T
  have r1 : RefOk K "NoRecords" := ⟨T.x_NoRecords, T.na_NoRecords_answer, X.noRecords⟩
  have r2 : RefOk K "NoSuchRecord" := ⟨T.x_NoSuchRecord, T.na_NoSuchRecord_answer, X.noSuchRecord⟩
  have r3 : RefOk K "NoSuchLeafOrValue" := ⟨T.x_NoSuchLeafOrValue, T.na_NoSuchLeafOrValue_answer, X.noSuchLeaf⟩
  have r4 : RefOk K "NoValue" := ⟨T.x_NoValue, T.na_NoValue_answer, X.noValue⟩
  have r6 : RefOk K "TooManyValues" := ⟨T.x_TooManyValues, T.na_TooManyValues_answer, X.tooMany⟩
  refine T.d_answer_of.okX sc_answer_of (fun vs H Q E h => by obtain ⟨h, ln, cl, rs, ns, i, c, rest, rfl, _⟩ := h; rfl) fun f cdv A outer s H vs Q E hr h tk => ?_
  obtain ⟨h, ln, cl, rs, ns, i, c, rest, rfl, hH, hHd, hL, hdr, hF, qY, qN⟩ := h
  obtain ⟨⟨dl, hln⟩, hSl⟩ := id hL
  obtain ⟨rl0, as0, ⟨dh, hh0⟩, _⟩ := id hH
  have hho : ∃ o, H h = some o := ⟨_, hh0⟩
  have hlno : ∃ dx i, H ln = some (.ins (cLn K) dx (lineF cl i)) := ⟨_, _, hln⟩
  refine ⟨_, pss_cons (ps_set (i := 2) sc_answer_of.nd rfl (Or.inl rfl) (pe_me0 (pv 1) G_Line_take_whole hr (by first | decide | omega))) (pss_cons (ps_if (pt_cmpR op_eq (pv 2) (pe_num T.n_LOAD) (nomark _)) (pss_one (ps_ret (pe_fn G_load hr (by first | decide | omega) (pa_cons (pv 0) (pa_cons (pe_me0 (pv 1) G_Line_take_row hr (by first | decide | omega)) pa_nil))))) pss_nil) (pss_cons (ps_if (pt_cmpR op_eq (pv 2) (pe_num T.n_SHOWN) (nomark _)) (pss_one (ps_ret (pe_fnX G_shown hr (by first | decide | omega) tk (pa_cons (pv 0) pa_nil)))) pss_nil) (pss_cons (ps_set (i := 3) sc_answer_of.nd rfl (Or.inl rfl) (pe_me0 (pv 1) G_Line_take_whole hr (by first | decide | omega))) (pss_cons (ps_if (pt_cmpR op_eq (pv 2) (pe_num T.n_LEAVES) (nomark _)) (pss_one (ps_ret (pe_fnX G_tell_leaves hr (by first | decide | omega) tk (pa_cons (pv 0) (pa_cons (pv 3) pa_nil))))) pss_nil) (pss_cons (ps_if (pt_cmpR op_eq (pv 2) (pe_num T.n_LEAF) (nomark _)) (pss_one (ps_ret (pe_fnX G_tell_leaf hr (by first | decide | omega) tk (pa_cons (pv 0) (pa_cons (pv 3) (pa_cons (pe_me0 (pv 1) G_Line_take_whole hr (by first | decide | omega)) pa_nil)))))) pss_nil) (pss_cons (ps_if (pt_cmpR op_eq (pv 2) (pe_num T.n_CODES) (nomark _)) (pss_one (ps_ret (pe_fnX G_tell_codes hr (by first | decide | omega) tk (pa_cons (pv 0) (pa_cons (pv 3) (pa_cons (pe_me0 (pv 1) G_Line_take_row hr (by first | decide | omega)) pa_nil)))))) pss_nil) (pss_cons (ps_if (pt_cmpR op_eq (pv 2) (pe_num T.n_VALUE) (nomark _)) (pss_one (ps_ret (pe_fnX G_tell_value hr (by first | decide | omega) tk (pa_cons (pv 0) (pa_cons (pv 3) (pa_cons (pe_me0 (pv 1) G_Line_take_row hr (by first | decide | omega)) pa_nil)))))) pss_nil) (pss_cons (ps_if (pt_cmpR op_eq (pv 2) (pe_num T.n_COUNT) (nomark _)) (pss_one (ps_ret (pe_fnX G_tell_count hr (by first | decide | omega) tk (pa_cons (pv 0) (pa_cons (pv 3) pa_nil))))) pss_nil) (pss_cons (ps_if (pt_cmpR op_eq (pv 2) (pe_num T.n_NTH) (nomark _)) (pss_one (ps_ret (pe_fnX G_tell_nth hr (by first | decide | omega) tk (pa_cons (pv 0) (pa_cons (pv 3) (pa_cons (pe_me0 (pv 1) G_Line_take_whole hr (by first | decide | omega)) pa_nil)))))) pss_nil) (pss_cons (ps_if (pt_cmpR op_eq (pv 2) (pe_num T.n_INDEX) (nomark _)) (pss_one (ps_ret (pe_fnX G_tell_index hr (by first | decide | omega) tk (pa_cons (pv 0) (pa_cons (pv 3) (pa_cons (pe_me0 (pv 1) G_Line_take_row hr (by first | decide | omega)) pa_nil)))))) pss_nil) pss_never)))))))))), ?_⟩
  cases hF with
  | load b hb hbl =>
    have hdr' : ns.drop i = 0 :: ((b.length : Int) :: (b ++ rest)) := by
      rw [hdr]
      simp [PyFlat.put1, PyFlat.putRows, PyFlat.putRow]
    obtain ⟨hx, hd1⟩ := drop_cons hdr'
    obtain ⟨w1, w2, w3⟩ := drop_row hd1
    have elen : i + (PyFlat.put1 [[0], b]).length = i + 1 + 1 + b.length := by
      simp [PyFlat.put1, PyFlat.putRows, PyFlat.putRow]
      omega
    rw [elen] at qY qN
    refine ⟨_, rfl, ln, dl, _, rfl, hln, rfl, ln, cl, ns, i, 0, rfl, hL, hx, fun H1 b1 L1 => ?_⟩
    obtain ⟨⟨dl1, hln1⟩, _⟩ := id L1
    refine ⟨_, rfl, rfl, _, rfl, if_t rfl ?_⟩
    refine ⟨_, rfl, _, rfl, ln, dl1, _, rfl, hln1, rfl, ln, cl, ns, i + 1, b.length, rfl, L1, w1, w2, fun p H2 np b2 L2 hp => ?_⟩
    rw [w3] at hp
    have A2 := after_line hH hHd hlno (b1.trans b2) L2
    have hst := step_load (o := objOf rs) hb
    refine ⟨h, p, rs, b, rfl, A2.hold, SqL.of hp, bytes_of_form hb, ?_⟩
    cases er : Valaya.read (b.map toB) with
    | error f =>
      rw [er] at hst
      exact list_ans qY A2 hho hst
    | ok rs' =>
      rw [er] at hst
      intro good p3 H3 np3 b3 hold3 hp3
      obtain ⟨rl2, as2, ⟨dh2, hh2⟩, _⟩ := A2.hold
      have hne : rs' ≠ [] := fun z => by
        have := good.n1
        rw [z] at this
        exact absurd this (by decide)
      refine qY (loadedL rs') rs' p3 H3 ?_ (A2.new np3) ⟨fun x o hx' n1 n2 => b3 _ _ (A2.but _ _ hx' n1 n2) n1, hold3, .inr good, fun z => absurd z hne, L2.but hh2 b3⟩ hp3
      rw [hst, obj_ne hne, ← ans_load]
  | shown =>
    have hdr' : ns.drop i = 1 :: rest := by
      rw [hdr]
      simp [PyFlat.put1, PyFlat.putRows]
    obtain ⟨hx, hd1⟩ := drop_cons hdr'
    have elen : i + (PyFlat.put1 [[1]]).length = i + 1 := rfl
    rw [elen] at qY qN
    refine ⟨_, rfl, ln, dl, _, rfl, hln, rfl, ln, cl, ns, i, 1, rfl, hL, hx, fun H1 b1 L1 => ?_⟩
    refine ⟨_, rfl, rfl, _, rfl, if_f rfl ⟨_, rfl, rfl, _, rfl, if_t rfl ?_⟩⟩
    have A1 := after_line hH hHd hlno b1 L1
    refine ⟨_, rfl, h, rs, rfl, A1.hold, hHd, fun e => ref_ans qN A1 hho r1 (by rw [e]; rfl), fun ne => list_ans qY A1 hho ?_⟩
    rw [obj_ne ne]
    rfl
  | leaves r =>
    have hdr' : ns.drop i = 2 :: (r :: rest) := by
      rw [hdr]
      simp [PyFlat.put1, PyFlat.putRows]
    obtain ⟨hx, hd1⟩ := drop_cons hdr'
    obtain ⟨hy, hd2⟩ := drop_cons hd1
    have elen : i + (PyFlat.put1 [[2, r]]).length = i + 1 + 1 := rfl
    rw [elen] at qY qN
    refine ⟨_, rfl, ln, dl, _, rfl, hln, rfl, ln, cl, ns, i, 2, rfl, hL, hx, fun H1 b1 L1 => ?_⟩
    obtain ⟨⟨dl1, hln1⟩, _⟩ := id L1
    refine ⟨_, rfl, rfl, _, rfl, if_f rfl ⟨_, rfl, rfl, _, rfl, if_f rfl ?_⟩⟩
    refine ⟨_, rfl, ln, dl1, _, rfl, hln1, rfl, ln, cl, ns, i + 1, r, rfl, L1, hy, fun H2 b2 L2 => ?_⟩
    have A2 := after_line hH hHd hlno (b1.trans b2) L2
    refine ⟨_, rfl, rfl, _, rfl, if_t rfl ?_⟩
    refine ⟨_, rfl, _, rfl, h, r, rs, rfl, A2.hold, hHd, ans_outL qN A2 hho r1 r2 rfl (step_leaves rs r) fun x hx hs => list_ans qY A2 hho ?_⟩
    rw [hs]
    exact congrArg _ (ans_leaves x.t)
  | leaf r m =>
    have hdr' : ns.drop i = 3 :: (r :: (m :: rest)) := by
      rw [hdr]
      simp [PyFlat.put1, PyFlat.putRows]
    obtain ⟨hx, hd1⟩ := drop_cons hdr'
    obtain ⟨hy, hd2⟩ := drop_cons hd1
    obtain ⟨hz, hd3⟩ := drop_cons hd2
    have elen : i + (PyFlat.put1 [[3, r, m]]).length = i + 1 + 1 + 1 := rfl
    rw [elen] at qY qN
    refine ⟨_, rfl, ln, dl, _, rfl, hln, rfl, ln, cl, ns, i, 3, rfl, hL, hx, fun H1 b1 L1 => ?_⟩
    obtain ⟨⟨dl1, hln1⟩, _⟩ := id L1
    refine ⟨_, rfl, rfl, _, rfl, if_f rfl ⟨_, rfl, rfl, _, rfl, if_f rfl ?_⟩⟩
    refine ⟨_, rfl, ln, dl1, _, rfl, hln1, rfl, ln, cl, ns, i + 1, r, rfl, L1, hy, fun H2 b2 L2 => ?_⟩
    obtain ⟨⟨dl2, hln2⟩, _⟩ := id L2
    refine ⟨_, rfl, rfl, _, rfl, if_f rfl ⟨_, rfl, rfl, _, rfl, if_t rfl ?_⟩⟩
    refine ⟨_, rfl, _, rfl, _, rfl, ln, dl2, _, rfl, hln2, rfl, ln, cl, ns, i + 1 + 1, m, rfl, L2, hz, fun H3 b3 L3 => ?_⟩
    have A3 := after_line hH hHd hlno ((b1.trans b2).trans b3) L3
    refine ⟨h, r, m, rs, rfl, A3.hold, hHd, ans_outL qN A3 hho r1 r2 rfl (step_leaf rs r m) fun x hx hs => ?_⟩
    have ep : ((ValayBase.index m (Valaya.leavesOf x.t).length).bind fun k => (Valaya.leavesOf x.t)[k]?) = ((pick m (Valaya.leavesOf x.t).length).bind fun k => (Valaya.leavesOf x.t)[k]?) := rfl
    rw [ep] at hs
    cases e : (pick m (Valaya.leavesOf x.t).length).bind fun k => (Valaya.leavesOf x.t)[k]? with
    | none =>
      rw [e] at hs
      exact ref_ans qN A3 hho r3 hs
    | some f =>
      rw [e] at hs
      refine list_ans qY A3 hho ?_
      rw [hs]
      exact congrArg _ (ans_leaf f)
  | codes r v hvl =>
    have hdr' : ns.drop i = 4 :: (r :: ((v.length : Int) :: (v ++ rest))) := by
      rw [hdr]
      simp [PyFlat.put1, PyFlat.putRows, PyFlat.putRow]
    obtain ⟨hx, hd1⟩ := drop_cons hdr'
    obtain ⟨hy, hd2⟩ := drop_cons hd1
    obtain ⟨w1, w2, w3⟩ := drop_row hd2
    have elen : i + (PyFlat.put1 [[4, r], v]).length = i + 1 + 1 + 1 + v.length := by
      simp [PyFlat.put1, PyFlat.putRows, PyFlat.putRow]
      omega
    rw [elen] at qY qN
    refine ⟨_, rfl, ln, dl, _, rfl, hln, rfl, ln, cl, ns, i, 4, rfl, hL, hx, fun H1 b1 L1 => ?_⟩
    obtain ⟨⟨dl1, hln1⟩, _⟩ := id L1
    refine ⟨_, rfl, rfl, _, rfl, if_f rfl ⟨_, rfl, rfl, _, rfl, if_f rfl ?_⟩⟩
    refine ⟨_, rfl, ln, dl1, _, rfl, hln1, rfl, ln, cl, ns, i + 1, r, rfl, L1, hy, fun H2 b2 L2 => ?_⟩
    obtain ⟨⟨dl2, hln2⟩, _⟩ := id L2
    refine ⟨_, rfl, rfl, _, rfl, if_f rfl ⟨_, rfl, rfl, _, rfl, if_f rfl ⟨_, rfl, rfl, _, rfl, if_t rfl ?_⟩⟩⟩
    refine ⟨_, rfl, _, rfl, _, rfl, ln, dl2, _, rfl, hln2, rfl, ln, cl, ns, i + 1 + 1, v.length, rfl, L2, w1, w2, fun p H3 np b3 L3 hp => ?_⟩
    rw [w3] at hp
    have A3 := after_line hH hHd hlno ((b1.trans b2).trans b3) L3
    refine ⟨h, p, r, rs, v, rfl, A3.hold, hHd, SqL.of hp, ans_outL qN A3 hho r1 r2 rfl (step_codes rs r v) fun x hx hs => ?_⟩
    rw [codes_in (hHd.fine x hx).fine]
    cases e : Valaya.codesOf x.t v with
    | none =>
      rw [e] at hs
      exact ref_ans qN A3 hho r4 hs
    | some cs =>
      rw [e] at hs
      refine list_ans qY A3 hho ?_
      rw [hs]
      unfold Valaya.codeRow
      rw [List.length_map]
      rfl
  | value r v hvl =>
    have hdr' : ns.drop i = 5 :: (r :: ((v.length : Int) :: (v ++ rest))) := by
      rw [hdr]
      simp [PyFlat.put1, PyFlat.putRows, PyFlat.putRow]
    obtain ⟨hx, hd1⟩ := drop_cons hdr'
    obtain ⟨hy, hd2⟩ := drop_cons hd1
    obtain ⟨w1, w2, w3⟩ := drop_row hd2
    have elen : i + (PyFlat.put1 [[5, r], v]).length = i + 1 + 1 + 1 + v.length := by
      simp [PyFlat.put1, PyFlat.putRows, PyFlat.putRow]
      omega
    rw [elen] at qY qN
    refine ⟨_, rfl, ln, dl, _, rfl, hln, rfl, ln, cl, ns, i, 5, rfl, hL, hx, fun H1 b1 L1 => ?_⟩
    obtain ⟨⟨dl1, hln1⟩, _⟩ := id L1
    refine ⟨_, rfl, rfl, _, rfl, if_f rfl ⟨_, rfl, rfl, _, rfl, if_f rfl ?_⟩⟩
    refine ⟨_, rfl, ln, dl1, _, rfl, hln1, rfl, ln, cl, ns, i + 1, r, rfl, L1, hy, fun H2 b2 L2 => ?_⟩
    obtain ⟨⟨dl2, hln2⟩, _⟩ := id L2
    refine ⟨_, rfl, rfl, _, rfl, if_f rfl ⟨_, rfl, rfl, _, rfl, if_f rfl ⟨_, rfl, rfl, _, rfl, if_f rfl ⟨_, rfl, rfl, _, rfl, if_t rfl ?_⟩⟩⟩⟩
    refine ⟨_, rfl, _, rfl, _, rfl, ln, dl2, _, rfl, hln2, rfl, ln, cl, ns, i + 1 + 1, v.length, rfl, L2, w1, w2, fun p H3 np b3 L3 hp => ?_⟩
    rw [w3] at hp
    have A3 := after_line hH hHd hlno ((b1.trans b2).trans b3) L3
    refine ⟨h, p, r, rs, v, rfl, A3.hold, hHd, hp, ans_outL qN A3 hho r1 r2 rfl (step_value rs r v) fun x hx hs => ?_⟩
    have eb : backIn (Valaya.leavesOf x.t) v = (Valaya.readCodes v).bind (Valaya.backChecked x.t) := back_fold x.t (hHd.fine x hx).fine.wf v
    rw [eb]
    cases e : (Valaya.readCodes v).bind (Valaya.backChecked x.t) with
    | none =>
      rw [e] at hs
      exact ref_ans qN A3 hho r4 hs
    | some u =>
      rw [e] at hs
      exact list_ans qY A3 hho hs
  | count r =>
    have hdr' : ns.drop i = 6 :: (r :: rest) := by
      rw [hdr]
      simp [PyFlat.put1, PyFlat.putRows]
    obtain ⟨hx, hd1⟩ := drop_cons hdr'
    obtain ⟨hy, hd2⟩ := drop_cons hd1
    have elen : i + (PyFlat.put1 [[6, r]]).length = i + 1 + 1 := rfl
    rw [elen] at qY qN
    refine ⟨_, rfl, ln, dl, _, rfl, hln, rfl, ln, cl, ns, i, 6, rfl, hL, hx, fun H1 b1 L1 => ?_⟩
    obtain ⟨⟨dl1, hln1⟩, _⟩ := id L1
    refine ⟨_, rfl, rfl, _, rfl, if_f rfl ⟨_, rfl, rfl, _, rfl, if_f rfl ?_⟩⟩
    refine ⟨_, rfl, ln, dl1, _, rfl, hln1, rfl, ln, cl, ns, i + 1, r, rfl, L1, hy, fun H2 b2 L2 => ?_⟩
    have A2 := after_line hH hHd hlno (b1.trans b2) L2
    refine ⟨_, rfl, rfl, _, rfl, if_f rfl ⟨_, rfl, rfl, _, rfl, if_f rfl ⟨_, rfl, rfl, _, rfl, if_f rfl ⟨_, rfl, rfl, _, rfl, if_f rfl ⟨_, rfl, rfl, _, rfl, if_t rfl ?_⟩⟩⟩⟩⟩
    refine ⟨_, rfl, _, rfl, h, r, rs, rfl, A2.hold, hHd, ans_outL qN A2 hho r1 r2 rfl (step_count rs r) fun x hx hs => ⟨fun g => ?_, fun g => ?_⟩⟩
    · rw [if_pos g] at hs
      exact ref_ans qN A2 hho r6 hs
    · rw [if_neg g] at hs
      exact list_ans qY A2 hho hs
  | nth r m =>
    have hdr' : ns.drop i = 7 :: (r :: (m :: rest)) := by
      rw [hdr]
      simp [PyFlat.put1, PyFlat.putRows]
    obtain ⟨hx, hd1⟩ := drop_cons hdr'
    obtain ⟨hy, hd2⟩ := drop_cons hd1
    obtain ⟨hz, hd3⟩ := drop_cons hd2
    have elen : i + (PyFlat.put1 [[7, r, m]]).length = i + 1 + 1 + 1 := rfl
    rw [elen] at qY qN
    refine ⟨_, rfl, ln, dl, _, rfl, hln, rfl, ln, cl, ns, i, 7, rfl, hL, hx, fun H1 b1 L1 => ?_⟩
    obtain ⟨⟨dl1, hln1⟩, _⟩ := id L1
    refine ⟨_, rfl, rfl, _, rfl, if_f rfl ⟨_, rfl, rfl, _, rfl, if_f rfl ?_⟩⟩
    refine ⟨_, rfl, ln, dl1, _, rfl, hln1, rfl, ln, cl, ns, i + 1, r, rfl, L1, hy, fun H2 b2 L2 => ?_⟩
    obtain ⟨⟨dl2, hln2⟩, _⟩ := id L2
    refine ⟨_, rfl, rfl, _, rfl, if_f rfl ⟨_, rfl, rfl, _, rfl, if_f rfl ⟨_, rfl, rfl, _, rfl, if_f rfl ⟨_, rfl, rfl, _, rfl, if_f rfl ⟨_, rfl, rfl, _, rfl, if_f rfl ⟨_, rfl, rfl, _, rfl, if_t rfl ?_⟩⟩⟩⟩⟩⟩
    refine ⟨_, rfl, _, rfl, _, rfl, ln, dl2, _, rfl, hln2, rfl, ln, cl, ns, i + 1 + 1, m, rfl, L2, hz, fun H3 b3 L3 => ?_⟩
    have A3 := after_line hH hHd hlno ((b1.trans b2).trans b3) L3
    refine ⟨h, r, m, rs, rfl, A3.hold, hHd, ans_outL qN A3 hho r1 r2 rfl (step_nth rs r m) fun x hx hs => ⟨fun g => ?_, fun g => ?_⟩⟩
    · rw [if_pos g] at hs
      exact ref_ans qN A3 hho r6 hs
    · rw [if_neg g] at hs
      have ep : ValayBase.index m (Valaya.countOf x.t) = pick m (Valaya.countOf x.t) := rfl
      rw [ep] at hs
      cases e : pick m (Valaya.countOf x.t) with
      | none =>
        rw [e] at hs
        exact ref_ans qN A3 hho r3 hs
      | some k =>
        rw [e] at hs
        exact list_ans qY A3 hho hs
  | index r v hvl =>
    have hdr' : ns.drop i = 8 :: (r :: ((v.length : Int) :: (v ++ rest))) := by
      rw [hdr]
      simp [PyFlat.put1, PyFlat.putRows, PyFlat.putRow]
    obtain ⟨hx, hd1⟩ := drop_cons hdr'
    obtain ⟨hy, hd2⟩ := drop_cons hd1
    obtain ⟨w1, w2, w3⟩ := drop_row hd2
    have elen : i + (PyFlat.put1 [[8, r], v]).length = i + 1 + 1 + 1 + v.length := by
      simp [PyFlat.put1, PyFlat.putRows, PyFlat.putRow]
      omega
    rw [elen] at qY qN
    refine ⟨_, rfl, ln, dl, _, rfl, hln, rfl, ln, cl, ns, i, 8, rfl, hL, hx, fun H1 b1 L1 => ?_⟩
    obtain ⟨⟨dl1, hln1⟩, _⟩ := id L1
    refine ⟨_, rfl, rfl, _, rfl, if_f rfl ⟨_, rfl, rfl, _, rfl, if_f rfl ?_⟩⟩
    refine ⟨_, rfl, ln, dl1, _, rfl, hln1, rfl, ln, cl, ns, i + 1, r, rfl, L1, hy, fun H2 b2 L2 => ?_⟩
    obtain ⟨⟨dl2, hln2⟩, _⟩ := id L2
    refine ⟨_, rfl, rfl, _, rfl, if_f rfl ⟨_, rfl, rfl, _, rfl, if_f rfl ⟨_, rfl, rfl, _, rfl, if_f rfl ⟨_, rfl, rfl, _, rfl, if_f rfl ⟨_, rfl, rfl, _, rfl, if_f rfl ⟨_, rfl, rfl, _, rfl, if_f rfl ⟨_, rfl, rfl, _, rfl, if_t rfl ?_⟩⟩⟩⟩⟩⟩⟩
    refine ⟨_, rfl, _, rfl, _, rfl, ln, dl2, _, rfl, hln2, rfl, ln, cl, ns, i + 1 + 1, v.length, rfl, L2, w1, w2, fun p H3 np b3 L3 hp => ?_⟩
    rw [w3] at hp
    have A3 := after_line hH hHd hlno ((b1.trans b2).trans b3) L3
    refine ⟨h, p, r, rs, v, rfl, A3.hold, hHd, SqL.of hp, ans_outL qN A3 hho r1 r2 rfl (step_index rs r v) fun x hx hs => ⟨fun g => ?_, fun g => ?_⟩⟩
    · rw [if_pos g] at hs
      exact ref_ans qN A3 hho r6 hs
    · rw [if_neg g] at hs
      cases e : Valaya.codesOf x.t v with
      | none =>
        rw [e] at hs
        exact ref_ans qN A3 hho r4 hs
      | some cd =>
        rw [e] at hs
        exact list_ans qY A3 hho hs
end
end Lv
set_option Elab.async false
set_option linter.all false
set_option maxRecDepth 100000
set_option maxHeartbeats 4000000
/-! The facts of this text that the head shows, and Txt out of them. -/
namespace Lv
open PySem PySem.Spec PyProof.Rows L2
section
variable {K : PySem.W.Frag} {mg : Str → Option Value} {x m qual : Str} {st : Stmt} {ps : List Str} {C : Addr}
abbrev BindsWell (x qual : Str) (st : Stmt) (ps : List Str) : Prop := ∀ (kV doc pm : Value) (an : Option Addr) (cdv ct : Value) (us : List Value), us.length = ps.length → bindArgs (PySem.W.fnOf x qual (defArgs st) (defBody st) (defScope st) .none kV doc pm an cdv ct) ⟨us, []⟩ = pure (ps.zip us)
abbrev FunE (K : PySem.W.Frag) (x qual : Str) (st : Stmt) (f : Addr) : Prop := ∃ fd, FunD K x qual (defArgs st) (defBody st) (defScope st) [] [] f fd
theorem has_def {f : Addr} (g : mg x = some (.ref f)) (F : FunE K x x st f) (b : BindsWell x x st ps) : HasDef K mg x st ps := by
  obtain ⟨fd, F⟩ := F
  have F := He5.fun_of F
  exact ⟨f, fd, g, F, F.binds b⟩
theorem has_meth {f : Addr} (c : Cls K C) (M : Meth K C m f) (F : FunE K m qual st f) (b : BindsWell m qual st ps) : HasMeth K C m qual st ps := by
  obtain ⟨fd, F⟩ := F
  have F := He5.fun_of F
  exact ⟨f, fd, c, M, F, F.binds b⟩
theorem has_init {f : Addr} (g : mg x = some (.ref C)) (M : Mk K C f) (F : FunE K "__init__" qual st f) (b : BindsWell "__init__" qual st ps) : HasInit K mg x C qual st ps := by
  obtain ⟨fd, F⟩ := F
  have F := He5.fun_of F
  exact ⟨g, f, fd, M, F, F.binds b⟩
theorem has_err {f : Addr} (B : BaseIni K mg x C f ∧ PySem.W.findIn K (.ref C) "__init__" = some (some (.ref f)) ∧ PySem.W.typeIn K (.ref f) = some (.type "function")) (F : FunE K "__init__" qual st f) (b : BindsWell "__init__" qual st ps) : HasErr K mg x C qual st ps := by
  obtain ⟨fd, F⟩ := F
  have F := He5.fun_of F
  exact ⟨f, fd, B.1, B.2.1, B.2.2, F, F.binds b⟩
end
theorem ex_at {K : PySem.W.Frag} (h : ex K = true) (i : Nat) {f : PySem.W.Frag → Bool} (e : exl[i]? = some f := by rfl) : f K = true := List.all_eq_true.mp h f (List.mem_of_getElem? e)
theorem txt_of {K : PySem.W.Frag} {h : Heap} {mg : Str → Option Value} (KX : K.In h) (G : h.Ns mainGlobals mg) (hx : ex K = true) (c : He.SaysD hFa hFn K) : Txt K mg := by
  constructor
  · exact He.int_ok KX G (c.fact 0)
  · exact He.int_ok KX G (c.fact 1)
  · exact He.int_ok KX G (c.fact 2)
  · exact He.int_ok KX G (c.fact 3)
  · exact He.int_ok KX G (c.fact 4)
  · exact He.int_ok KX G (c.fact 5)
  · exact He.int_ok KX G (c.fact 6)
  · exact He.int_ok KX G (c.fact 7)
  · exact He.int_ok KX G (c.fact 8)
  · exact He.int_ok KX G (c.fact 9)
  · exact He.int_ok KX G (c.fact 10)
  · exact He.int_ok KX G (c.fact 11)
  · exact (He.glo_ok KX G (c.fact 12))
  · exact tupB_ok (ex_at hx 0)
  · exact (He.glo_ok KX G (c.fact 13))
  · exact dictB_ok (ex_at hx 1)
  · exact (He.glo_ok KX G (c.fact 14))
  · exact tupB_ok (ex_at hx 2)
  · exact He.int_ok KX G (c.fact 15)
  · exact He.int_ok KX G (c.fact 16)
  · exact He.str_ok KX G (c.fact 17)
  · exact He.str_ok KX G (c.fact 18)
  · exact He.str_ok KX G (c.fact 19)
  · exact He.int_ok KX G (c.fact 20)
  · exact He.int_ok KX G (c.fact 21)
  · exact He.int_ok KX G (c.fact 22)
  · exact He.int_ok KX G (c.fact 23)
  · exact He.int_ok KX G (c.fact 24)
  · exact He.int_ok KX G (c.fact 25)
  · exact He.int_ok KX G (c.fact 26)
  · exact He.int_ok KX G (c.fact 27)
  · exact He.int_ok KX G (c.fact 28)
  · exact He.int_ok KX G (c.fact 29)
  · exact He.int_ok KX G (c.fact 30)
  · exact He.int_ok KX G (c.fact 31)
  · exact He.int_ok KX G (c.fact 32)
  · exact (He.glo_ok KX G (c.fact 33))
  · exact tupB_ok (ex_at hx 3)
  · exact He.int_ok KX G (c.fact 34)
  · exact He.int_ok KX G (c.fact 35)
  · exact He.int_ok KX G (c.fact 36)
  · exact He.int_ok KX G (c.fact 37)
  · exact He.int_ok KX G (c.fact 38)
  · exact He.int_ok KX G (c.fact 39)
  · exact He.int_ok KX G (c.fact 40)
  · exact He.int_ok KX G (c.fact 41)
  · exact He.int_ok KX G (c.fact 42)
  · exact He.int_ok KX G (c.fact 43)
  · exact He.free_ok KX G (c.fact 44)
  · exact He.free_ok KX G (c.fact 45)
  · exact He.free_ok KX G (c.fact 46)
  · exact He.free_ok KX G (c.fact 47)
  · exact He.free_ok KX G (c.fact 48)
  · exact He.free_ok KX G (c.fact 49)
  · exact He.free_ok KX G (c.fact 50)
  · exact He.free_ok KX G (c.fact 51)
  · exact He.free_ok KX G (c.fact 52)
  · exact He.free_ok KX G (c.fact 53)
  · exact He.free_ok KX G (c.fact 54)
  · exact errB_ok (ex_at hx 4)
  · exact He.noat_ok (c.fact 55)
  · exact He.noat_ok (c.fact 56)
  · exact errB_ok (ex_at hx 5)
  · exact He.noat_ok (c.fact 57)
  · exact errB_ok (ex_at hx 6)
  · exact He.noat_ok (c.fact 58)
  · exact errB_ok (ex_at hx 7)
  · exact He.noat_ok (c.fact 59)
  · exact errB_ok (ex_at hx 8)
  · exact He.noat_ok (c.fact 60)
  · exact errB_ok (ex_at hx 9)
  · exact He.noat_ok (c.fact 61)
  · exact errB_ok (ex_at hx 10)
  · exact He.noat_ok (c.fact 62)
  · exact errB_ok (ex_at hx 11)
  · exact He.noat_ok (c.fact 63)
  · exact He.cls_ok (c.fact 64)
  · exact He.noat_ok (c.fact 65)
  · exact He.noat_ok (c.fact 66)
  · exact He.noat_ok (c.fact 67)
  · exact He.noat_ok (c.fact 68)
  · exact He.noat_ok (c.fact 69)
  · exact He.noat_ok (c.fact 70)
  · exact He.noat_ok (c.fact 71)
  · exact He.cls_ok (c.fact 72)
  · exact He.noat_ok (c.fact 73)
  · exact He.noat_ok (c.fact 74)
  · exact He.noat_ok (c.fact 75)
  · exact He.cls_ok (c.fact 76)
  · exact He.noat_ok (c.fact 77)
  · exact He.cls_ok (c.fact 78)
  · exact He.noat_ok (c.fact 79)
  · exact He.noat_ok (c.fact 80)
  · exact He.cls_ok (c.fact 81)
  · exact He.noat_ok (c.fact 82)
  · exact He.noat_ok (c.fact 83)
  · exact He.cls_ok (c.fact 84)
  · exact He.noat_ok (c.fact 85)
  · exact He.cls_ok (c.fact 86)
  · exact He.noat_ok (c.fact 87)
  · exact He.cls_ok (c.fact 88)
  · exact He.noat_ok (c.fact 89)
  · exact He.noat_ok (c.fact 90)
  · exact He.noat_ok (c.fact 91)
  · exact He.cls_ok (c.fact 92)
  · exact He.noat_ok (c.fact 93)
  · exact He.noat_ok (c.fact 94)
  · exact He.noat_ok (c.fact 95)
  · exact He.noat_ok (c.fact 96)
  · exact He.noat_ok (c.fact 97)
  · exact He.cls_ok (c.fact 98)
  · exact He.noat_ok (c.fact 99)
  · exact He.noat_ok (c.fact 100)
  · exact He.noat_ok (c.fact 101)
  · exact He.cls_ok (c.fact 102)
  · exact He.noat_ok (c.fact 103)
  · exact He.noat_ok (c.fact 104)
  · exact He.noat_ok (c.fact 105)
  · exact He.cls_ok (c.fact 106)
  · exact He.noat_ok (c.fact 107)
  · exact He.noat_ok (c.fact 108)
  · exact He.cls_ok (c.fact 109)
  · exact He.noat_ok (c.fact 110)
  · exact has_err (biniB_ok (He.glo_ok KX G (c.fact 111)) (ex_at hx 12)) (c.def_ 0) (fun _ _ _ _ _ _ us hl => match us, hl with | [_, _, _], _ => rfl)
  · exact has_err (biniB_ok (He.glo_ok KX G (c.fact 112)) (ex_at hx 13)) (c.def_ 1) (fun _ _ _ _ _ _ us hl => match us, hl with | [_, _], _ => rfl)
  · exact has_err (biniB_ok (He.glo_ok KX G (c.fact 113)) (ex_at hx 14)) (c.def_ 2) (fun _ _ _ _ _ _ us hl => match us, hl with | [_], _ => rfl)
  · exact has_err (biniB_ok (He.glo_ok KX G (c.fact 114)) (ex_at hx 15)) (c.def_ 3) (fun _ _ _ _ _ _ us hl => match us, hl with | [_], _ => rfl)
  · exact has_err (biniB_ok (He.glo_ok KX G (c.fact 115)) (ex_at hx 16)) (c.def_ 4) (fun _ _ _ _ _ _ us hl => match us, hl with | [_], _ => rfl)
  · exact has_err (biniB_ok (He.glo_ok KX G (c.fact 116)) (ex_at hx 17)) (c.def_ 5) (fun _ _ _ _ _ _ us hl => match us, hl with | [_], _ => rfl)
  · exact has_err (biniB_ok (He.glo_ok KX G (c.fact 117)) (ex_at hx 18)) (c.def_ 6) (fun _ _ _ _ _ _ us hl => match us, hl with | [_], _ => rfl)
  · exact has_err (biniB_ok (He.glo_ok KX G (c.fact 118)) (ex_at hx 19)) (c.def_ 7) (fun _ _ _ _ _ _ us hl => match us, hl with | [_, _], _ => rfl)
  · exact has_def (He.glo_ok KX G (c.fact 119)) (c.def_ 8) (fun _ _ _ _ _ _ us hl => match us, hl with | [_, _], _ => rfl)
  · exact has_def (He.glo_ok KX G (c.fact 120)) (c.def_ 9) (fun _ _ _ _ _ _ us hl => match us, hl with | [_, _], _ => rfl)
  · exact has_def (He.glo_ok KX G (c.fact 121)) (c.def_ 10) (fun _ _ _ _ _ _ us hl => match us, hl with | [_, _], _ => rfl)
  · exact has_def (He.glo_ok KX G (c.fact 122)) (c.def_ 11) (fun _ _ _ _ _ _ us hl => match us, hl with | [_], _ => rfl)
  · exact has_def (He.glo_ok KX G (c.fact 123)) (c.def_ 12) (fun _ _ _ _ _ _ us hl => match us, hl with | [_], _ => rfl)
  · exact has_def (He.glo_ok KX G (c.fact 124)) (c.def_ 13) (fun _ _ _ _ _ _ us hl => match us, hl with | [_, _, _], _ => rfl)
  · exact has_def (He.glo_ok KX G (c.fact 125)) (c.def_ 14) (fun _ _ _ _ _ _ us hl => match us, hl with | [_, _, _], _ => rfl)
  · exact has_init (He.glo_ok KX G (c.fact 126)) (He.mkr_ok (c.fact 127)) (c.def_ 15) (fun _ _ _ _ _ _ us hl => match us, hl with | [_, _, _, _, _, _, _, _], _ => rfl)
  · exact has_meth (He.cls_ok (c.fact 64)) (He.meth_ok (c.fact 128)) (c.def_ 16) (fun _ _ _ _ _ _ us hl => match us, hl with | [_], _ => rfl)
  · exact has_meth (He.cls_ok (c.fact 64)) (He.meth_ok (c.fact 129)) (c.def_ 17) (fun _ _ _ _ _ _ us hl => match us, hl with | [_], _ => rfl)
  · exact has_meth (He.cls_ok (c.fact 64)) (He.meth_ok (c.fact 130)) (c.def_ 18) (fun _ _ _ _ _ _ us hl => match us, hl with | [_, _, _, _, _], _ => rfl)
  · exact has_init (He.glo_ok KX G (c.fact 131)) (He.mkr_ok (c.fact 132)) (c.def_ 19) (fun _ _ _ _ _ _ us hl => match us, hl with | [_, _, _, _], _ => rfl)
  · exact has_meth (He.cls_ok (c.fact 72)) (He.meth_ok (c.fact 133)) (c.def_ 20) (fun _ _ _ _ _ _ us hl => match us, hl with | [_], _ => rfl)
  · exact has_meth (He.cls_ok (c.fact 72)) (He.meth_ok (c.fact 134)) (c.def_ 21) (fun _ _ _ _ _ _ us hl => match us, hl with | [_], _ => rfl)
  · exact has_meth (He.cls_ok (c.fact 72)) (He.meth_ok (c.fact 135)) (c.def_ 22) (fun _ _ _ _ _ _ us hl => match us, hl with | [_, _, _, _, _], _ => rfl)
  · exact has_meth (He.cls_ok (c.fact 72)) (He.meth_ok (c.fact 136)) (c.def_ 23) (fun _ _ _ _ _ _ us hl => match us, hl with | [_], _ => rfl)
  · exact has_meth (He.cls_ok (c.fact 72)) (He.meth_ok (c.fact 137)) (c.def_ 24) (fun _ _ _ _ _ _ us hl => match us, hl with | [_, _, _], _ => rfl)
  · exact has_meth (He.cls_ok (c.fact 72)) (He.meth_ok (c.fact 138)) (c.def_ 25) (fun _ _ _ _ _ _ us hl => match us, hl with | [_, _, _], _ => rfl)
  · exact has_init (He.glo_ok KX G (c.fact 139)) (He.mkr_ok (c.fact 140)) (c.def_ 26) (fun _ _ _ _ _ _ us hl => match us, hl with | [_, _], _ => rfl)
  · exact has_meth (He.cls_ok (c.fact 76)) (He.meth_ok (c.fact 141)) (c.def_ 27) (fun _ _ _ _ _ _ us hl => match us, hl with | [_], _ => rfl)
  · exact has_meth (He.cls_ok (c.fact 76)) (He.meth_ok (c.fact 142)) (c.def_ 28) (fun _ _ _ _ _ _ us hl => match us, hl with | [_], _ => rfl)
  · exact has_meth (He.cls_ok (c.fact 76)) (He.meth_ok (c.fact 143)) (c.def_ 29) (fun _ _ _ _ _ _ us hl => match us, hl with | [_, _, _, _, _], _ => rfl)
  · exact has_meth (He.cls_ok (c.fact 76)) (He.meth_ok (c.fact 144)) (c.def_ 30) (fun _ _ _ _ _ _ us hl => match us, hl with | [_], _ => rfl)
  · exact has_meth (He.cls_ok (c.fact 76)) (He.meth_ok (c.fact 145)) (c.def_ 31) (fun _ _ _ _ _ _ us hl => match us, hl with | [_, _, _], _ => rfl)
  · exact has_meth (He.cls_ok (c.fact 76)) (He.meth_ok (c.fact 146)) (c.def_ 32) (fun _ _ _ _ _ _ us hl => match us, hl with | [_, _, _], _ => rfl)
  · exact has_init (He.glo_ok KX G (c.fact 147)) (He.mkr_ok (c.fact 148)) (c.def_ 33) (fun _ _ _ _ _ _ us hl => match us, hl with | [_, _, _], _ => rfl)
  · exact has_meth (He.cls_ok (c.fact 78)) (He.meth_ok (c.fact 149)) (c.def_ 34) (fun _ _ _ _ _ _ us hl => match us, hl with | [_], _ => rfl)
  · exact has_meth (He.cls_ok (c.fact 78)) (He.meth_ok (c.fact 150)) (c.def_ 35) (fun _ _ _ _ _ _ us hl => match us, hl with | [_], _ => rfl)
  · exact has_meth (He.cls_ok (c.fact 78)) (He.meth_ok (c.fact 151)) (c.def_ 36) (fun _ _ _ _ _ _ us hl => match us, hl with | [_, _, _, _, _], _ => rfl)
  · exact has_meth (He.cls_ok (c.fact 78)) (He.meth_ok (c.fact 152)) (c.def_ 37) (fun _ _ _ _ _ _ us hl => match us, hl with | [_], _ => rfl)
  · exact has_meth (He.cls_ok (c.fact 78)) (He.meth_ok (c.fact 153)) (c.def_ 38) (fun _ _ _ _ _ _ us hl => match us, hl with | [_], _ => rfl)
  · exact has_meth (He.cls_ok (c.fact 78)) (He.meth_ok (c.fact 154)) (c.def_ 39) (fun _ _ _ _ _ _ us hl => match us, hl with | [_, _, _], _ => rfl)
  · exact has_meth (He.cls_ok (c.fact 78)) (He.meth_ok (c.fact 155)) (c.def_ 40) (fun _ _ _ _ _ _ us hl => match us, hl with | [_, _, _], _ => rfl)
  · exact has_init (He.glo_ok KX G (c.fact 156)) (He.mkr_ok (c.fact 157)) (c.def_ 41) (fun _ _ _ _ _ _ us hl => match us, hl with | [_, _, _], _ => rfl)
  · exact has_init (He.glo_ok KX G (c.fact 158)) (He.mkr_ok (c.fact 159)) (c.def_ 42) (fun _ _ _ _ _ _ us hl => match us, hl with | [_, _], _ => rfl)
  · exact has_meth (He.cls_ok (c.fact 84)) (He.meth_ok (c.fact 160)) (c.def_ 43) (fun _ _ _ _ _ _ us hl => match us, hl with | [_], _ => rfl)
  · exact has_meth (He.cls_ok (c.fact 84)) (He.meth_ok (c.fact 161)) (c.def_ 44) (fun _ _ _ _ _ _ us hl => match us, hl with | [_], _ => rfl)
  · exact has_meth (He.cls_ok (c.fact 84)) (He.meth_ok (c.fact 162)) (c.def_ 45) (fun _ _ _ _ _ _ us hl => match us, hl with | [_, _, _, _, _], _ => rfl)
  · exact has_meth (He.cls_ok (c.fact 84)) (He.meth_ok (c.fact 163)) (c.def_ 46) (fun _ _ _ _ _ _ us hl => match us, hl with | [_], _ => rfl)
  · exact has_meth (He.cls_ok (c.fact 84)) (He.meth_ok (c.fact 164)) (c.def_ 47) (fun _ _ _ _ _ _ us hl => match us, hl with | [_, _, _], _ => rfl)
  · exact has_meth (He.cls_ok (c.fact 84)) (He.meth_ok (c.fact 165)) (c.def_ 48) (fun _ _ _ _ _ _ us hl => match us, hl with | [_, _, _], _ => rfl)
  · exact has_init (He.glo_ok KX G (c.fact 166)) (He.mkr_ok (c.fact 167)) (c.def_ 49) (fun _ _ _ _ _ _ us hl => match us, hl with | [_, _], _ => rfl)
  · exact has_meth (He.cls_ok (c.fact 86)) (He.meth_ok (c.fact 168)) (c.def_ 50) (fun _ _ _ _ _ _ us hl => match us, hl with | [_], _ => rfl)
  · exact has_meth (He.cls_ok (c.fact 86)) (He.meth_ok (c.fact 169)) (c.def_ 51) (fun _ _ _ _ _ _ us hl => match us, hl with | [_], _ => rfl)
  · exact has_meth (He.cls_ok (c.fact 86)) (He.meth_ok (c.fact 170)) (c.def_ 52) (fun _ _ _ _ _ _ us hl => match us, hl with | [_, _, _, _, _], _ => rfl)
  · exact has_meth (He.cls_ok (c.fact 86)) (He.meth_ok (c.fact 171)) (c.def_ 53) (fun _ _ _ _ _ _ us hl => match us, hl with | [_], _ => rfl)
  · exact has_meth (He.cls_ok (c.fact 86)) (He.meth_ok (c.fact 172)) (c.def_ 54) (fun _ _ _ _ _ _ us hl => match us, hl with | [_, _, _], _ => rfl)
  · exact has_meth (He.cls_ok (c.fact 86)) (He.meth_ok (c.fact 173)) (c.def_ 55) (fun _ _ _ _ _ _ us hl => match us, hl with | [_, _, _], _ => rfl)
  · exact has_init (He.glo_ok KX G (c.fact 174)) (He.mkr_ok (c.fact 175)) (c.def_ 56) (fun _ _ _ _ _ _ us hl => match us, hl with | [_, _, _, _], _ => rfl)
  · exact has_meth (He.cls_ok (c.fact 88)) (He.meth_ok (c.fact 176)) (c.def_ 57) (fun _ _ _ _ _ _ us hl => match us, hl with | [_], _ => rfl)
  · exact has_init (He.glo_ok KX G (c.fact 177)) (He.mkr_ok (c.fact 178)) (c.def_ 58) (fun _ _ _ _ _ _ us hl => match us, hl with | [_, _, _], _ => rfl)
  · exact has_meth (He.cls_ok (c.fact 92)) (He.meth_ok (c.fact 179)) (c.def_ 59) (fun _ _ _ _ _ _ us hl => match us, hl with | [_], _ => rfl)
  · exact has_meth (He.cls_ok (c.fact 92)) (He.meth_ok (c.fact 180)) (c.def_ 60) (fun _ _ _ _ _ _ us hl => match us, hl with | [_, _], _ => rfl)
  · exact has_meth (He.cls_ok (c.fact 92)) (He.meth_ok (c.fact 181)) (c.def_ 61) (fun _ _ _ _ _ _ us hl => match us, hl with | [_, _], _ => rfl)
  · exact has_def (He.glo_ok KX G (c.fact 182)) (c.def_ 62) (fun _ _ _ _ _ _ us hl => match us, hl with | [_], _ => rfl)
  · exact has_def (He.glo_ok KX G (c.fact 183)) (c.def_ 63) (fun _ _ _ _ _ _ us hl => match us, hl with | [_], _ => rfl)
  · exact has_def (He.glo_ok KX G (c.fact 184)) (c.def_ 64) (fun _ _ _ _ _ _ us hl => match us, hl with | [_], _ => rfl)
  · exact has_init (He.glo_ok KX G (c.fact 185)) (He.mkr_ok (c.fact 186)) (c.def_ 65) (fun _ _ _ _ _ _ us hl => match us, hl with | [_, _, _, _], _ => rfl)
  · exact has_def (He.glo_ok KX G (c.fact 187)) (c.def_ 66) (fun _ _ _ _ _ _ us hl => match us, hl with | [_], _ => rfl)
  · exact has_def (He.glo_ok KX G (c.fact 188)) (c.def_ 67) (fun _ _ _ _ _ _ us hl => match us, hl with | [_], _ => rfl)
  · exact has_def (He.glo_ok KX G (c.fact 189)) (c.def_ 68) (fun _ _ _ _ _ _ us hl => match us, hl with | [_], _ => rfl)
  · exact has_def (He.glo_ok KX G (c.fact 190)) (c.def_ 69) (fun _ _ _ _ _ _ us hl => match us, hl with | [_, _], _ => rfl)
  · exact has_def (He.glo_ok KX G (c.fact 191)) (c.def_ 70) (fun _ _ _ _ _ _ us hl => match us, hl with | [_, _], _ => rfl)
  · exact has_def (He.glo_ok KX G (c.fact 192)) (c.def_ 71) (fun _ _ _ _ _ _ us hl => match us, hl with | [_, _], _ => rfl)
  · exact has_def (He.glo_ok KX G (c.fact 193)) (c.def_ 72) (fun _ _ _ _ _ _ us hl => match us, hl with | [_, _], _ => rfl)
  · exact has_def (He.glo_ok KX G (c.fact 194)) (c.def_ 73) (fun _ _ _ _ _ _ us hl => match us, hl with | [_, _], _ => rfl)
  · exact has_def (He.glo_ok KX G (c.fact 195)) (c.def_ 74) (fun _ _ _ _ _ _ us hl => match us, hl with | [_, _], _ => rfl)
  · exact has_def (He.glo_ok KX G (c.fact 196)) (c.def_ 75) (fun _ _ _ _ _ _ us hl => match us, hl with | [_, _], _ => rfl)
  · exact has_def (He.glo_ok KX G (c.fact 197)) (c.def_ 76) (fun _ _ _ _ _ _ us hl => match us, hl with | [_, _], _ => rfl)
  · exact has_def (He.glo_ok KX G (c.fact 198)) (c.def_ 77) (fun _ _ _ _ _ _ us hl => match us, hl with | [_], _ => rfl)
  · exact has_init (He.glo_ok KX G (c.fact 199)) (He.mkr_ok (c.fact 200)) (c.def_ 78) (fun _ _ _ _ _ _ us hl => match us, hl with | [_, _], _ => rfl)
  · exact has_meth (He.cls_ok (c.fact 102)) (He.meth_ok (c.fact 201)) (c.def_ 79) (fun _ _ _ _ _ _ us hl => match us, hl with | [_], _ => rfl)
  · exact has_meth (He.cls_ok (c.fact 102)) (He.meth_ok (c.fact 202)) (c.def_ 80) (fun _ _ _ _ _ _ us hl => match us, hl with | [_, _], _ => rfl)
  · exact has_meth (He.cls_ok (c.fact 102)) (He.meth_ok (c.fact 203)) (c.def_ 81) (fun _ _ _ _ _ _ us hl => match us, hl with | [_, _], _ => rfl)
  · exact has_meth (He.cls_ok (c.fact 102)) (He.meth_ok (c.fact 204)) (c.def_ 82) (fun _ _ _ _ _ _ us hl => match us, hl with | [_, _], _ => rfl)
  · exact has_meth (He.cls_ok (c.fact 102)) (He.meth_ok (c.fact 205)) (c.def_ 83) (fun _ _ _ _ _ _ us hl => match us, hl with | [_, _, _], _ => rfl)
  · exact has_def (He.glo_ok KX G (c.fact 206)) (c.def_ 84) (fun _ _ _ _ _ _ us hl => match us, hl with | [_, _], _ => rfl)
  · exact has_def (He.glo_ok KX G (c.fact 207)) (c.def_ 85) (fun _ _ _ _ _ _ us hl => match us, hl with | [_], _ => rfl)
  · exact has_def (He.glo_ok KX G (c.fact 208)) (c.def_ 86) (fun _ _ _ _ _ _ us hl => match us, hl with | [_], _ => rfl)
  · exact has_def (He.glo_ok KX G (c.fact 209)) (c.def_ 87) (fun _ _ _ _ _ _ us hl => match us, hl with | [_, _], _ => rfl)
  · exact has_def (He.glo_ok KX G (c.fact 210)) (c.def_ 88) (fun _ _ _ _ _ _ us hl => match us, hl with | [_], _ => rfl)
  · exact has_def (He.glo_ok KX G (c.fact 211)) (c.def_ 89) (fun _ _ _ _ _ _ us hl => match us, hl with | [_, _], _ => rfl)
  · exact has_def (He.glo_ok KX G (c.fact 212)) (c.def_ 90) (fun _ _ _ _ _ _ us hl => match us, hl with | [_, _], _ => rfl)
  · exact has_def (He.glo_ok KX G (c.fact 213)) (c.def_ 91) (fun _ _ _ _ _ _ us hl => match us, hl with | [_], _ => rfl)
  · exact has_def (He.glo_ok KX G (c.fact 214)) (c.def_ 92) (fun _ _ _ _ _ _ us hl => match us, hl with | [_], _ => rfl)
  · exact has_def (He.glo_ok KX G (c.fact 215)) (c.def_ 93) (fun _ _ _ _ _ _ us hl => match us, hl with | [_], _ => rfl)
  · exact has_init (He.glo_ok KX G (c.fact 216)) (He.mkr_ok (c.fact 217)) (c.def_ 94) (fun _ _ _ _ _ _ us hl => match us, hl with | [_, _], _ => rfl)
  · exact has_meth (He.cls_ok (c.fact 106)) (He.meth_ok (c.fact 218)) (c.def_ 95) (fun _ _ _ _ _ _ us hl => match us, hl with | [_], _ => rfl)
  · exact has_meth (He.cls_ok (c.fact 106)) (He.meth_ok (c.fact 219)) (c.def_ 96) (fun _ _ _ _ _ _ us hl => match us, hl with | [_], _ => rfl)
  · exact has_meth (He.cls_ok (c.fact 106)) (He.meth_ok (c.fact 220)) (c.def_ 97) (fun _ _ _ _ _ _ us hl => match us, hl with | [_], _ => rfl)
  · exact has_init (He.glo_ok KX G (c.fact 221)) (He.mkr_ok (c.fact 222)) (c.def_ 98) (fun _ _ _ _ _ _ us hl => match us, hl with | [_], _ => rfl)
  · exact has_meth (He.cls_ok (c.fact 109)) (He.meth_ok (c.fact 223)) (c.def_ 99) (fun _ _ _ _ _ _ us hl => match us, hl with | [_, _], _ => rfl)
  · exact has_meth (He.cls_ok (c.fact 109)) (He.meth_ok (c.fact 224)) (c.def_ 100) (fun _ _ _ _ _ _ us hl => match us, hl with | [_], _ => rfl)
  · exact has_meth (He.cls_ok (c.fact 109)) (He.meth_ok (c.fact 225)) (c.def_ 101) (fun _ _ _ _ _ _ us hl => match us, hl with | [_, _], _ => rfl)
  · exact has_meth (He.cls_ok (c.fact 109)) (He.meth_ok (c.fact 226)) (c.def_ 102) (fun _ _ _ _ _ _ us hl => match us, hl with | [_, _], _ => rfl)
  · exact has_meth (He.cls_ok (c.fact 109)) (He.meth_ok (c.fact 227)) (c.def_ 103) (fun _ _ _ _ _ _ us hl => match us, hl with | [_, _], _ => rfl)
  · exact has_def (He.glo_ok KX G (c.fact 228)) (c.def_ 104) (fun _ _ _ _ _ _ us hl => match us, hl with | [_], _ => rfl)
  · exact has_def (He.glo_ok KX G (c.fact 229)) (c.def_ 105) (fun _ _ _ _ _ _ us hl => match us, hl with | [_, _], _ => rfl)
  · exact has_def (He.glo_ok KX G (c.fact 230)) (c.def_ 106) (fun _ _ _ _ _ _ us hl => match us, hl with | [_], _ => rfl)
  · exact has_def (He.glo_ok KX G (c.fact 231)) (c.def_ 107) (fun _ _ _ _ _ _ us hl => match us, hl with | [_, _], _ => rfl)
  · exact has_def (He.glo_ok KX G (c.fact 232)) (c.def_ 108) (fun _ _ _ _ _ _ us hl => match us, hl with | [_, _, _], _ => rfl)
  · exact has_def (He.glo_ok KX G (c.fact 233)) (c.def_ 109) (fun _ _ _ _ _ _ us hl => match us, hl with | [_, _, _], _ => rfl)
  · exact has_def (He.glo_ok KX G (c.fact 234)) (c.def_ 110) (fun _ _ _ _ _ _ us hl => match us, hl with | [_, _, _], _ => rfl)
  · exact has_def (He.glo_ok KX G (c.fact 235)) (c.def_ 111) (fun _ _ _ _ _ _ us hl => match us, hl with | [_, _], _ => rfl)
  · exact has_def (He.glo_ok KX G (c.fact 236)) (c.def_ 112) (fun _ _ _ _ _ _ us hl => match us, hl with | [_, _, _], _ => rfl)
  · exact has_def (He.glo_ok KX G (c.fact 237)) (c.def_ 113) (fun _ _ _ _ _ _ us hl => match us, hl with | [_, _, _], _ => rfl)
  · exact has_def (He.glo_ok KX G (c.fact 238)) (c.def_ 114) (fun _ _ _ _ _ _ us hl => match us, hl with | [_, _], _ => rfl)
  · exact has_def (He.glo_ok KX G (c.fact 239)) (c.def_ 115) (fun _ _ _ _ _ _ us hl => match us, hl with | [_], _ => rfl)
theorem exm_of {K : PySem.W.Frag} (c : He.SaysD hFa hFn K) : Exm K := ⟨He.exm_ok (c.fact 240), He.exm_ok (c.fact 241), He.exm_ok (c.fact 242), He.exm_ok (c.fact 243), He.exm_ok (c.fact 244), He.exm_ok (c.fact 245)⟩
end Lv
set_option Elab.async false
set_option linter.all false
set_option maxRecDepth 100000
set_option maxHeartbeats 4000000
/-! The end: from the promise of the asked def to the statement. -/
namespace Lv
open PySem PySem.Spec PyProof.Rows L2
/-- the walk, where the written part is told by the heap -/
theorem walk_e {sp0 : PySem.W.OpenSpec} {k : Nat} {view : Program} {away : List Str} {XP : (Str → Option Value) → Heap → Prop} {says : World → Heap → Prop} {d : DefRec} {ps : List Str}
    (well : sp0.wellSaid = true) (len : sp0.args.length = ps.length) (room : Room k callerA)
    (F : ∀ (w : World) (mg : Str → Option Value) (f : Addr) (h : Heap), says w h → h.Ns mainGlobals mg → mg d.name = some (.ref f) → ∃ (K : PySem.W.Frag) (fd : FuncData) (sp : Sp), K.In h ∧
      (∀ (s : Shared) (us : List Value), us.length = ps.length → BindsTo s fd ⟨us, []⟩ (ps.zip us)) ∧
      (∀ base : Heap, FnOk sp0.prog w K mg base CX0 k f fd ps sp) ∧
      ∀ (H : Hp) (xs : List V) (a : PySem.W.Codec.denoteAll sp0.args), PySem.W.Codec.withinAll sp0.args a = true → PySem.W.Codec.app sp0.args sp0.asked a = true → DwAll K H xs (PySem.W.Codec.encAll sp0.args a) →
        sp xs H (fun v H' => Dw K H' v (sp0.ret.enc (PySem.W.Codec.app sp0.args sp0.f a))) fun _ _ _ => False) :
    PySem.W.WalkOS view away XP says sp0 d [] (fun f vs => PySem.call f vs) := by
  intro w s0 s1 mg mb gl Y f o pm cd doc dv kv ho hd hcd hD hmg gens args vals as pre lay rd wl lo
  obtain ⟨a, dec, ask⟩ := PySem.W.os_pre_some pre
  obtain ⟨enc, wi⟩ := PySem.W.Codec.encAll_of_decAll sp0.args args a dec
  subst enc
  obtain ⟨K, fd, sp, kin, bind, ok, promise⟩ := F w mg f _ Y gl.T.g hmg
  have run := spec_call (P := sp0.prog) (w := w) (CX := CX0) (R := []) (cl := classAt s0.heap) (d0 := sp0.ret.enc (PySem.W.Codec.app sp0.args sp0.f a)) kin gl.T.g gl.T.b gl.T.builtins gl.T.nolimit gens wl (pl_encAll _ _) (layable_weight lay) room
    (fun base _ _ => ok base) bind (by rw [encAll_len]; exact len) (fun H xs _ hs => promise H xs a wi ask hs) (fun H e s' z => z)
  refine PySem.W.enter_call (codeAny_mono run fun r' s' got => ?_)
  obtain ⟨u, as', rfl, g1, g2, g3, g4⟩ := got
  exact ⟨.inl ⟨u, _, as', rfl, fun _ => rfl, g1, (PySem.W.OpenSpec.post_iff well wi _ _).mpr rfl, fun z => Bool.noConfusion (show false = true from z)⟩, g2, g3, g4⟩
end Lv
set_option Elab.async false
set_option linter.all false
set_option maxRecDepth 100000
set_option maxHeartbeats 4000000
namespace Lv
open PySem PySem.Spec PyProof.Rows L2
/-- the promise of answers, as the statement asks it -/
theorem promise_of {K : PySem.W.Frag} {H : Hp} {xs : List V} {l : List Int} (ask : PyValaya.answers_asked l = true) (hs : DwAll K H xs [.list (l.map PySem.W.WData.int)]) : spAnswers K xs H (fun v H' => Dw K H' v (.list ((PyValaya.answers l).map PySem.W.WData.int))) fun _ _ _ => False := by
  obtain ⟨cs, e1, hF, h100, e2, hz⟩ := asked_ok ask
  cases hs with
  | cons h1 h2 =>
    cases h2
    cases h1 with
    | lst hq hd =>
      rename_i a ys
      have ey := ints_dw _ _ hd
      subst ey
      refine ⟨a, l, cs, rfl, hq, e1, hF, hz, fun p H' _ _ hp => ?_⟩
      rw [e2]
      exact .lst (SqL.of hp) (dw_ints _)
end Lv
set_option Elab.async false
set_option linter.all false
set_option maxRecDepth 100000
set_option maxHeartbeats 4000000
namespace Lv
open PySem PySem.Spec PyProof.Rows L2
theorem room_end : Room 106 callerA := ⟨rfl, by decide, by decide⟩
theorem fn_at {P : Program} {w : World} {K : PySem.W.Frag} {mg : Str → Option Value} (T : Txt K mg) (X : Exm K) {f : Addr} (hf : mg ("answers" : Str) = some (.ref f)) :
    ∃ fd : FuncData, (∀ (s : Shared) (us : List Value), us.length = 1 → BindsTo s fd ⟨us, []⟩ ((["calls"] : List Str).zip us)) ∧ ∀ base : Heap, FnOk P w K mg base CX0 106 f fd ["calls"] (spAnswers K) := by
  obtain ⟨f', fd, hm, Fu, hb⟩ := T.d_answers
  obtain rfl : f' = f := by
    rw [hf] at hm
    cases hm
    rfl
  refine ⟨fd, ?_, fun base => ?_⟩
  · obtain ⟨oc, od, kV, doc, pm, an, cdv, ct, osl, rfl, lk, hcd⟩ := Fu.ex
    intro s us hl
    exact .of_eq (match us, hl with | [_], _ => rfl)
  · exact Fu.ok sc_answers (fun vs H Q E h => by obtain ⟨cl, l, cs, rfl, _⟩ := h; rfl) fun cdv A outer s H vs Q E hr h => body_answers (P := P) (w := w) (base := base) T (by decide) (ok_answer_of (P := P) (w := w) (base := base) T X) f' cdv A outer s H vs Q E hr h
theorem holds_of (run : ∀ w : World, HandSHeadRun.RunEqS R (PySem.W.view R.prog [115]) hkE obE 20000 loose w) : R.Holds := by
  refine HandSHeadRun.head_spec (r := R) (q := PySem.W.view R.prog [115]) (H := hkE) (ob := obE) (M := 20000) (loose := loose) obE_eq (by kernel_rfl) (fun s => by kernel_rfl) run (by rfl) (by rfl) (by rfl) PySem.W.os_shapes said (by decide +kernel) bare_R ⟨[.list [.int 1]], by decide +kernel, by decide +kernel⟩ ?_
  refine walk_e (k := 106) (ps := ["calls"]) said rfl room_end fun w mg f h Y G hf => ?_
  obtain ⟨K, KX, hx, c⟩ := Y
  have T := txt_of KX G hx c
  obtain ⟨fd, hb, ok⟩ := fn_at (P := R.prog) (w := w) T (exm_of c) hf
  refine ⟨K, fd, spAnswers K, KX, hb, ok, fun H xs a _ ask hs => ?_⟩
  obtain ⟨l, u⟩ := a
  exact promise_of ask hs
end Lv
set_option maxRecDepth 100000 in
set_option maxHeartbeats 0 in
theorem PySem.Challenge.cw_leafvalues_s01_answers_holds : PySem.Challenge.rw_leafvalues_s01_answers.Holds := by
  exact Lv.holds_of Lv.run_all
