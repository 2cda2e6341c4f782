import PyProof.Rows.All
import Wide.All
import OpenK.AllK
import Wide.FinOn
import HandS.ForExc
import HandS.Comp
import HandS.Wide
import HandS.IsInst
import HandS.Property
import HandS.FStr
import HandS.MakeKw
import HandS.MakeKwOnly
import HandS.ExcInit
import HandS.ExcField
import HandS.ExcIs
import HandS.HotCalls
import HandS.OwnEq
import HandS.Evl
import KE.KCallOwn
import HandS.Gcd
import HandS.Walk
import KE.GoesMore
import KE.GoesEnum
import KE.GoesNew
import HandS.ExcOwn
import PySem.Challenge.RW_fittingpasts_k17_stay_parts
set_option Elab.async false
set_option linter.all false
set_option maxRecDepth 100000
set_option maxHeartbeats 4000000
/-! own rules: operators that a class of the program defines -/
namespace XR
open PySem PySem.Spec PyProof.Rows L2
section
variable {X : Cx} {CX : CXT} {k : Nat} {C f : Addr} {fd : FuncData} {ps : List Str} {sp : Sp} {E : XK}
/-- the callee runs, somewhere below the body -/
theorem run_at {A : Around} {pins : List (Addr × Obj)} {σ : L2.St} {H : Hp} {s : Shared} {Q : VK} {us : List Value} {vs : List V} (F : FnOk X.prog X.w X.K X.mg X.base CX k f fd ps sp) (hr : Room k A) (hA : A.frames = X.A.frames) (hb : Binds X.K fd ps []) (hx : PassesAt CX X σ E)
    (I : Inv X pins σ H s) (r : Vals vs us) (h : sp vs H Q E) : wpAny (model X.prog X.w) A (call (.ref f) us) (EP X pins σ Q) X.xe s := by
  have hl : us.length = ps.length := by rw [← r.length]; exact F.len _ _ _ _ h
  have e0 : Env0 X.prog X.w X.K X.mg X.base A X.stack s H := by
    have e := I.env0
    exact ⟨by rw [hA]; exact e.frames, e.mod, e.bs, e.bsz, e.funs, e.frf, e.hok, e.bare⟩
  have b := hb s us I.kIn (by rw [List.append_nil]; exact hl)
  rw [List.append_nil] at b
  refine wpAny_call (codeAny_mono (F.run A X.stack s H ⟨us, []⟩ us vs Q E hr e0 b r h) fun r s' hq => ?_)
  cases r with
  | error e => exact hx pins H s e s' I hq
  | ok fl =>
    cases fl with
    | ret u => exact I.after hq
    | next => exact False.elim hq
    | brk => exact False.elim hq
    | cont => exact False.elim hq
/-- an instance of the class at C -/
theorem inst_at {pins : List (Addr × Obj)} {σ : L2.St} {H : Hp} {s : Shared} {a dx : Addr} {fs : List (Str × V)} (I : Inv X pins σ H s) (ha : H a = some (.ins C dx fs)) : ∃ od, PySem.W.InstAt s.heap a (PySem.W.instObj C dx) C (some od) := by
  obtain ⟨mA, J, _⟩ := ins_get I.hok ha
  obtain ⟨od, J, _⟩ := J.look
  exact ⟨od, J⟩
theorem back_of {pins : List (Addr × Obj)} {σ : L2.St} {Q : VK} {v : Value} {s' : Shared} (h : EP X pins σ Q v s') : PySem.W.CmpBack (EP X pins σ Q) v s' := by
  obtain ⟨x, H', I', r, q⟩ := h
  have keep : EP X pins σ Q v s' := ⟨x, H', I', r, q⟩
  cases x with
  | non =>
    obtain rfl : v = Value.none := r
    exact keep
  | bl _ =>
    obtain rfl : v = Value.bool _ := r
    exact keep
  | int _ =>
    obtain ⟨t, rfl⟩ := r
    exact keep
  | str _ =>
    obtain ⟨t, rfl⟩ := r
    exact keep
  | byt _ =>
    obtain ⟨t, rfl⟩ := r
    exact keep
  | flt _ =>
    obtain ⟨t, rfl⟩ := r
    exact keep
  | ref _ =>
    obtain rfl : v = Value.ref _ := r
    exact keep
  | ty _ =>
    obtain rfl : v = Value.type _ := r
    exact keep

/-! ### a op b -/
structure OwnB (K : PySem.W.Frag) (C f : Addr) (op : Operator) : Prop where
  sf : PySem.W.selfFirst K C = true
  hs : PySem.W.findIn K (.ref C) (PySem.dunder op.info.2) = some (some (.ref f))
  hf : PySem.W.isFn K (.ref f) = true
  hr : PySem.W.findIn K (.ref C) (PySem.dunderR op.info.2) = some none
/-- .. an int on the right -/
structure OwnBI (K : PySem.W.Frag) (C : Addr) (op : Operator) : Prop where
  h1 : ∃ fo, PySem.W.findIn K (.type "int") (PySem.dunder op.info.2) = some fo
  h2 : ∃ ro, PySem.W.findIn K (.type "int") (PySem.dunderR op.info.2) = some ro
  sub : PySem.W.subIn K (.type "int") (.ref C) = some false
/-- by the left one's own method: an int or an instance of the same class on the right -/
def rOwnI (C : Addr) (sp : Sp) (E : XK) : R2 := fun x y H Q => ∃ a dx fs i, x = .ref a ∧ y = .int i ∧ H a = some (.ins C dx fs) ∧ sp [.ref a, .int i] H Q E
def rOwnC (C : Addr) (sp : Sp) (E : XK) : R2 := fun x y H Q => ∃ a b dx dy fs gs, x = .ref a ∧ y = .ref b ∧ H a = some (.ins C dx fs) ∧ H b = some (.ins C dy gs) ∧ sp [.ref a, .ref b] H Q E
theorem ownI {op : Operator} {pins : List (Addr × Obj)} {s : Shared} {σ : L2.St} {H : Hp} {x y : V} {v u : Value} {Q : VK} (O : OwnB X.K C f op) (OI : OwnBI X.K C op) (F : FnOk X.prog X.w X.K X.mg X.base CX k f fd ps sp) (hr : Room k X.A) (hb : Binds X.K fd ps []) (hx : PassesAt CX X σ E)
    (I : Inv X pins σ H s) (rx : RelV x v) (ry : RelV y u) (hq : rOwnI C sp E x y H Q) : wpAny (model X.prog X.w) X.A (binaryOp op v u) (EP X pins σ Q) X.xe s := by
  obtain ⟨a, dx, fs, i, rfl, rfl, ha, q⟩ := hq
  cases rx
  obtain ⟨t, rfl⟩ := ry
  obtain ⟨od, J⟩ := inst_at I ha
  obtain ⟨m, hF⟩ := I.fr
  obtain ⟨fo, h1⟩ := OI.h1
  obtain ⟨ro, h2⟩ := OI.h2
  exact PySem.W.ksp_binT (T := "int") hF I.ok.mod.kin J rfl O.sf O.hs O.hf O.hr (.inl rfl) h1 h2 OI.sub
    (thn (run_at (vs := [.ref a, .int i]) F hr rfl hb hx I (.cons rfl (.cons ⟨t, rfl⟩ .nil)) q) fun _ _ z => back_of z)
theorem ownC {op : Operator} {pins : List (Addr × Obj)} {s : Shared} {σ : L2.St} {H : Hp} {x y : V} {v u : Value} {Q : VK} (O : OwnB X.K C f op) (F : FnOk X.prog X.w X.K X.mg X.base CX k f fd ps sp) (hr : Room k X.A) (hb : Binds X.K fd ps []) (hx : PassesAt CX X σ E)
    (I : Inv X pins σ H s) (rx : RelV x v) (ry : RelV y u) (hq : rOwnC C sp E x y H Q) : wpAny (model X.prog X.w) X.A (binaryOp op v u) (EP X pins σ Q) X.xe s := by
  obtain ⟨a, b, dx, dy, fs, gs, rfl, rfl, ha, hb', q⟩ := hq
  cases rx
  cases ry
  obtain ⟨od, J⟩ := inst_at I ha
  obtain ⟨od', J'⟩ := inst_at I hb'
  obtain ⟨m, hF⟩ := I.fr
  exact PySem.W.binop_K hF I.ok.mod.kin J J'.type O.sf O.hs O.hf
    (thn (run_at (vs := [.ref a, .ref b]) F hr rfl hb hx I (.cons rfl (.cons rfl .nil)) q) fun _ _ z => back_of z)
theorem at_of_passes {σ : L2.St} (hx : Passes CX X E) : PassesAt CX X σ E := fun pins H s e s' I c => hx pins σ H s e s' I c
theorem op_ownI {op : Operator} (O : OwnB X.K C f op) (OI : OwnBI X.K C op) (F : FnOk X.prog X.w X.K X.mg X.base CX k f fd ps sp) (hr : Room k X.A) (hb : Binds X.K fd ps []) (hx : Passes CX X E) : OpR X (binaryOp op) (rOwnI C sp E) :=
  fun pins s σ H x y v u Q I rx ry hq => ownI O OI F hr hb (at_of_passes hx) I rx ry hq
theorem op_ownC {op : Operator} (O : OwnB X.K C f op) (F : FnOk X.prog X.w X.K X.mg X.base CX k f fd ps sp) (hr : Room k X.A) (hb : Binds X.K fd ps []) (hx : Passes CX X E) : OpR X (binaryOp op) (rOwnC C sp E) :=
  fun pins s σ H x y v u Q I rx ry hq => ownC O F hr hb (at_of_passes hx) I rx ry hq
/-- .. in a try's body -/
def tOpS (r : L2.St → R2) (ta tb : TE) : TE := fun σ H Q => ta σ H fun x H1 => tb σ H1 fun y H2 => r σ x y H2 Q
theorem pe_opCS {op : Operator} {a b : Expr} {pos : Pos} {ta tb : TE} {ES : L2.St → XK} (O : OwnB X.K C f op) (F : FnOk X.prog X.w X.K X.mg X.base CX k f fd ps sp) (hr : Room k X.A) (hb : Binds X.K fd ps []) (hx : ∀ σ, PassesAt CX X σ (ES σ)) (ha : PE X a ta) (hb2 : PE X b tb) :
    PE X (.BinOp a op b pos) (tOpS (fun σ => rOwnC C sp (ES σ)) ta tb) := by
  refine ⟨fun pins s σ H Q I h => ?_⟩
  exact (wpAny_BinOp (binT ha hb2 I (R := fun x y H2 => rOwnC C sp (ES σ) x y H2 Q) (by exact h) fun v u s1 x y H1 I1 r1 r2 q => ownC O F hr hb (hx σ) I1 r1 r2 q))
/-! ### x in o, x not in o -/
structure OwnM (K : PySem.W.Frag) (C f : Addr) (name : Str) : Prop where
  hs : PySem.W.findIn K (.ref C) name = some (some (.ref f))
  hf : PySem.W.isFn K (.ref f) = true
def rInOwn (C : Addr) (sp : Sp) (E : XK) (neg : Bool) : R2 := fun x y H Q => ∃ a dx fs, y = .ref a ∧ H a = some (.ins C dx fs) ∧ sp [.ref a, x] H (fun v H' => ∃ b, v = .bl b ∧ Q (.bl (if neg then !b else b)) H') E
theorem op_in_own (O : OwnM X.K C f "__contains__") (F : FnOk X.prog X.w X.K X.mg X.base CX k f fd ps sp) (hr : Room k X.A) (hb : Binds X.K fd ps []) (hx : Passes CX X E) : OpR X (compareOp .In) (rInOwn C sp E false) := by
  intro pins s σ H x y v u Q I rx ry hq
  obtain ⟨a, dx, fs, rfl, ha, q⟩ := hq
  cases ry
  obtain ⟨od, J⟩ := inst_at I ha
  obtain ⟨m, hF⟩ := I.fr
  refine PySem.W.in_K hF I.ok.mod.kin J O.hs O.hf (thn (run_at (vs := [.ref a, x]) F hr rfl hb (at_of_passes hx) I (.cons rfl (.cons rx .nil)) q) fun r s' z => ?_)
  obtain ⟨w', H', I', rw', b, rfl, q2⟩ := z
  cases rw'
  exact wpAny_truthy_bool ⟨.bl b, H', I', rfl, q2⟩
theorem op_notIn_own (O : OwnM X.K C f "__contains__") (F : FnOk X.prog X.w X.K X.mg X.base CX k f fd ps sp) (hr : Room k X.A) (hb : Binds X.K fd ps []) (hx : Passes CX X E) : OpR X (compareOp .NotIn) (rInOwn C sp E true) := by
  intro pins s σ H x y v u Q I rx ry hq
  obtain ⟨a, dx, fs, rfl, ha, q⟩ := hq
  cases ry
  obtain ⟨od, J⟩ := inst_at I ha
  obtain ⟨m, hF⟩ := I.fr
  refine PySem.W.notIn_K hF I.ok.mod.kin J O.hs O.hf (thn (run_at (vs := [.ref a, x]) F hr rfl hb (at_of_passes hx) I (.cons rfl (.cons rx .nil)) q) fun r s' z => ?_)
  obtain ⟨w', H', I', rw', b, rfl, q2⟩ := z
  cases rw'
  exact wpAny_truthy_bool ⟨.bl (!b), H', I', rfl, q2⟩
/-! ### a == b, a != b by the class's __eq__ (no __ne__ of its own) -/
structure OwnE (K : PySem.W.Frag) (C f : Addr) : Prop where
  hs : PySem.W.findIn K (.ref C) "__eq__" = some (some (.ref f))
  hf : PySem.W.isFn K (.ref f) = true
  hn : PySem.W.findIn K (.ref C) "__ne__" = some (some (.builtin "object.__ne__"))
  ob : PySem.W.mroIn K C (.type "object") = some true
def rEqOwn (C : Addr) (sp : Sp) (E : XK) (neg : Bool) : R2 := fun x y H Q => ∃ a b dx dy fs gs, x = .ref a ∧ y = .ref b ∧ H a = some (.ins C dx fs) ∧ H b = some (.ins C dy gs) ∧ sp [.ref a, .ref b] H (fun v H' => ∃ c, v = .bl c ∧ Q (.bl (if neg then !c else c)) H') E
theorem op_eq_own (O : OwnE X.K C f) (F : FnOk X.prog X.w X.K X.mg X.base CX k f fd ps sp) (hr : Room k X.A) (hb : Binds X.K fd ps []) (hx : Passes CX X E) : OpR X (compareOp .Eq) (rEqOwn C sp E false) := by
  intro pins s σ H x y v u Q I rx ry hq
  obtain ⟨a, b, dx, dy, fs, gs, rfl, rfl, ha, hb', q⟩ := hq
  cases rx
  cases ry
  obtain ⟨od, J⟩ := inst_at I ha
  obtain ⟨od', J'⟩ := inst_at I hb'
  obtain ⟨m, hF⟩ := I.fr
  refine PySem.W.cmp_K (op := .Eq) (tb := .ref C) hr.units0 hF I.ok.mod.kin J J'.type (by simp [PySem.W.notFirst]) O.hs O.hf ?_
  refine thn (run_at (vs := [.ref a, .ref b]) F hr rfl hb (at_of_passes hx) I (.cons rfl (.cons rfl .nil)) q) fun _ _ z => ?_
  obtain ⟨w', H', I', rw', c, rfl, q2⟩ := z
  cases rw'
  exact (⟨.bl c, H', I', rfl, q2⟩ : EP X pins σ Q (.bool c) _)
theorem objNe_entry {prog : Program} {w : World} {A : Around} {E : Value → Shared → Prop} {K : PySem.W.Frag} {x C f : Addr} {ox : Obj} {od : Option Obj} {b : Value} {s : Shared} {Q : PySem.Fin → Shared → Prop} (hu : A.units < cLine) (Xk : K.In s.heap) (I : PySem.W.InstAt s.heap x ox C od)
    (hs : PySem.W.findIn K (.ref C) "__eq__" = some (some (.ref f))) (hf : PySem.W.isFn K (.ref f) = true)
    (h : wpAny (model prog w) A (call (.ref f) [.ref x, b]) (fun v s' => ∃ c, v = .bool c ∧ Q (.done (.ret (.bool (!c)))) s') E s) :
    wpAny (model prog w) A (Builtin.«object.__ne__» ⟨[.ref x, b], []⟩) Q E s := by
  unfold Builtin.«object.__ne__»
  refine wpAny_bind (wpAny_of_eq (a := ((Value.ref x : Value), [b])) (by first | rfl | (simp only [Builtin.slotArgs]; rfl)) ?_)
  refine wpAny_bind (wpAny_cRoomFor hu ?_)
  refine wpAny_bind (PySem.W.ifBound_K Xk I hs hf (thn h fun v s' z => ?_))
  obtain ⟨c, rfl, q⟩ := z
  exact wpAny_bind (wpAny_truthy_bool (wpAny_pure q))
theorem cmp_ne {prog : Program} {w : World} {A : Around} {E : Value → Shared → Prop} {K : PySem.W.Frag} {x C f : Addr} {ox : Obj} {od : Option Obj} {b : Value} {s : Shared} {Q : Value → Shared → Prop} (hu : A.units + 1 < cLine) (Xk : K.In s.heap) (I : PySem.W.InstAt s.heap x ox C od)
    (hb : PySem.W.Looks (model prog w) s.heap (typeOf b) (.ref C)) (hn : PySem.W.findIn K (.ref C) "__ne__" = some (some (.builtin "object.__ne__"))) (ob : PySem.W.mroIn K C (.type "object") = some true)
    (hs : PySem.W.findIn K (.ref C) "__eq__" = some (some (.ref f))) (hf : PySem.W.isFn K (.ref f) = true)
    (h : wpAny (model prog w) A.in1 (call (.ref f) [.ref x, b]) (fun v s' => ∃ c, v = .bool c ∧ Q (.bool (!c)) s') E s) :
    wpAny (model prog w) A (richCompare .NotEq (.ref x) b) Q E s := by
  have sub : PySem.W.Looks (model prog w) s.heap (isInstance (.ref x) (.type "object")) true := I.type.andThen (PySem.W.looks_mroIn Xk ob)
  have callN : wpAny (model prog w) A (call (.builtin "object.__ne__") [.ref x, b]) (fun v s' => ∃ c, v = .bool c ∧ Q v s') E s := by
    refine wpAny_call (codeAny_call_builtin PySem.F.cmp_object.ne.plain PySem.F.cmpEntry_ne ?_)
    refine @PySem.W.check_slot (model prog w) _ _ s "object.__ne__" "object" "__ne__" (.ref x) [b] [] _ PySem.F.cmpKind_ne PySem.F.cmpSplit_ne sub (PySem.F.cmpArgs_ne _ _) ?_
    refine objNe_entry (A := A.in1) (by show A.units + 1 < cLine; exact hu) Xk I hs hf (thn h fun v s' z => ?_)
    obtain ⟨c, rfl, q⟩ := z
    exact ⟨c, rfl, ⟨!c, rfl, q⟩⟩
  have L1 := PySem.W.looks_findIn (M := model prog w) Xk hn
  have one : wpAny (model prog w) A (tryCompare (.ref x) "__ne__" b) (fun r s' => ∃ v, r = some v ∧ Q v s') E s := by
    unfold tryCompare
    refine wpAny_bind ?_
    simp only [callSpecialIfBound?, bindSpecialIfBound?]
    refine wpAny_holding (wpAny_bind (wpAny_bind (wpAny_bind (I.type.here (L1.here ?_)))))
    simp only [PySem.F.cmp_object.ne.bind]
    refine wpAny_bind (wpAny_askSetting (wpAny_ite ?_))
    have go : wpAny (model prog w) A (do
        let r ← call (.builtin "object.__ne__") ([.ref x] ++ [b])
        pure (some r)) (fun a s' => wpAny (model prog w) A (match a with
          | some Value.notImplemented => pure none
          | none => pure none
          | some v => pure (some v)) (fun r s' => ∃ v, r = some v ∧ Q v s') E s') E s := by
      refine wpAny_bind (thn callN fun v s' z => ?_)
      obtain ⟨c, rfl, q⟩ := z
      exact wpAny_pure (wpAny_pure ⟨_, rfl, q⟩)
    split
    · exact wpAny_bind (wpAny_pure (wpAny_pure (by exact go)))
    · refine wpAny_tryCatch ?_
      exact wpAny_bind (wpAny_pure (wpAny_pure (by exact go)))
  have hu0 : A.units < cLine := Nat.lt_of_succ_lt hu
  unfold richCompare
  simp only [oneThing_ref]
  refine wpAny_holding (wpAny_bind (wpAny_cRoomFor hu0 ?_))
  refine wpAny_bind (I.type.here (wpAny_bind (hb.here ?_)))
  split
  · rename_i q
    simp at q
  · refine wpAny_bind (wpAny_pure ?_)
    simp only [Bool.false_eq_true, if_false]
    refine wpAny_bind (wpAny_mono one (fun r s' z => ?_) fun _ _ e => e)
    obtain ⟨v, rfl, hq⟩ := z
    exact wpAny_pure hq
theorem op_ne_own (O : OwnE X.K C f) (F : FnOk X.prog X.w X.K X.mg X.base CX k f fd ps sp) (hr : Room (k + 1) X.A) (hb : Binds X.K fd ps []) (hx : Passes CX X E) : OpR X (compareOp .NotEq) (rEqOwn C sp E true) := by
  intro pins s σ H x y v u Q I rx ry hq
  obtain ⟨a, b, dx, dy, fs, gs, rfl, rfl, ha, hb', q⟩ := hq
  cases rx
  cases ry
  obtain ⟨od, J⟩ := inst_at I ha
  obtain ⟨od', J'⟩ := inst_at I hb'
  refine cmp_ne (by have := hr.units; omega) I.kIn J J'.type O.hn O.ob O.hs O.hf ?_
  refine thn (run_at (A := X.A.in1) (vs := [.ref a, .ref b]) F hr.in1 rfl hb (at_of_passes hx) I (.cons rfl (.cons rfl .nil)) q) fun _ _ z => ?_
  obtain ⟨w', H', I', rw', c, rfl, q2⟩ := z
  cases rw'
  exact ⟨c, rfl, (⟨.bl (!c), H', I', rfl, q2⟩ : EP X pins σ Q (.bool (!c)) _)⟩
/-! ### str(o) by the class's __str__ -/
def rStrOwn (C : Addr) (sp : Sp) (E : XK) : List V → Hp → VK → Prop := fun vs H Q => ∃ a dx fs, vs = [.ref a] ∧ H a = some (.ins C dx fs) ∧ sp [.ref a] H (fun v H' => ∃ z, v = .str z ∧ Q v H') E
theorem call_str_own (O : OwnM X.K C f "__str__") (F : FnOk X.prog X.w X.K X.mg X.base CX k f fd ps sp) (hr : Room (k + 2) X.A) (hb : Binds X.K fd ps []) (hx : Passes CX X E) : CallR X (.type "str") (rStrOwn C sp E) := by
  intro pins s σ H xs us Q I r hq
  obtain ⟨a, dx, fs, rfl, ha, q⟩ := hq
  cases r with
  | cons rx rr =>
    cases rr
    cases rx
    obtain ⟨od, J⟩ := inst_at I ha
    have hr2 : Room k X.A.in1.in1 := hr.in1.in1
    refine PySem.W.kso_call hr2.units0 I.kIn J O.hs O.hf ?_
    refine thn (run_at (A := X.A.in1.in1) (vs := [.ref a]) F hr2 rfl hb (at_of_passes hx) I (.cons rfl .nil) q) fun _ _ z => ?_
    obtain ⟨w', H', I', rw', z, rfl, q2⟩ := z
    obtain ⟨t, rfl⟩ := rw'
    exact (⟨.str z, H', I', ⟨t, rfl⟩, q2⟩ : EP X pins σ Q (.str z t) _)
/-! ### -o -/
def rNegOwn (C : Addr) (sp : Sp) (E : XK) : V → Hp → VK → Prop := fun x H Q => ∃ a dx fs, x = .ref a ∧ H a = some (.ins C dx fs) ∧ sp [.ref a] H Q E
theorem un_neg_own (O : OwnM X.K C f "__neg__") (F : FnOk X.prog X.w X.K X.mg X.base CX k f fd ps sp) (hr : Room k X.A) (hb : Binds X.K fd ps []) (hx : Passes CX X E) : UnR X (unaryOp .USub) (rNegOwn C sp E) := by
  intro pins s σ H x v Q I rx hq
  obtain ⟨a, dx, fs, rfl, ha, q⟩ := hq
  cases rx
  obtain ⟨od, J⟩ := inst_at I ha
  obtain ⟨m, hF⟩ := I.fr
  exact PySem.W.ksp_neg hF I.ok.mod.kin J O.hs O.hf (run_at (vs := [.ref a]) F hr rfl hb (at_of_passes hx) I (.cons rfl .nil) q)
end
end XR
/-! ### isinstance of a caught error that has a dict of its own -/
namespace XR
open PySem PySem.Spec PySem.Calls PyProof.Rows PySem.W
section
variable {prog : Program} {w : World} {A : Around} {E : Value → Shared → Prop} {s : Shared} {K : Frag} {x D : Addr} {ox od : Obj}
/-- what a class of errors must say, so that isinstance reads its instances rightly (L2.ExcC's facts) -/
abbrev Asks (K : Frag) (D : Addr) : Prop := L2.ExcC K D
theorem excD_class {Q : Option Value → Shared → Prop} (c : Asks K D) (X : K.In s.heap)
    (I : InstAt s.heap x ox D (some od)) (h : Q (some (.ref D)) { s with toks := s.toks + 1 }) :
    wpAny (model prog w) A (getAttr? (.ref x) "__class__") Q E s := by
  have isC : (clsIn K D).isSome = true := by
    obtain ⟨cd, hc, _⟩ := any_some c.hd
    rw [hc] <;> rfl
  have fnd := looks_find (M := model prog w) X I (findObj_data isC c.ha c.hn c.ht)
  obtain ⟨hp, g, d, t, os⟩ := s
  have lt := I.type (M := model prog w)
  have la := looks_findIn (M := model prog w) X c.hg
  have lb := looks_findIn (M := model prog w) X c.hk
  have isB : Looks (model prog w) hp (isInstance (.ref x) (.type "BaseException")) true :=
    lt.andThen (looks_subIn X c.hs)
  have z0 : (false && onTheHeap (Value.builtin "BaseException.__getattribute__")) = false := by
    rfl
  have z2 : (Value.builtin "BaseException.__getattribute__" ==
      Value.builtin "object.__getattribute__") = false := by decide +kernel
  have z1 : (onTheHeap (Value.ref D) && (Value.builtin "BaseException.__getattribute__" ==
      Value.builtin "object.__getattribute__")) = false := by rw [z2, Bool.and_false]
  unfold getAttr? getAttrBy? getAttrBy
  refine wpAny_bind (wpAny_mkText ?_)
  refine wpAny_bind (wpAny_attempt ?_)
  refine wpAny_holding (wpAny_bind (lt.at ?_))
  refine wpAny_bind (la.at ?_)
  show wpAny _ _ (if (onTheHeap (Value.ref D) && (Value.builtin "BaseException.__getattribute__" ==
    Value.builtin "object.__getattribute__")) = true then _ else _) _ _ _
  rw [z1, if_neg (by decide)]
  unfold getAttrByItsOwn hookBefore
  refine wpAny_bind ?_
  rw [if_pos (by rfl : onTheHeap (Value.ref D) = true)]
  refine lb.at (wpAny_bind (wpAny_attempt ?_))
  refine wpAny_holding ?_
  unfold callGetattribute
  rw [z0, if_neg (by decide)]
  unfold boundAndCalled
  rw [PySem.F.excAttr_ValueError.ga.bind]
  refine wpAny_bind (wpAny_pure ?_)
  show wpAny _ _ (call (.builtin "BaseException.__getattribute__")
    [.ref x, .str "__class__" t]) _ _ _
  refine wpAny_call (codeAny_call_builtin PySem.F.excAttr_ValueError.ga.plain
    PySem.F.entry_bexc_ga ?_)
  refine @check_slot (model prog w) _ _ ⟨hp, g, d, t + 1, os⟩ "BaseException.__getattribute__" "BaseException"
    "__getattribute__" (.ref x) [.str "__class__" t] [] _ (by decide +kernel) (by decide +kernel) isB
    (PySem.F.args_bexc_ga _ _) ?_
  unfold Builtin.«object.__getattribute__»
  refine wpAny_bind (wpAny_of_eq (a := ((Value.ref x : Value), [Value.str "__class__" t]))
    (by first | rfl | (simp only [Builtin.slotArgs] <;> rfl)) ?_)
  refine wpAny_bind (wpAny_pure ?_)
  refine wpAny_bind (lt.at (wpAny_bind (fnd.at ?_)))
  show wpAny _ _ (holding [Value.builtin "object.__class__"]
    (call (.builtin "getset_descriptor.__get__") [.builtin "object.__class__", .ref x, .ref D]) >>= ret) _ _ _
  refine wpAny_bind (wpAny_holding ?_)
  refine wpAny_call (class_get (s := ⟨hp, g, d, t + 1, os⟩) (ox := ox) (od := some od) X I c.hm ?_)
  refine wpAny_pure ?_
  show wpAny _ _ (handedOut (.ref D)) _ _ _
  rw [handedOut_of (v := .ref D) (by rfl)]
  first
    | exact wpAny_pure (wpAny_bind (wpAny_pure (wpAny_pure h)))
    | exact wpAny_pure (wpAny_pure h)
    | exact wpAny_pure h
theorem kit_excD (c : Asks K D) : KitX K (.ref x) (.ref D) (fun h => InstAt h x ox D (some od)) where
  ty := fun _ _ _ i => i.type
  it := fun m h X' i => by
    obtain ⟨cd, hc, _⟩ := any_some c.hd
    unfold clsIn at hc
    split at hc
    next c' d' cd' sl' ho =>
      intro A' Q' E' s' k q
      unfold isType loadHead
      refine wpAny_bind (wpAny_loadPart (k _ _ (X' _ _ ho)) ?_)
      exact wpAny_pure q
    next => cases hc
  ne := fun h tp dd its n sl X' htp => by
    obtain ⟨cd, hc, _⟩ := any_some c.hd
    refine Bool.eq_false_iff.mpr fun q => ?_
    obtain rfl : D = tp := Value.ref.inj (beq_iff_eq.mp q)
    unfold clsIn at hc
    split at hc
    next c' d' cd' sl' ho => cases (X' _ _ ho).symm.trans htp
    next => cases hc
  ca := fun X' i q => excD_class c X' i q
end
end XR
namespace XR
open PySem PySem.Spec PyProof.Rows L2
/-! ### a caught error, pinned: isinstance, fields -/
section
variable {X : Cx} {a : Addr} {oe : Obj} {cls : Value} {d : Option Addr}
theorem pinned_inst {pins : List (Addr × Obj)} {s : Shared} {σ : L2.St} {H : Hp} {D dd : Addr} {fs : List (Str × V)}
    (hp : (a, oe) ∈ X.pn) (hz : Zc (.ref D) (some dd) oe) (hf : ∃ vs, oe.data = .fields vs) (I : Inv X pins σ H s)
    (e : H dd = some (.xd fs)) : ∃ od, PySem.W.InstAt s.heap a oe D (some od) ∧ ∃ mA : Str → Option Value,
      (∀ n, PySem.W.lookIn n od = some (mA n)) ∧ ∀ n, RelO (fs.lookup n) (mA n) := by
  have at_ := (I.pin (a, oe) (List.mem_append_left _ hp)).1
  obtain ⟨vs, hv⟩ := hf
  have ok : ObjOk X.prog X.w H s.heap dd (.xd fs) := I.hok dd _ e
  obtain ⟨mA, hns, rel⟩ := ok
  obtain ⟨od, ho, hl⟩ := lookIn_ns hns
  refine ⟨od, ⟨at_, hz.1, ?_, ?_⟩, mA, hl, rel⟩
  · unfold PySem.W.notCls
    rw [hv] <;> rfl
  · rw [hz.2]
    exact ho
def rIsP (K : PySem.W.Frag) (cls : Value) (d : Option Addr) (a : Addr) : List V → Hp → VK → Prop := fun xs H Q =>
  ∃ (D dd : Addr) (fs : List (Str × V)) (c : V) (cv : Value) (b : Bool), cls = .ref D ∧ d = some dd ∧ H dd = some (.xd fs) ∧
    Asks K D ∧ xs = [.ref a, c] ∧ ClsV c cv ∧ PySem.W.kitOne K (.ref D) cv = some b ∧ Q (.bl b) H
def rIsPT (K : PySem.W.Frag) (cls : Value) (d : Option Addr) (a : Addr) : List V → Hp → VK → Prop := fun xs H Q =>
  ∃ (D dd tp : Addr) (fs : List (Str × V)) (cs : List V) (us : List Value) (b : Bool), cls = .ref D ∧ d = some dd ∧ H dd = some (.xd fs) ∧
    Asks K D ∧ xs = [.ref a, .ref tp] ∧ H tp = some (.tup cs) ∧ Paired ClsV cs us ∧ PySem.W.kitAny K (.ref D) us = some b ∧ Q (.bl b) H
theorem call_isP (hp : (a, oe) ∈ X.pn) (hz : Zc cls d oe) (hf : ∃ vs, oe.data = .fields vs) :
    CallR X (.builtin "isinstance") (rIsP X.K cls d a) := by
  intro pins s σ H xs us Q I r h
  obtain ⟨D, dd, fs, c, cv, b, rfl, rfl, e, as, rfl, kc, ek, q⟩ := h
  obtain ⟨u1, u2, rfl, r1, r2⟩ := vals2 r
  obtain rfl : u1 = Value.ref a := r1
  obtain rfl := kc.eq r2
  obtain ⟨od, J, _⟩ := pinned_inst hp hz hf I e
  exact PySem.W.kia_one (kit_excD as) I.kIn J ek (fun z => nomatch z) fun tk => ⟨.bl b, H, I.tok tk, rfl, q⟩
theorem call_isPT (hp : (a, oe) ∈ X.pn) (hz : Zc cls d oe) (hf : ∃ vs, oe.data = .fields vs) :
    CallR X (.builtin "isinstance") (rIsPT X.K cls d a) := by
  intro pins s σ H xs us Q I r h
  obtain ⟨D, dd, tp, fs, cs, ws, b, rfl, rfl, e, as, rfl, hT, kc, ek, q⟩ := h
  obtain ⟨u1, u2, rfl, r1, r2⟩ := vals2 r
  obtain rfl : u1 = Value.ref a := r1
  obtain rfl : u2 = Value.ref tp := r2
  obtain ⟨od, J, _⟩ := pinned_inst hp hz hf I e
  have okT : ObjOk X.prog X.w H s.heap tp (.tup cs) := I.hok tp _ hT
  obtain ⟨_, its, rv, ⟨oc, od2, dt, sl⟩, h1, h2, n, h3⟩ := okT
  dsimp only at h2 h3
  subst h2 h3
  obtain rfl := ClsV.all kc rv
  exact PySem.W.kia_tup (kit_excD as) I.kIn J h1 ek (fun z => nomatch z) fun tk => ⟨.bl b, H, I.tok tk, rfl, q⟩
/-- e.n, e the pinned error -/
def tPf (K : PySem.W.Frag) (a : Addr) (cls : Value) (d : Option Addr) (n : Str) (te : TE) : TE := fun σ H Q => te σ H fun x H1 =>
  ∃ (D dd : Addr) (fs : List (Str × V)) (v : V), x = .ref a ∧ cls = .ref D ∧ d = some dd ∧ H1 dd = some (.xd fs) ∧ XfC K D ∧
    PySem.W.findIn K (.ref D) n = some none ∧ fs.lookup n = some v ∧ Q v H1
theorem pe_pf {e : Expr} {te : TE} {pos : Pos} {n : Str} (hp : (a, oe) ∈ X.pn) (hz : Zc cls d oe) (hf : ∃ vs, oe.data = .fields vs) (he : PE X e te)
    (hb : attributeBase e n X.env (eval e X.env) = eval e X.env := by rfl) : PE X (.Attribute e n pos) (tPf X.K a cls d n te) := by
  refine ⟨fun pins s σ H Q I h => attr_of hb (thn (he.run pins s σ H _ I h) fun u s1 z => ?_)⟩
  obtain ⟨x, H1, I1, rx, D, dd, fs, v, rfl, rfl, rfl, ea, xf, hno, l, q⟩ := z
  obtain rfl : u = Value.ref a := rx
  obtain ⟨od, J, mA, hl, rel⟩ := pinned_inst hp hz hf I1 ea
  have rn := rel n
  rw [l] at rn
  obtain ⟨u, hu, ru⟩ := RelO.some_of rn
  refine HandSPX.exc_get I1.kIn J xf.ga xf.gg xf.exC (PySem.W.findObj_own xf.hdC hno rfl ?_) (handed_of ru) ⟨v, H1, I1.tok _, ru, q⟩
  rw [hl, hu]
end
/-! ### a def called while an error is handled: it raises nothing itself -/
abbrev SpQ := Addr × Obj → Sp
structure FnQ (P : Program) (w : World) (K : PySem.W.Frag) (mg : Str → Option Value) (base : Heap) (k : Nat) (f : Addr) (fd : FuncData) (ps : List Str) (sp : SpQ) : Prop where
  len : ∀ p vs H Q E, sp p vs H Q E → vs.length = ps.length
  run : ∀ (A : Around) (outer : List Env) (s : Shared) (H : Hp) (args : Args) (us : List Value) (vs : List V) (Q : VK) (p : Addr × Obj),
    L2H.RoomH k A → L2H.PinOk outer H s p → Env0 P w K mg base A outer s H → BindsTo s fd args (ps.zip us) → Vals vs us → sp p vs H Q E0 →
    codeAny (model P w) A (.call (.ref f) args) (CR CX0 outer P w H s Q E0) s
section
variable {P : Program} {w : World} {K : PySem.W.Frag} {mg : Str → Option Value} {base : Heap}
theorem okQ {x qual : Str} {st : Stmt} {f : Addr} {fd : FuncData} {N ps : List Str} {k : Nat} {sp : SpQ} (F : Fun K x qual st f fd) (S : FnScope N ps (defScope st))
    (len : ∀ p vs H Q E, sp p vs H Q E → vs.length = ps.length)
    (body : ∀ (cdv : Value) (A : Around) (outer : List Env) (s : Shared) (H : Hp) (vs : List V) (Q : VK) (p : Addr × Obj),
      L2H.RoomH k (A.deeper (envOfC qual (defScope st) s.heap.objs.size f cdv)) → sp p vs H Q E0 →
      ∃ t, PSs (L2H.cxH CX0 P w K mg base N qual (defScope st) f cdv A outer s H E0 p).nox (defBody st) t ∧
        t { nx := fun _ H' => Q .non H', rt := Q } (start N vs) H) : FnQ P w K mg base (k + 1) f fd ps sp := by
  obtain ⟨oc, od, kV, doc, pm, an, cdv, ct, osl, rfl, lk, hcd⟩ := F.ex
  refine ⟨len, fun A outer s H args us vs Q p hr pin e0 hb r hsp => ?_⟩
  have hl := len _ _ _ _ _ hsp
  have old : ∀ b o, base.get? b = some o → s.heap.get? b = some o := fun b o e => (e0.bs b o e).1
  have KX : K.In s.heap := e0.mod.kin.keeps old
  have lim : s.heap.NoLimit := e0.mod.nolimit.keeps old
  have kinds : ∀ y ∈ ps.zip us, (defScope st).names.lookup y.1 = some .local ∨
      ((defScope st).names.lookup y.1 = some .cell ∧ ((cellsFrom (s.heap.objs.size + 1) (defScope st).names []).lookup y.1).isSome = true) := by
    rintro ⟨n, v⟩ hy
    refine (S.par n (List.of_mem_zip hy).1).imp (fun q => q) fun q => ⟨q, ?_⟩
    exact PySem.W.cellsFrom_some _ _ _ (.inl q)
  refine codeAny_call_function hr.depth (KX _ _ lk) rfl S.co S.gen rfl (PySem.W.codeRec_of KX hcd) (hb _ _ _ _ ?_)
  refine wpAny_newFunctionEnv_cells S.kind kinds fun env he s1 x => ?_
  subst he
  refine ⟨lim.keeps x.toInCall.keep, codeAny_func ?_⟩
  obtain ⟨t, ht, hq⟩ := body cdv A outer s H vs Q p (hr.deeper _) hsp
  have I := L2H.inv_startH (CX := CX0) (E := E0) (cd := cdv) (qual := qual) S pin e0 hl r x
  have run := (PSs.nox ht).run [] s1 (start N vs) H _ I hq
  have out : ∀ {σ' : L2.St} {H' : Hp} {v : V} {u : Value} {s' : Shared},
      Inv (L2H.cxH CX0 P w K mg base N qual (defScope st) f cdv A outer s H E0 p) [] σ' H' s' → RelV v u → Q v H' → CE outer P w H s Q u s' :=
    fun J rv q => ⟨_, _, J.os, J.bare, J.base, J.hok, rv, q⟩
  refine wpAny_mono run (fun fl s' z => ?_) fun _ _ z => z
  cases fl with
  | next =>
    obtain ⟨σ', H', J, q⟩ := z
    exact out (v := V.non) (u := Value.none) J rfl q
  | ret u =>
    obtain ⟨v, σ', H', J, rv, q⟩ := z
    exact out J rv q
  | brk => exact z.elim fun _ y => y.elim fun _ y => y.2.elim
  | cont => exact z.elim fun _ y => y.elim fun _ y => y.2.elim
end
section
variable {X : Cx} {k : Nat} {f : Addr} {fd : FuncData} {ps : List Str} {sp : SpQ} {x : Str} {q pos : Pos} {e : Expr} {es : List Expr} {t : TA} {p : Addr × Obj}
def tCallQ (sp : Sp) (t : TA) : TE := fun σ H Q => t σ H fun vs H1 => sp vs H1 Q E0
theorem pe_callQ (F : FnQ X.prog X.w X.K X.mg X.base k f fd ps sp) (hr : L2H.RoomH k X.A) (hp : p ∈ X.pn) (hg : Gl X x) (hm : X.mg x = some (.ref f))
    (hk : PySem.W.keepIn X.K (.ref f) = true) (hb : Binds X.K fd ps []) (ha : PA X (e :: es) t) (hdb : (x == ("__debug__" : Str)) = false := by decide)
    (he : starEach (e :: es) X.env = (false, eval e X.env) :: starEach es X.env := by rfl) (hpl : (backTo pos (starEach es X.env)).any (·.1) = false := by rfl) :
    PE X (.Call (.Name x q) (e :: es) [] pos) (tCallQ (sp p) t) := by
  refine ⟨fun pins s σ H Q I h => wpAny_Call_Name_kw (ld_glob I hg hm ?_ hdb)⟩
  refine PySem.W.callWith_K (h₀ := X.base) I.ok.mod.kin hk (thn (ha.run pos pins s σ H _ I h) fun us s1 z => ?_) he hpl
  obtain ⟨vs, H1, I1, r, hsp⟩ := z
  refine ⟨I1.kIn, ?_⟩
  have hl : us.length = ps.length := r.length.symm.trans (F.len _ _ _ _ _ hsp)
  have b := hb s1 us I1.kIn (by rw [List.append_nil]; exact hl)
  rw [List.append_nil] at b
  obtain ⟨p1, p2, p3, p4, p5⟩ := I1.pin p (List.mem_append_left _ hp)
  have pin : L2H.PinOk X.stack H1 s1 p := ⟨p1, p2, fun hm => (List.mem_cons.mp (I1.stkSub p.1 hm)).elim p3 p4, p5⟩
  refine wpAny_call (codeAny_mono (F.run X.A X.stack s1 H1 ⟨us, []⟩ us vs Q p hr pin I1.env0 b r hsp) fun r s' z => ?_)
  cases r with
  | error e => exact z.elim
  | ok fl =>
    cases fl with
    | ret u => exact I1.after z
    | next => exact z.elim
    | brk => exact z.elim
    | cont => exact z.elim
end
end XR
namespace XR
open PySem PySem.Spec PyProof.Rows L2
/-! ### C(e, ..) where __init__ may raise, the wish told at the caller's slots -/
section
variable {X : Cx} {CX : CXT} {k : Nat} {C f : Addr} {fd : FuncData} {ps : List Str} {sp : Sp} {E : L2.St → XK} {x : Str} {p pos : Pos} {e : Expr} {es : List Expr} {t : TA}
def tMakeS (C : Addr) (sp : Sp) (E : L2.St → XK) (t : TA) : TE := fun σ H Q => t σ H fun vs H1 => ∀ x dx, H1 x = none → H1 dx = none → dx ≠ x →
  sp (.ref x :: vs) (upd (upd H1 dx (.own x)) x (.ins C dx [])) (fun v H2 => v = .non ∧ Q (.ref x) H2) (E σ)
theorem pe_makeS (M : Mk X.K C f) (F : FnOk X.prog X.w X.K X.mg X.base CX k f fd ps sp) (hr : Room (k + 1) X.A) (hg : Gl X x) (hm : X.mg x = some (.ref C)) (hb : Binds X.K fd ps [])
    (hx : ∀ σ, PassesAt CX X σ (E σ)) (ha : PA X (e :: es) t) (hdb : (x == ("__debug__" : Str)) = false := by decide)
    (he : starEach (e :: es) X.env = (false, eval e X.env) :: starEach es X.env := by rfl) (hpl : (backTo pos (starEach es X.env)).any (·.1) = false := by rfl) :
    PE X (.Call (.Name x p) (e :: es) [] pos) (tMakeS C sp E t) := by
  refine ⟨fun pins s σ H Q I h => wpAny_Call_Name_kw (ld_glob I hg hm ?_ hdb)⟩
  refine PySem.W.callWith_K (h₀ := X.base) I.ok.mod.kin M.kp (thn (ha.run pos pins s σ H _ I h) fun us s1 z => ?_) he hpl
  obtain ⟨vs, H1, I1, r, q⟩ := z
  refine ⟨I1.kIn, ?_⟩
  have fr := I1.hok.fresh (a := s1.heap.objs.size) (Nat.le_refl _)
  have fr1 := I1.hok.fresh (a := s1.heap.objs.size + 1) (Nat.le_add_right _ 1)
  have hsp := q (s1.heap.objs.size + 1) s1.heap.objs.size fr1 fr (Nat.ne_of_lt (Nat.lt_succ_self _))
  have I2 := Inv.made (C := C) I1
  have r2 : Vals (V.ref (s1.heap.objs.size + 1) :: vs) (Value.ref (s1.heap.objs.size + 1) :: us) := .cons rfl r
  have hl : (Value.ref (s1.heap.objs.size + 1) :: us).length = ps.length := r2.length.symm.trans (F.len _ _ _ _ hsp)
  have b := hb _ (Value.ref (s1.heap.objs.size + 1) :: us) I2.kIn (by rw [List.append_nil]; exact hl)
  rw [List.append_nil] at b
  have run := F.run _ X.stack _ _ ⟨Value.ref (s1.heap.objs.size + 1) :: us, []⟩ _ _ _ (E σ) (hr.make C us []) (I2.env0.make C us []) b r2 hsp
  refine wpAny_call (make_map (f := f) I1.kIn M.makes M.init (beq_iff_eq.mp M.fn) (codeAny_mono run fun r s' z => ?_))
  cases r with
  | error er => exact hx σ pins _ _ er s' I2 z
  | ok fl =>
    cases fl with
    | ret u =>
      obtain ⟨v, H', I3, rv, ev, q3⟩ := I2.after z
      subst ev
      exact ⟨rv, .ref (s1.heap.objs.size + 1), H', I3, rfl, q3⟩
    | next => exact z.elim
    | brk => exact z.elim
    | cont => exact z.elim
end
end XR
set_option Elab.async false
set_option linter.all false
set_option maxRecDepth 100000
set_option maxHeartbeats 4000000
/-! common lemmas: lists of ints, heaps with one object that changes, errors made and raised -/
namespace XR
open PySem PySem.Spec PyProof.Rows L2
theorem divw {i j : Int} (h : 0 < j) (h2 : j < 2 ^ 63) : CDivW i j := wide_div (b := 63) h (by omega) (by decide) (by decide)
theorem cmul_mod {i j : Int} (h : 0 < j ∧ j < 2 ^ 64) : -(2 ^ 64) < i % j ∧ i % j < 2 ^ 64 := ⟨by have := Int.emod_nonneg i (b := j) (by omega); omega, by have := Int.emod_lt_of_pos i h.1; omega⟩
theorem log_lt {i : Int} (h1 : -(10 ^ 40) < i) (h2 : i < 10 ^ 40) : i.natAbs.log2 < 1920 := by
  have h : i.natAbs < 10 ^ 40 := by omega
  have h3 : (10 : Nat) ^ 40 < 2 ^ 1920 := by decide +kernel
  by_cases z : i.natAbs = 0
  · rw [z]; decide
  · exact (Nat.log2_lt z).mpr (Nat.lt_trans h h3)
/-- a word at which the reading stops (two makers, so that no anonymous one fits) -/
inductive Stop (p : Prop) : Prop where
  | go (h : p)
  | too (h : p)
theorem Stop.out {p : Prop} : Stop p → p
  | .go h => h
  | .too h => h
/-- xs[:n] -/
theorem cutV_take (ns : List Int) (n : Nat) : cutV (ns.map V.int) none (some (n : Int)) = (ns.take n).map V.int := by
  unfold cutV
  have e0 : HT.sIx (ns.map V.int).length 0 none = 0 := rfl
  have e1 : HT.sIx (ns.map V.int).length (ns.map V.int).length (some (n : Int)) = min n (ns.map V.int).length := by
    unfold HT.sIx
    simp
    omega
  rw [e0, e1]
  simp [List.map_take]
theorem get_int {ms : List Int} {i : Nat} {x : V} (h : (ms.map V.int)[i]? = some x) : ∃ z, ms[i]? = some z ∧ x = .int z := by
  rw [List.getElem?_map] at h
  cases e : ms[i]? with
  | none => rw [e] at h; cases h
  | some z => rw [e] at h; exact ⟨z, rfl, (Option.some.inj h).symm⟩
theorem take_one {α : Type} {ms : List α} {i : Nat} {z : α} (h : ms[i]? = some z) : ms.take (i + 1) = ms.take i ++ [z] := by
  rw [List.take_succ, h] <;> rfl
theorem ne_fresh {H : Hp} {a b : Addr} {o : HO} (h : H b = none) (e : H a = some o) : a ≠ b := ne_of_none e h
theorem empty_app (x : Str) : Str.empty ++ x = x := by
  cases x with
  | mk a =>
    show (⟨#[] ++ a⟩ : Str) = ⟨a⟩
    simp
theorem max_if (a c : Int) : (if c > a then c else a) = max a c := by omega
theorem min_if (a c : Int) : (if c < a then c else a) = min a c := by omega
theorem at_ints {cs : List Int} {i : Int} (h0 : 0 ≤ i) (h : i < ((cs.map V.int).length : Nat)) : ∃ z, atI (cs.map V.int) i = some (.int z) := by
  have hl : i.toNat < cs.length := by rw [List.length_map] at h; omega
  refine ⟨cs[i.toNat], at_of (j := i.toNat) (by omega) ?_⟩
  rw [List.getElem?_map, List.getElem?_eq_getElem hl] <;> rfl
/-- the item at a drawn place of a written list -/
theorem at_lt {α : Type} {xs : List α} {i : Int} (h0 : 0 ≤ i) (h : i < (xs.length : Int)) : ∃ x, atI xs i = some x ∧ x ∈ xs := by
  have hl : i.toNat < xs.length := by omega
  refine ⟨xs[i.toNat], ?_, List.getElem_mem hl⟩
  have e := atI_nat (List.getElem?_eq_getElem hl)
  rw [show ((i.toNat : Nat) : Int) = i by omega] at e
  exact e
/-- all but b stands as it stood -/
def ExB (b : Addr) (H H' : Hp) : Prop := ∀ a o, a ≠ b → H a = some o → H' a = some o
theorem ExB.refl {b : Addr} {H : Hp} : ExB b H H := fun _ _ _ e => e
theorem ExB.trans {b : Addr} {H H1 H2 : Hp} (x : ExB b H H1) (y : ExB b H1 H2) : ExB b H H2 := fun a o n e => y a o n (x a o n e)
theorem ExB.same {b : Addr} {H H1 H2 : Hp} (x : ExB b H H1) (y : Same H1 H2) : ExB b H H2 := fun a o n e => y a o (x a o n e)
theorem ExB.of {b : Addr} {H H1 : Hp} (y : Same H H1) : ExB b H H1 := fun a o _ e => y a o e
theorem ExB.upd {b : Addr} {H H' : Hp} {o : HO} (x : ExB b H H') : ExB b H (upd H' b o) := fun a u ha e => by rw [upd_ne ha]; exact x a u ha e
theorem Same.new {H H' : Hp} {p : Addr} {o : HO} (x : Same H H') (h : H' p = none) : Same H (upd H' p o) := fun a u e => by
  have q := x a u e
  rw [upd_ne (ne_of_none q h)]
  exact q
theorem ExB.new {b : Addr} {H H' : Hp} {p : Addr} {o : HO} (x : ExB b H H') (h : H' p = none) : ExB b H (L2.upd H' p o) := fun a u n e => by
  have q := x a u n e
  rw [upd_ne (ne_of_none q h)]
  exact q
/-- nothing stands at p behind either -/
theorem none_back {H H' : Hp} {p : Addr} (x : Same H H') (h : H' p = none) : H p = none := Same.free x h
theorem none_backB {b : Addr} {H H' : Hp} {p : Addr} (x : ExB b H H') (n : p ≠ b) (h : H' p = none) : H p = none := by
  cases e : H p with
  | none => rfl
  | some o => rw [x p o n e] at h; cases h

theorem hot_of {A : Around} {k : Nat} {v : Option Value} (r : Room k A) : L2H.RoomH k (A.mark v) := ⟨r.dp, r.un⟩
/-! ### an error of the program with fields: made, raised -/
/-- what its __init__ leaves -/
def spEx (C : Addr) (fs : List V → Option (List (Str × V))) : Sp := fun vs H Q _ => ∃ (a : Addr) (ws : List V) (l : List (Str × V)), vs = .ref a :: ws ∧ fs ws = some l ∧
  H a = some (exo a C none) ∧ ∀ d H', H d = none → d ≠ a → H' a = some (exo a C (some d)) → H' d = some (exd d l) → (∀ q o, q ≠ a → H q = some o → H' q = some o) → Q .non H'
/-- the wish of what is raised: an error of the class at C with these fields, all else as it stood -/
def Wish (C : Addr) (l : List (Str × V)) (H : Hp) (E : Value → Option Addr → Hp → Prop) : Prop := ∀ d H', H' d = some (.xd l) → Same H H' → E (.ref C) (some d) H'
theorem mk_ex {C : Addr} {fs : List V → Option (List (Str × V))} {vs : List V} {l : List (Str × V)} {H : Hp} {E : XK} (hl : vs.length ≤ 1000) (hf : fs vs = some l) (k : Wish C l H E) :
    vs.length ≤ 1000 ∧ ∀ a, H a = none → spEx C fs (.ref a :: (vs ++ [])) (upd H a (exo a C none))
      (fun v H2 => v = .non ∧ ∃ (d : Addr) (g : List (Str × V)), H2 a = some (exo a C (some d)) ∧ H2 d = some (exd d g) ∧ H d = none ∧ E (.ref C) (some d) (upd (del H2 a) d (.xd g))) (fun _ _ _ => False) := by
  refine ⟨hl, fun a ha => ⟨a, vs, l, by rw [List.append_nil], hf, upd_same, fun d H' hd hda ea ed x => ⟨rfl, d, l, ea, ed, ?_, k d _ upd_same fun q o e => ?_⟩⟩⟩
  · rw [upd_ne hda] at hd
    exact hd
  · have hqa : q ≠ a := ne_of_none e ha
    have hqd : q ≠ d := fun z => by
      rw [upd_ne hda] at hd
      rw [z, hd] at e
      cases e
    rw [upd_ne hqd, del_ne hqa]
    refine x q o hqa ?_
    rw [upd_ne hqa]
    exact e
theorem init_ex1 {K : PySem.W.Frag} {C a : Addr} {f : Str} {v : V} {H : Hp} {Q : Hp → Prop} (oc : OexC K C) (hn : PySem.W.findIn K (.ref C) f = some none) (ha : H a = some (exo a C none))
    (k : ∀ d H', H d = none → d ≠ a → H' a = some (exo a C (some d)) → H' d = some (exd d [(f, v)]) → (∀ q o, q ≠ a → H q = some o → H' q = some o) → Q H') :
    ∃ a' C' : Addr, V.ref a = .ref a' ∧ OexC K C' ∧ PySem.W.findIn K (.ref C') f = some none ∧
      ((H a' = some (exo a' C' none) ∧ ∀ dx, H dx = none → dx ≠ a' → Q (upd (upd H dx (exd dx [(f, v)])) a' (exo a' C' (some dx)))) ∨
        ∃ (dx : Addr) (fs : List (Str × V)), H a' = some (exo a' C' (some dx)) ∧ H dx = some (exd dx fs) ∧ fs.length ≤ 900 ∧ Q (upd H dx (exd dx ((f, v) :: fs)))) := by
  refine ⟨a, C, rfl, oc, hn, .inl ⟨ha, fun dx hd hne => k dx _ hd hne upd_same (by rw [upd_ne hne]; exact upd_same) fun q o hq e => ?_⟩⟩
  rw [upd_ne hq, upd_ne (ne_of_none e hd)]
  exact e
theorem init_ex2 {K : PySem.W.Frag} {C a d : Addr} {f : Str} {v : V} {l : List (Str × V)} {H : Hp} {Q : Hp → Prop} (oc : OexC K C) (hn : PySem.W.findIn K (.ref C) f = some none) (hl : l.length ≤ 900)
    (ha : H a = some (exo a C (some d))) (hd : H d = some (exd d l)) (hda : d ≠ a)
    (k : ∀ H', H' a = some (exo a C (some d)) → H' d = some (exd d ((f, v) :: l)) → (∀ q o, q ≠ a → q ≠ d → H q = some o → H' q = some o) → Q H') :
    ∃ a' C' : Addr, V.ref a = .ref a' ∧ OexC K C' ∧ PySem.W.findIn K (.ref C') f = some none ∧
      ((H a' = some (exo a' C' none) ∧ ∀ dx, H dx = none → dx ≠ a' → Q (upd (upd H dx (exd dx [(f, v)])) a' (exo a' C' (some dx)))) ∨
        ∃ (dx : Addr) (fs : List (Str × V)), H a' = some (exo a' C' (some dx)) ∧ H dx = some (exd dx fs) ∧ fs.length ≤ 900 ∧ Q (upd H dx (exd dx ((f, v) :: fs)))) := by
  refine ⟨a, C, rfl, oc, hn, .inr ⟨d, l, ha, hd, hl, k _ (by rw [upd_ne hda.symm]; exact ha) upd_same fun q o _ hq e => by rw [upd_ne hq]; exact e⟩⟩
end XR
namespace XR
open PySem L2
theorem ifF {c : Bool} {P Q : Prop} (h : c = false) (k : Q) : if c = true then P else Q := by rw [h, if_neg (by decide)]; exact k
theorem ifT {c : Bool} {P Q : Prop} (h : c = true) (k : P) : if c = true then P else Q := by rw [if_pos h]; exact k
end XR
namespace XR
open PySem L2
section
variable {X : Cx} {a b : Addr} {oe : Obj} {cls : Value} {d : Option Addr} {pn : List (Addr × Obj)}
theorem call_isPs (hz : Zc cls d oe) (hf : ∃ vs, oe.data = .fields vs) : CallR (X.suite b ((a, oe) :: pn)) (.builtin "isinstance") (rIsP X.K cls d a) := call_isP List.mem_cons_self hz hf
theorem call_isPTs (hz : Zc cls d oe) (hf : ∃ vs, oe.data = .fields vs) : CallR (X.suite b ((a, oe) :: pn)) (.builtin "isinstance") (rIsPT X.K cls d a) := call_isPT List.mem_cons_self hz hf
theorem pe_pfs {e : Expr} {te : TE} {pos : Pos} {n : Str} (hz : Zc cls d oe) (hf : ∃ vs, oe.data = .fields vs) (he : PE (X.suite b ((a, oe) :: pn)) e te)
    (hb : attributeBase e n (X.suite b ((a, oe) :: pn)).env (eval e (X.suite b ((a, oe) :: pn)).env) = eval e (X.suite b ((a, oe) :: pn)).env := by rfl) : PE (X.suite b ((a, oe) :: pn)) (.Attribute e n pos) (tPf X.K a cls d n te) :=
  pe_pf List.mem_cons_self hz hf he hb
theorem pe_callQs {k : Nat} {f : Addr} {fd : FuncData} {ps : List Str} {sp : SpQ} {x : Str} {q pos : Pos} {e : Expr} {es : List Expr} {t : TA}
    (F : FnQ (X.suite b ((a, oe) :: pn)).prog (X.suite b ((a, oe) :: pn)).w (X.suite b ((a, oe) :: pn)).K (X.suite b ((a, oe) :: pn)).mg (X.suite b ((a, oe) :: pn)).base k f fd ps sp) (hr : L2H.RoomH k (X.suite b ((a, oe) :: pn)).A) (hg : Gl (X.suite b ((a, oe) :: pn)) x) (hm : (X.suite b ((a, oe) :: pn)).mg x = some (.ref f))
    (hk : PySem.W.keepIn (X.suite b ((a, oe) :: pn)).K (.ref f) = true) (hb : Binds (X.suite b ((a, oe) :: pn)).K fd ps []) (ha : PA (X.suite b ((a, oe) :: pn)) (e :: es) t) (hdb : (x == ("__debug__" : Str)) = false := by decide)
    (he : starEach (e :: es) (X.suite b ((a, oe) :: pn)).env = (false, eval e (X.suite b ((a, oe) :: pn)).env) :: starEach es (X.suite b ((a, oe) :: pn)).env := by rfl) (hpl : (backTo pos (starEach es (X.suite b ((a, oe) :: pn)).env)).any (·.1) = false := by rfl) :
    PE (X.suite b ((a, oe) :: pn)) (.Call (.Name x q) (e :: es) [] pos) (tCallQ (sp (a, oe)) t) := pe_callQ (p := (a, oe)) F hr List.mem_cons_self hg hm hk hb ha hdb he hpl
end
end XR
namespace XR
open PySem L2
theorem cong_ts {X : Cx} {ss : List Stmt} {t t' : TS} (h : PSs X ss t) (e : t = t') : PSs X ss t' := e ▸ h
end XR
namespace XR
open PySem L2
theorem kitAny_cons {K : PySem.W.Frag} {t c : Value} {r : List Value} (h : PySem.W.kitOne K t c = some false) (hr : PySem.W.kitAny K t r = some false) : PySem.W.kitAny K t (c :: r) = some false := by
  unfold PySem.W.kitAny
  rw [h]
  exact hr
theorem kitAny_4 {K : PySem.W.Frag} {t a b c d : Value} (h1 : PySem.W.kitOne K t a = some false) (h2 : PySem.W.kitOne K t b = some false) (h3 : PySem.W.kitOne K t c = some false) (h4 : PySem.W.kitOne K t d = some false) : PySem.W.kitAny K t [a, b, c, d] = some false :=
  kitAny_cons h1 (kitAny_cons h2 (kitAny_cons h3 (kitAny_cons h4 rfl)))
end XR
namespace XR
open PySem L2
/-- .. in a comprehension's block -/
theorem ix_listb {X : Cx} {s : Shared} {H : Hp} {sc : Scope} {ce : Env} {fp : List Addr} : IxR (X.blk s H sc ce fp) (rIxL X.K) := ix_list
theorem ix_tupb {X : Cx} {s : Shared} {H : Hp} {sc : Scope} {ce : Env} {fp : List Addr} : IxR (X.blk s H sc ce fp) (rIxT X.K) := ix_tup
end XR
namespace XR
open PySem PySem.Spec PyProof.Rows L2
structure CStat (K : PySem.W.Frag) (C p g : Addr) (m : Str) : Prop where
  rd : PySem.W.readsIn K C (.type "type") = true
  ga : PySem.W.specialIn K (.ref C) "__getattribute__" = some (some (.builtin "type.__getattribute__"))
  at_ : PySem.W.findCls K (.ref C) (.type "type") m = some (.get (.builtin "staticmethod.__get__") (.ref p) .none (.ref C))
  rc : ∃ rest, PySem.W.recIn K p "staticmethod" = some (.ref g :: rest)
section
variable {X : Cx} {pins : List (Addr × Obj)} {σ : L2.St} {H : Hp} {s : Shared} {C p g : Addr} {m : Str} {A : Around} {E : Value → Shared → Prop}
theorem getstat_ok {pl : Sem Bool} {Q : Value × List Value → Shared → Prop} (I : Inv X pins σ H s) (r : CStat X.K C p g m) (h : ∀ s', Inv X pins σ H s' → Q (.ref g, []) s') : wpAny (model X.prog X.w) A (getMethod (.ref C) m pl) Q E s := by
  obtain ⟨rest, hp⟩ := r.rc
  exact PySem.W.method_cls I.kIn r.ga (PySem.W.cls_bind I.kIn r.rd r.at_ (wpAny_call (PySem.W.sm_get (s := { s with toks := s.toks + 1 }) I.kIn hp (PySem.W.handed_on rfl (h _ (I.tok _))))))
end
/-- C.m(..), m a staticmethod; E told at the caller's slots -/
def tStat (C : Addr) (sp : Sp) (E : L2.St → XK) (ta : TE) (t : TA) : TE := fun σ H Q => ta σ H fun x H1 => x = .ref C ∧ t σ H1 fun vs H2 => sp vs H2 Q (E σ)
section
variable {X : Cx} {CX : CXT} {k : Nat} {C p g : Addr} {fd : FuncData} {ps : List Str} {sp : Sp} {ES : L2.St → XK} {o e : Expr} {es : List Expr} {m : Str} {pos apos : Pos} {ta : TE} {t : TA} {pl : Sem Bool}
theorem pe_stat (he : PE X o ta) (r : CStat X.K C p g m) (F : FnOk X.prog X.w X.K X.mg X.base CX k g fd ps sp) (hr : Room k X.A) (hk : PySem.W.keepIn X.K (.ref g) = true) (hb : Binds X.K fd ps []) (hx : ∀ σ, PassesAt CX X σ (ES σ)) (ha : PA X (e :: es) t)
    (hst : starEach (e :: es) X.env = (false, eval e X.env) :: starEach es X.env := by rfl) (hpl : (backTo pos (starEach es X.env)).any (·.1) = false := by rfl)
    (ht : eval (.Call (.Attribute o m apos) (e :: es) [] pos) X.env = (do
      let ov ← eval o X.env
      standAt apos.atName
      let (f, first) ← holding [ov] (getMethod ov m pl)
      callWith pos f first (backTo pos (starEach (e :: es) X.env)) (backToKw pos (keywordEach [] X.env))) := by rfl) :
    PE X (.Call (.Attribute o m apos) (e :: es) [] pos) (tStat C sp ES ta t) := by
  refine ⟨fun pins s σ H Q I h => ?_⟩
  refine PySem.W.methodCall_KW (pl := pl) (thn (he.run pins s σ H _ I h) fun u s1 ⟨x, H1, I1, rx, ex, q⟩ => ?_) ht
  subst ex
  obtain rfl : u = Value.ref C := rx
  refine getstat_ok I1 r fun s2 I2 => ?_
  refine PySem.W.callWith_K (h₀ := X.base) I.ok.mod.kin hk (thn (ha.run pos _ s2 σ H1 _ I2 q) fun us s3 ⟨vs, H2, I3, rv, q2⟩ => ⟨I3.kIn, ?_⟩) hst hpl
  exact run_at F hr rfl hb (hx σ) I3 rv q2
theorem pe_stat0 (he : PE X o ta) (r : CStat X.K C p g m) (F : FnOk X.prog X.w X.K X.mg X.base CX k g fd ps sp) (hr : Room k X.A) (hk : PySem.W.keepIn X.K (.ref g) = true) (hb : Binds X.K fd ps []) (hx : ∀ σ, PassesAt CX X σ (ES σ))
    (ht : eval (.Call (.Attribute o m apos) [] [] pos) X.env = (do
      let ov ← eval o X.env
      standAt apos.atName
      let (f, first) ← holding [ov] (getMethod ov m pl)
      callWith pos f first (backTo pos (starEach [] X.env)) (backToKw pos (keywordEach [] X.env))) := by rfl) :
    PE X (.Call (.Attribute o m apos) [] [] pos) (tStat C sp ES ta tNil) := by
  refine ⟨fun pins s σ H Q I h => ?_⟩
  refine PySem.W.methodCall_KW (pl := pl) (thn (he.run pins s σ H _ I h) fun u s1 ⟨x, H1, I1, rx, ex, q⟩ => ?_) ht
  subst ex
  obtain rfl : u = Value.ref C := rx
  refine getstat_ok I1 r fun s2 I2 => ?_
  exact PySem.W.callWith_K0 I2.kIn hk (run_at (us := []) F hr rfl hb (hx σ) I2 .nil q)
end
end XR
namespace XR
open PySem L2
/-- turns over a range, whatever a turn does -/
theorem turn_range {lo : Int} {n : Nat} {H0 : Hp} {Qd : Hp → Prop} {Body : V → Hp → (Hp → Prop) → Prop} (Pv : Nat → Hp → Prop) (h0 : Pv 0 H0) (hs : ∀ i H, i < n → Pv i H → Body (.int (lo + i)) H (Pv (i + 1))) (hd : ∀ H, Pv n H → Qd H) :
    ∃ W : Nat → Nat → Hp → Prop, (∃ m, W 0 m H0) ∧ ∀ i m H, W i m H →
      ((Itr lo n).stop i H ∧ Qd H) ∨ ((Itr lo n).go i H ∧ ∃ Nx : Hp → Prop, (∀ H', Nx H' → ∃ m', m' < m ∧ W (i + 1) m' H') ∧ ∀ x H', (Itr lo n).yld i H x H' → Body x H' Nx) := by
  refine ⟨fun i m H => m = n - i ∧ i ≤ n ∧ Pv i H, ⟨n, by simp, Nat.zero_le _, h0⟩, ?_⟩
  rintro i m H ⟨rfl, hi, p⟩
  by_cases hlt : i < n
  · refine .inr ⟨hlt, Pv (i + 1), fun H' p' => ⟨n - (i + 1), by omega, rfl, hlt, p'⟩, fun x H' y => ?_⟩
    obtain ⟨e, y⟩ := y
    subst e y
    exact hs i _ hlt p
  · have e : i = n := by omega
    subst e
    exact .inl ⟨Nat.le_refl _, hd H p⟩
end XR
set_option Elab.async false
set_option linter.all false
set_option maxRecDepth 100000
set_option maxHeartbeats 4000000
/-! views: what is settled (G) within the heap (H); data by PyData -/
namespace XR
open PySem PySem.Spec PyProof.Rows L2
theorem SqL.same {K : PySem.W.Frag} {G H : Hp} {a : Addr} {xs : List V} (h : SqL K G a xs) (v : Same G H) : SqL K H a xs := Same.seq v h
theorem SqT.same {K : PySem.W.Frag} {G H : Hp} {a : Addr} {xs : List V} (h : SqT K G a xs) (v : Same G H) : SqT K H a xs := by
  rcases h with h | h
  · rcases h with h | ⟨o, h⟩
    · exact .inl (.inl (v _ _ h))
    · exact .inl (.inr ⟨o, v _ _ h⟩)
  · exact .inr h
mutual
theorem Dp.same {K : PySem.W.Frag} {G H : Hp} (v : Same G H) : ∀ {x : V} {d : PyData}, Dp K G x d → Dp K H x d
  | _, _, .non => .non
  | _, _, .bl b => .bl b
  | _, _, .int i => .int i
  | _, _, .str i => .str i
  | _, _, .lst s a => .lst (SqL.same s v) (DpAll.same v a)
  | _, _, .tup s a => .tup (SqT.same s v) (DpAll.same v a)
theorem DpAll.same {K : PySem.W.Frag} {G H : Hp} (v : Same G H) : ∀ {xs : List V} {ds : List PyData}, DpAll K G xs ds → DpAll K H xs ds
  | _, _, .nil => .nil
  | _, _, .cons a b => .cons (Dp.same v a) (DpAll.same v b)
end
theorem Dp.int_inv {K : PySem.W.Frag} {G : Hp} {x : V} {z : Int} (h : Dp K G x (.int z)) : x = .int z := by cases h; rfl
theorem Dp.bl_inv {K : PySem.W.Frag} {G : Hp} {x : V} {z : Bool} (h : Dp K G x (.bool z)) : x = .bl z := by cases h; rfl
theorem Dp.str_inv {K : PySem.W.Frag} {G : Hp} {x : V} {z : Str} (h : Dp K G x (.str z)) : x = .str z := by cases h; rfl
theorem Dp.non_inv {K : PySem.W.Frag} {G : Hp} {x : V} (h : Dp K G x .none) : x = .non := by cases h; rfl
theorem Dp.lst_inv {K : PySem.W.Frag} {G : Hp} {x : V} {ds : List PyData} (h : Dp K G x (.list ds)) : ∃ p xs, x = .ref p ∧ SqL K G p xs ∧ DpAll K G xs ds := by
  cases h with | lst s a => exact ⟨_, _, rfl, s, a⟩
theorem Dp.tup_inv {K : PySem.W.Frag} {G : Hp} {x : V} {ds : List PyData} (h : Dp K G x (.tuple ds)) : ∃ p xs, x = .ref p ∧ SqT K G p xs ∧ DpAll K G xs ds := by
  cases h with | tup s a => exact ⟨_, _, rfl, s, a⟩
theorem DpAll.length {K : PySem.W.Frag} {G : Hp} : ∀ {xs : List V} {ds : List PyData}, DpAll K G xs ds → xs.length = ds.length
  | _, _, .nil => rfl
  | _, _, .cons _ b => congrArg (· + 1) (DpAll.length b)
theorem DpAll.get {K : PySem.W.Frag} {G : Hp} : ∀ {xs : List V} {ds : List PyData} {i : Nat} {x : V}, DpAll K G xs ds → xs[i]? = some x → ∃ d, ds[i]? = some d ∧ Dp K G x d
  | _, _, _, _, .nil, e => by cases e
  | _, _, 0, _, .cons a _, e => by cases e; exact ⟨_, rfl, a⟩
  | _, _, i + 1, _, .cons _ b, e => DpAll.get (i := i) b e
theorem DpAll.get' {K : PySem.W.Frag} {G : Hp} : ∀ {xs : List V} {ds : List PyData} {i : Nat} {d : PyData}, DpAll K G xs ds → ds[i]? = some d → ∃ x, xs[i]? = some x ∧ Dp K G x d
  | _, _, _, _, .nil, e => by cases e
  | _, _, 0, _, .cons a _, e => by cases e; exact ⟨_, rfl, a⟩
  | _, _, i + 1, _, .cons _ b, e => DpAll.get' (i := i) b e
theorem DpAll.append {K : PySem.W.Frag} {G : Hp} {ys : List V} {es : List PyData} (q : DpAll K G ys es) : ∀ {xs : List V} {ds : List PyData}, DpAll K G xs ds → DpAll K G (xs ++ ys) (ds ++ es)
  | _, _, .nil => q
  | _, _, .cons a b => .cons a (DpAll.append q b)
theorem DpAll.snoc {K : PySem.W.Frag} {G : Hp} {xs : List V} {ds : List PyData} {y : V} {e : PyData} (p : DpAll K G xs ds) (q : Dp K G y e) : DpAll K G (xs ++ [y]) (ds ++ [e]) := DpAll.append (.cons q .nil) p
theorem DpAll.ints {K : PySem.W.Frag} {G : Hp} : ∀ {xs : List V} {ns : List Int}, DpAll K G xs (ns.map PyData.int) → xs = ns.map V.int
  | _, [], .nil => rfl
  | _, _ :: _, .cons a b => by rw [Dp.int_inv a, DpAll.ints b]; rfl
theorem DpAll.of_ints {K : PySem.W.Frag} {G : Hp} : ∀ (ns : List Int), DpAll K G (ns.map V.int) (ns.map PyData.int)
  | [] => .nil
  | n :: r => .cons (.int n) (DpAll.of_ints r)
/-- a pair of ints -/
abbrev pD : Int × Int → PyData := fun c => .tuple [.int c.1, .int c.2]
abbrev pDs (cs : List (Int × Int)) : List PyData := cs.map pD
theorem Dp.pair {K : PySem.W.Frag} {G : Hp} {x : V} {c : Int × Int} (h : Dp K G x (pD c)) : ∃ p, x = .ref p ∧ SqT K G p [.int c.1, .int c.2] := by
  obtain ⟨p, xs, rfl, s, a⟩ := Dp.tup_inv h
  cases a with | cons a1 a2 =>
  cases a2 with | cons b1 b2 =>
  cases b2
  rw [Dp.int_inv a1, Dp.int_inv b1] at s
  exact ⟨p, rfl, s⟩
theorem Dp.mk_pair {K : PySem.W.Frag} {G : Hp} {p : Addr} {a b : Int} (h : SqT K G p [.int a, .int b]) : Dp K G (.ref p) (pD (a, b)) := .tup h (.cons (.int a) (.cons (.int b) .nil))
theorem pairs_get {K : PySem.W.Frag} {G : Hp} {xs : List V} {cs : List (Int × Int)} {i : Nat} {x : V} (h : DpAll K G xs (pDs cs)) (e : xs[i]? = some x) : ∃ c p, cs[i]? = some c ∧ x = .ref p ∧ SqT K G p [.int c.1, .int c.2] ∧ Dp K G (.ref p) (pD c) := by
  obtain ⟨d, hd, q⟩ := DpAll.get h e
  rw [List.getElem?_map] at hd
  cases ec : cs[i]? with
  | none => rw [ec] at hd; cases hd
  | some c =>
    rw [ec] at hd
    cases hd
    obtain ⟨p, rfl, s⟩ := Dp.pair q
    exact ⟨c, p, rfl, rfl, s, q⟩
theorem pairs_at {K : PySem.W.Frag} {G : Hp} {xs : List V} {cs : List (Int × Int)} {i : Nat} {c : Int × Int} (h : DpAll K G xs (pDs cs)) (e : cs[i]? = some c) : ∃ p, xs[i]? = some (.ref p) ∧ SqT K G p [.int c.1, .int c.2] ∧ Dp K G (.ref p) (pD c) := by
  obtain ⟨x, hx, q⟩ := DpAll.get' (i := i) (d := pD c) h (by rw [List.getElem?_map, e]; rfl)
  obtain ⟨p, rfl, s⟩ := Dp.pair q
  exact ⟨p, hx, s, q⟩
/-! ### steps -/
/-- from (G, H) to (G', H'): nothing changes, what is new in the view is new -/
structure Step (G H G' H' : Hp) : Prop where
  vw : Same G' H'
  gg : Same G G'
  hh : Same H H'
  fr : ∀ a, H a ≠ none → G a = none → G' a = none
theorem Step.refl {G H : Hp} (v : Same G H) : Step G H G H := ⟨v, Same.refl _, Same.refl _, fun _ _ e => e⟩
theorem Same.some {H H' : Hp} {a : Addr} (x : Same H H') (h : H a ≠ none) : H' a ≠ none := fun e => h (Same.free x e)
theorem Step.trans {G H G1 H1 G2 H2 : Hp} (a : Step G H G1 H1) (b : Step G1 H1 G2 H2) : Step G H G2 H2 :=
  ⟨b.vw, a.gg.trans b.gg, a.hh.trans b.hh, fun p h e => b.fr p (Same.some a.hh h) (a.fr p h e)⟩
theorem Step.same {G H H' : Hp} (v : Same G H) (x : Same H H') : Step G H G H' := ⟨v.trans x, Same.refl _, x, fun _ _ e => e⟩
theorem Step.more {G H G1 H1 H2 : Hp} (a : Step G H G1 H1) (x : Same H1 H2) : Step G H G1 H2 := a.trans (Step.same a.vw x)
theorem Same.upd2 {G H : Hp} {p : Addr} {o : HO} (v : Same G H) : Same (upd G p o) (upd H p o) := fun q u e => by
  by_cases z : q = p
  · subst z
    rw [upd_same] at e
    rw [upd_same]
    exact e
  · rw [upd_ne z] at e
    rw [upd_ne z]
    exact v _ _ e
theorem Same.add {H : Hp} {p : Addr} {o : HO} (h : H p = none) : Same H (upd H p o) := fun q u e => by rw [upd_ne (ne_of_none e h)]; exact e
theorem fr_add {G H : Hp} {p : Addr} {o : HO} (h : H p = none) : ∀ a, H a ≠ none → G a = none → (upd G p o) a = none := fun a ha e => by
  rw [upd_ne (fun z => ha (by rw [z]; exact h))]
  exact e
/-- a new settled object -/
theorem Step.new {G H : Hp} {p : Addr} {o : HO} (v : Same G H) (h : H p = none) : Step G H (upd G p o) (upd H p o) :=
  ⟨Same.upd2 v, Same.add (Same.free v h), Same.add h, fr_add h⟩
/-- .. made by a callee -/
theorem Step.lift {G H H' : Hp} {p : Addr} {o : HO} (v : Same G H) (h : H p = none) (x : Same H H') (e : H' p = some o) : Step G H (upd G p o) H' :=
  ⟨fun q u z => by
    by_cases n : q = p
    · subst n
      rw [upd_same] at z
      exact e.trans z
    · rw [upd_ne n] at z
      exact x _ _ (v _ _ z), Same.add (Same.free v h), x, fr_add h⟩
/-- a new object that may still change -/
theorem Step.mut {G H : Hp} {p : Addr} {o : HO} (v : Same G H) (h : H p = none) : Step G H G (upd H p o) := Step.same v (Same.add h)
/-- .. changed -/
theorem Step.upd {G H G' H' : Hp} {l : Addr} {o : HO} (s : Step G H G' H') (h : H l = none) (g : G' l = none) : Step G H G' (upd H' l o) :=
  ⟨fun q u e => by rw [upd_ne (ne_of_none e g)]; exact s.vw _ _ e, s.gg, fun q u e => by rw [upd_ne (ne_of_none e h)]; exact s.hh _ _ e, s.fr⟩
/-- .. settled -/
theorem Step.freeze {G H G' H' : Hp} {l : Addr} {o : HO} (s : Step G H G' H') (h : H l = none) (g : G' l = none) (e : H' l = some o) : Step G H (L2.upd G' l o) H' :=
  ⟨fun q u z => by
    by_cases n : q = l
    · subst n
      rw [L2.upd_same] at z
      exact e.trans z
    · rw [upd_ne n] at z
      exact s.vw _ _ z, s.gg.trans (Same.add g), s.hh, fun a ha ea => by rw [upd_ne (fun z => ha (by rw [z]; exact h))]; exact s.fr a ha ea⟩
/-- a list that grows -/
structure Grow (K : PySem.W.Frag) (G H : Hp) (l : Addr) (out : List PyData) (G' H' : Hp) (acc : List V) : Prop where
  st : XR.Step G H G' H'
  nl : H l = none
  gl : G' l = none
  el : H' l = some (.lst acc)
  ds : DpAll K G' acc out
/-- .. somehow -/
def LcI (K : PySem.W.Frag) (G H : Hp) (l : Addr) (out : List PyData) (H' : Hp) : Prop := ∃ G' acc, Grow K G H l out G' H' acc
section
variable {K : PySem.W.Frag} {G H G' H' G1 H1 : Hp} {l : Addr} {out : List PyData} {acc : List V}
theorem Grow.start (v : Same G H) (h : H l = none) : Grow K G H l [] G (upd H l (.lst [])) [] := ⟨Step.mut v h, h, Same.free v h, upd_same, .nil⟩
theorem LcI.start (v : Same G H) (h : H l = none) : LcI K G H l [] (upd H l (.lst [])) := ⟨_, _, Grow.start v h⟩
theorem Grow.len (g : Grow K G H l out G' H' acc) : acc.length = out.length := XR.DpAll.length g.ds
theorem Grow.step (g : Grow K G H l out G' H' acc) (s : Step G' H' G1 H1) : Grow K G H l out G1 H1 acc :=
  ⟨g.st.trans s, g.nl, s.fr _ (by rw [g.el]; exact fun z => by cases z) g.gl, s.hh _ _ g.el, DpAll.same s.gg g.ds⟩
theorem Grow.add (g : Grow K G H l out G' H' acc) {v : V} {d : PyData} (q : Dp K G' v d) : Grow K G H l (out ++ [d]) G' (upd H' l (.lst (acc ++ [v]))) (acc ++ [v]) :=
  ⟨g.st.upd g.nl g.gl, g.nl, g.gl, upd_same, DpAll.snoc g.ds q⟩
/-- a comprehension's turn that adds -/
theorem Grow.push (g : Grow K G H l out G' H' acc) {v : V} {d : PyData} (q : Dp K G' v d) (hl : out.length < sizeLine) :
    ∃ acc, H' l = some (.lst acc) ∧ acc.length < sizeLine ∧ LcI K G H l (out ++ [d]) (upd H' l (.lst (acc ++ [v]))) :=
  ⟨acc, g.el, by rw [g.len]; exact hl, _, _, g.add q⟩
/-- the list is settled -/
theorem Grow.freeze (g : Grow K G H l out G' H' acc) : Step G H (upd G' l (.lst acc)) H' ∧ Dp K (upd G' l (.lst acc)) (.ref l) (.list out) :=
  ⟨g.st.freeze g.nl g.gl g.el, .lst (SqL.of upd_same) (DpAll.same (Same.add g.gl) g.ds)⟩
end
/-! ### steps with one object b that changes (a law's box) -/
structure StB (b : Addr) (G H G' H' : Hp) : Prop where
  vw : Same G' H'
  gg : Same G G'
  gb : G' b = none
  hh : ExB b H H'
section
variable {K : PySem.W.Frag} {b p l : Addr} {G H G1 H1 G2 H2 : Hp} {o : HO} {out : List PyData} {acc : List V}
theorem StB.refl (v : Same G H) (g : G b = none) : StB b G H G H := ⟨v, Same.refl _, g, ExB.refl⟩
theorem StB.trans (s : StB b G H G1 H1) (t : StB b G1 H1 G2 H2) : StB b G H G2 H2 := ⟨t.vw, s.gg.trans t.gg, t.gb, s.hh.trans t.hh⟩
theorem StB.draw (s : StB b G H G1 H1) (x : ExB b H1 H2) : StB b G H G1 H2 :=
  ⟨fun a u e => x a u (fun z => by rw [z, s.gb] at e; cases e) (s.vw a u e), s.gg, s.gb, s.hh.trans x⟩
theorem StB.new (s : StB b G H G1 H1) (h : H1 p = none) (n : p ≠ b) : StB b G H (upd G1 p o) (upd H1 p o) :=
  ⟨Same.upd2 s.vw, s.gg.trans (Same.add (Same.free s.vw h)), by rw [upd_ne n.symm]; exact s.gb, s.hh.new h⟩
theorem StB.mut (s : StB b G H G1 H1) (h : H1 p = none) : StB b G H G1 (upd H1 p o) := ⟨s.vw.trans (Same.add h), s.gg, s.gb, s.hh.new h⟩
theorem StB.upd (s : StB b G H G1 H1) (h : H p = none) (g : G1 p = none) : StB b G H G1 (L2.upd H1 p o) :=
  ⟨fun q u e => by rw [upd_ne (ne_of_none e g)]; exact s.vw _ _ e, s.gg, s.gb, fun q u n e => by rw [upd_ne (ne_of_none e h)]; exact s.hh _ _ n e⟩
theorem StB.step (s : StB b G H G1 H1) (hb : H1 b ≠ none) (t : Step G1 H1 G2 H2) : StB b G H G2 H2 := ⟨t.vw, s.gg.trans t.gg, t.fr _ hb s.gb, s.hh.same t.hh⟩
theorem StB.same (s : StB b G H G1 H1) (t : Same H1 H2) : StB b G H G1 H2 := ⟨s.vw.trans t, s.gg, s.gb, s.hh.same t⟩
theorem StB.freeze (s : StB b G H G1 H1) (n : p ≠ b) (g : G1 p = none) (e : H1 p = some o) : StB b G H (L2.upd G1 p o) H1 :=
  ⟨fun q u z => by
    by_cases n : q = p
    · subst n
      rw [upd_same] at z
      exact e.trans z
    · rw [upd_ne n] at z
      exact s.vw _ _ z, s.gg.trans (Same.add g), by rw [upd_ne n.symm]; exact s.gb, s.hh⟩
/-- a list that grows between the draws -/
structure GrowB (K : PySem.W.Frag) (b : Addr) (G H : Hp) (l : Addr) (out : List PyData) (G' H' : Hp) (acc : List V) : Prop where
  st : StB b G H G' H'
  nl : H l = none
  lb : l ≠ b
  gl : G' l = none
  el : H' l = some (.lst acc)
  ds : DpAll K G' acc out
theorem GrowB.start (s : StB b G H G H) (h : H p = none) (n : p ≠ b) : GrowB K b G H p [] G (L2.upd H p (.lst [])) [] := ⟨s.mut h, h, n, Same.free s.vw h, upd_same, .nil⟩
theorem GrowB.draw (g : GrowB K b G H l out G1 H1 acc) (x : ExB b H1 H2) : GrowB K b G H l out G1 H2 acc := ⟨g.st.draw x, g.nl, g.lb, g.gl, x _ _ g.lb g.el, g.ds⟩
theorem GrowB.new (g : GrowB K b G H l out G1 H1 acc) (h : H1 p = none) (n : p ≠ b) : GrowB K b G H l out (L2.upd G1 p o) (L2.upd H1 p o) acc :=
  have np : l ≠ p := ne_of_none g.el h
  ⟨g.st.new h n, g.nl, g.lb, by rw [upd_ne np]; exact g.gl, by rw [upd_ne np]; exact g.el, DpAll.same (Same.add (Same.free g.st.vw h)) g.ds⟩
theorem GrowB.mut (g : GrowB K b G H l out G1 H1 acc) (h : H1 p = none) : GrowB K b G H l out G1 (L2.upd H1 p o) acc :=
  have np : l ≠ p := ne_of_none g.el h
  ⟨g.st.mut h, g.nl, g.lb, g.gl, by rw [upd_ne np]; exact g.el, g.ds⟩
theorem GrowB.step (g : GrowB K b G H l out G1 H1 acc) (hb : H1 b ≠ none) (t : XR.Step G1 H1 G2 H2) : GrowB K b G H l out G2 H2 acc :=
  ⟨g.st.step hb t, g.nl, g.lb, t.fr _ (by rw [g.el]; exact fun z => by cases z) g.gl, t.hh _ _ g.el, DpAll.same t.gg g.ds⟩
theorem GrowB.add (g : GrowB K b G H l out G1 H1 acc) {v : V} {d : PyData} (q : Dp K G1 v d) : GrowB K b G H l (out ++ [d]) G1 (L2.upd H1 l (.lst (acc ++ [v]))) (acc ++ [v]) :=
  ⟨g.st.upd g.nl g.gl, g.nl, g.lb, g.gl, upd_same, DpAll.snoc g.ds q⟩
theorem GrowB.len (g : GrowB K b G H l out G1 H1 acc) : acc.length = out.length := XR.DpAll.length g.ds
theorem GrowB.freeze (g : GrowB K b G H l out G1 H1 acc) : StB b G H (L2.upd G1 l (.lst acc)) H1 ∧ Dp K (L2.upd G1 l (.lst acc)) (.ref l) (.list out) :=
  ⟨g.st.freeze g.lb g.gl g.el, .lst (SqL.of upd_same) (DpAll.same (Same.add g.gl) g.ds)⟩
end
/-! ### options -/
def oV : Option Int → V
  | none => .non
  | some z => .int z
def oD : Option Int → PyData
  | none => .none
  | some z => .int z
theorem DpAll.opts {K : PySem.W.Frag} {G : Hp} : ∀ (ns : List (Option Int)), DpAll K G (ns.map oV) (ns.map oD)
  | [] => .nil
  | none :: r => .cons .non (DpAll.opts r)
  | some n :: r => .cons (.int n) (DpAll.opts r)
theorem DpAll.opts_inv {K : PySem.W.Frag} {G : Hp} : ∀ {xs : List V} {ns : List (Option Int)}, DpAll K G xs (ns.map oD) → xs = ns.map oV
  | _, [], .nil => rfl
  | _, none :: _, .cons a b => by rw [Dp.non_inv a, DpAll.opts_inv b]; rfl
  | _, some _ :: _, .cons a b => by rw [Dp.int_inv a, DpAll.opts_inv b]; rfl
section
variable {K : PySem.W.Frag} {G H G' H' : Hp} {l : Addr} {acc : List V} {out : List PyData} {α : Type} {cs : List α} {i : Nat} {c : α} {v : V} {d : PyData}
theorem LcI.vw (h : LcI K G H l out H') : Same G H' := let ⟨_, _, g⟩ := h; g.st.gg.trans g.st.vw
theorem LcI.hh (h : LcI K G H l out H') : Same H H' := let ⟨_, _, g⟩ := h; g.st.hh
theorem Grow.vv (g : Grow K G H l out G' H' acc) : Same G H' := g.st.gg.trans g.st.vw
theorem LcI.start_map {f : α → PyData} (v : Same G H) (h : H l = none) : LcI K G H l ((cs.take 0).map f) (upd H l (.lst [])) := LcI.start v h
theorem LcI.start_fm {f : α → Option PyData} (v : Same G H) (h : H l = none) : LcI K G H l ((cs.take 0).filterMap f) (upd H l (.lst [])) := LcI.start v h
theorem Grow.push_map {f : α → PyData} (g : Grow K G H l ((cs.take i).map f) G' H' acc) (hc : cs[i]? = some c) (q : Dp K G' v (f c)) (hl : cs.length ≤ 1000000) :
    ∃ acc, H' l = some (.lst acc) ∧ acc.length < sizeLine ∧ LcI K G H l ((cs.take (i + 1)).map f) (upd H' l (.lst (acc ++ [v]))) := by
  rw [take_one hc, List.map_append]
  refine g.push q ?_
  rw [List.length_map, List.length_take, sizeLine_eq]
  omega
theorem Grow.push_some {f : α → Option PyData} (g : Grow K G H l ((cs.take i).filterMap f) G' H' acc) (hc : cs[i]? = some c) (e : f c = some d) (q : Dp K G' v d) (hl : cs.length ≤ 1000000) :
    ∃ acc, H' l = some (.lst acc) ∧ acc.length < sizeLine ∧ LcI K G H l ((cs.take (i + 1)).filterMap f) (upd H' l (.lst (acc ++ [v]))) := by
  have e2 : (cs.take (i + 1)).filterMap f = (cs.take i).filterMap f ++ [d] := by rw [take_one hc, List.filterMap_append]; simp [e]
  rw [e2]
  refine g.push q ?_
  have := List.length_filterMap_le f (cs.take i)
  rw [List.length_take] at this
  rw [sizeLine_eq]
  omega
theorem Grow.push_none {f : α → Option PyData} (g : Grow K G H l ((cs.take i).filterMap f) G' H' acc) (hc : cs[i]? = some c) (e : f c = none) : LcI K G H l ((cs.take (i + 1)).filterMap f) H' := by
  have e2 : (cs.take (i + 1)).filterMap f = (cs.take i).filterMap f := by rw [take_one hc, List.filterMap_append]; simp [e]
  rw [e2]
  exact ⟨_, _, g⟩
theorem LcI.all_map {f : α → PyData} {n : Nat} (h : LcI K G H l ((cs.take n).map f) H') (e : cs.length ≤ n) : ∃ G' acc, Grow K G H l (cs.map f) G' H' acc := by
  rw [List.take_of_length_le e] at h
  exact h
theorem LcI.all_fm {f : α → Option PyData} {n : Nat} (h : LcI K G H l ((cs.take n).filterMap f) H') (e : cs.length ≤ n) : ∃ G' acc, Grow K G H l (cs.filterMap f) G' H' acc := by
  rw [List.take_of_length_le e] at h
  exact h
end
theorem at0 {α : Type} {x : α} {xs : List α} : atI (x :: xs) 0 = some x := atI_nat (j := 0) rfl
theorem at1 {α : Type} {x y : α} {xs : List α} : atI (x :: y :: xs) 1 = some y := atI_nat (j := 1) rfl
theorem ix_seqb {X : Cx} {s : Shared} {H : Hp} {sc : Scope} {ce : Env} {fp : List Addr} : IxR (X.blk s H sc ce fp) (rIx X.K) := ix_seq
theorem ints_at {P : Int → Prop} (ns : List Int) {i : Int} (h0 : 0 ≤ i) (h : i < (ns.length : Int)) (p : ∀ n ∈ ns, P n) : ∃ z, atI (ns.map V.int) i = some (.int z) ∧ P z := by
  have hl : i.toNat < ns.length := by omega
  refine ⟨ns[i.toNat], at_of (j := i.toNat) (by omega) ?_, p _ (List.getElem_mem hl)⟩
  rw [List.getElem?_map, List.getElem?_eq_getElem hl] <;> rfl
theorem GrowB.base {K : PySem.W.Frag} {b l : Addr} {G0 H0 G H G1 H1 : Hp} {out : List PyData} {acc : List V} (s : StB b G0 H0 G H) (g : GrowB K b G H l out G1 H1 acc) : GrowB K b G0 H0 l out G1 H1 acc :=
  ⟨s.trans g.st, none_backB s.hh g.lb g.nl, g.lb, g.gl, g.el, g.ds⟩
theorem tyT {K : PySem.W.Frag} {H : Hp} {a : Addr} {xs : List V} (h : SqT K H a xs) : TyX K H (.ref a) (.type "tuple") := by
  rcases h with (h | ⟨o, h⟩) | ⟨o, its, n, e, c, _⟩
  · exact .base (.tup h)
  · exact .fTuple h
  · exact .kTuple e c
theorem tyL {K : PySem.W.Frag} {H : Hp} {a : Addr} {xs : List V} (h : SqL K H a xs) : TyX K H (.ref a) (.type "list") := by
  rcases h with (h | ⟨o, h⟩) | ⟨o, its, n, e, c, _⟩
  · exact .base (.lst h)
  · exact .base (.frz h)
  · exact .kList e c
theorem pairs_can : ∀ cs : List (Int × Int), PyData.canLayAll0 (pDs cs) = true
  | [] => rfl
  | _ :: r => by
    show (PyData.canLay0 _ && PyData.canLayAll0 (pDs r)) = true
    rw [pairs_can r]
    rfl
theorem pairs_eqv : ∀ cs : List (Int × Int), PyData.eqvAll (pDs cs) (pDs cs) = true
  | [] => rfl
  | c :: r => by
    show (PyData.eqv (pD c) (pD c) && PyData.eqvAll (pDs r) (pDs r)) = true
    rw [pairs_eqv r]
    simp [PyData.eqv, PyData.eqvAll]
theorem pairs_depth : ∀ cs : List (Int × Int), PyData.depthAll (pDs cs) ≤ 8
  | [] => by decide
  | c :: r => by
    have := pairs_depth r
    show max (PyData.depth (pD c)) (PyData.depthAll (pDs r)) ≤ 8
    have h : PyData.depth (pD c) ≤ 8 := by simp [PyData.depth, PyData.depthAll]
    omega
theorem shaped_pDs (cs : List (Int × Int)) : SeqAt.shaped (.list (pDs cs)) = true := by
  show (PyData.canLayAll0 (pDs cs) && decide (PyData.depthAll (pDs cs) + 1 ≤ 64)) = true
  rw [pairs_can]
  have := pairs_depth cs
  simp
  omega
theorem eqv_pDs (cs : List (Int × Int)) : PyData.eqv (.list (pDs cs)) (.list (pDs cs)) = true := pairs_eqv cs
theorem eqv_nil (cs : List (Int × Int)) : PyData.eqv (.list (pDs cs)) (.list []) = decide (cs = []) := by
  cases cs with
  | nil => rfl
  | cons c r => rfl
theorem same_nil {H : Hp} : Same (fun _ => none) H := fun _ _ e => by cases e
theorem snoc_inj {α : Type} {I J : List α} {x y : α} (h : I ++ [x] = J ++ [y]) : I = J ∧ x = y := by
  have := List.append_inj' h rfl
  exact ⟨this.1, by simpa using this.2⟩
theorem DpAll.snoc_inv {K : PySem.W.Frag} {G : Hp} {d : PyData} : ∀ {ds : List PyData} {xs : List V}, DpAll K G xs (ds ++ [d]) → ∃ ys y, xs = ys ++ [y] ∧ DpAll K G ys ds ∧ Dp K G y d
  | [], _, .cons a .nil => ⟨[], _, rfl, .nil, a⟩
  | _ :: r, _, .cons a b => by
    obtain ⟨ys, y, rfl, q, z⟩ := DpAll.snoc_inv (ds := r) b
    exact ⟨_ :: ys, y, rfl, .cons a q, z⟩
theorem ixN_last {α : Type} (xs : List α) (v : α) : ixN (xs ++ [v]).length (-1) = some xs.length := by
  unfold ixN
  rw [if_neg (by decide), if_pos (by rw [List.length_append]; simp; omega), List.length_append]
  congr 1
  simp
  omega
theorem set_last {α : Type} (xs : List α) (v w : α) : (xs ++ [v]).set xs.length w = xs ++ [w] := by
  rw [List.set_append_right _ _ (Nat.le_refl _), Nat.sub_self]
  rfl
section
variable {K : PySem.W.Frag} {G H G' H' : Hp} {l : Addr} {out : List PyData} {acc : List V} {d e : PyData} {v : V}
/-- the list's last item is set -/
theorem Grow.setLast (g : Grow K G H l (out ++ [d]) G' H' acc) (q : Dp K G' v e) : ∃ j, ixN acc.length (-1) = some j ∧ Grow K G H l (out ++ [e]) G' (L2.upd H' l (.lst (acc.set j v))) (acc.set j v) := by
  obtain ⟨ys, y, rfl, a, b⟩ := DpAll.snoc_inv g.ds
  refine ⟨ys.length, ixN_last _ _, ?_⟩
  rw [set_last]
  exact ⟨g.st.upd g.nl g.gl, g.nl, g.gl, upd_same, DpAll.snoc a q⟩
end
theorem op_in_seqb {X : Cx} {s : Shared} {H : Hp} {sc : Scope} {ce : Env} {fp : List Addr} : OpR (X.blk s H sc ce fp) (compareOp .In) (rIn X.K false) := op_in_seq
theorem op_notIn_seqb {X : Cx} {s : Shared} {H : Hp} {sc : Scope} {ce : Env} {fp : List Addr} : OpR (X.blk s H sc ce fp) (compareOp .NotIn) (rIn X.K true) := op_notIn_seq
theorem inV_ints (z : Int) : ∀ ns : List Int, inV (.int z) (ns.map V.int) = decide (z ∈ ns)
  | [] => rfl
  | n :: r => by
    have ih := inV_ints z r
    unfold inV at *
    rw [List.map_cons, List.any_cons, ih, Bool.eq_iff_iff]
    have e : eqV (.int n) (.int z) = decide (n = z) := by
      show (n == z) = decide (n = z)
      rw [Bool.eq_iff_iff]
      simp
    rw [e]
    simp only [Bool.or_eq_true, decide_eq_true_eq, List.mem_cons]
    exact or_congr_left ⟨Eq.symm, Eq.symm⟩
theorem flat_ints : ∀ ns : List Int, (ns.map V.int).all flatV = true
  | [] => rfl
  | _ :: r => by
    rw [List.map_cons, List.all_cons, flat_ints r]
    rfl
theorem ints_can : ∀ ns : List Int, PyData.canLayAll0 (ns.map PyData.int) = true
  | [] => rfl
  | _ :: r => by
    show (PyData.canLay0 _ && PyData.canLayAll0 (r.map PyData.int)) = true
    rw [ints_can r]
    rfl
theorem ints_depth : ∀ ns : List Int, PyData.depthAll (ns.map PyData.int) ≤ 8
  | [] => by decide
  | c :: r => by
    have := ints_depth r
    show max (PyData.depth (.int c)) (PyData.depthAll (r.map PyData.int)) ≤ 8
    have h : PyData.depth (.int c) ≤ 8 := by simp [PyData.depth]
    omega
theorem shaped_ints (ns : List Int) : SeqAt.shaped (.list (ns.map PyData.int)) = true := by
  show (PyData.canLayAll0 (ns.map PyData.int) && decide (PyData.depthAll (ns.map PyData.int) + 1 ≤ 64)) = true
  rw [ints_can]
  have := ints_depth ns
  simp
  omega
theorem eqv_ints : ∀ ns : List Int, PyData.eqv (.list (ns.map PyData.int)) (.list (ns.map PyData.int)) = true := by
  have h : ∀ ns : List Int, PyData.eqvAll (ns.map PyData.int) (ns.map PyData.int) = true := fun ns => by
    induction ns with
    | nil => rfl
    | cons c r ih =>
      show (PyData.eqv (.int c) (.int c) && PyData.eqvAll (r.map PyData.int) (r.map PyData.int)) = true
      rw [ih]
      simp [PyData.eqv]
  exact h
theorem eqv_empty (ds : List PyData) : PyData.eqv (.list ds) (.list []) = ds.isEmpty := by
  cases ds <;> rfl
end XR
set_option Elab.async false
set_option linter.all false
set_option maxRecDepth 100000
set_option maxHeartbeats 4000000
/-! walks over a list or a tuple, also in enumerate and zip -/
namespace XR
open PySem PySem.Spec PyProof.Rows L2
/-- a list (k) or a tuple -/
def SqK (K : PySem.W.Frag) (k : Bool) (H : Hp) (a : Addr) (xs : List V) : Prop := if k then SqL K H a xs else SqT K H a xs
def IsSq (k : Bool) (h : Heap) (a : Addr) (items : Array Value) : Prop := if k then h.IsList a items else h.IsTuple a items
def IsSqIter (k : Bool) (h : Heap) (it a : Addr) (i : Nat) : Prop := if k then h.IsListIter it a i else h.IsTupleIter it a i
def sqObj (k : Bool) (a : Addr) : Obj := if k then { cls := .type "list_iterator", data := .fields #[.ref a, .int 0 0] } else { cls := .type "tuple_iterator", data := .fields #[.ref a, .int 0 0] }
theorem SqK.same {K : PySem.W.Frag} {k : Bool} {G H : Hp} {a : Addr} {xs : List V} (h : SqK K k G a xs) (v : Same G H) : SqK K k H a xs := by
  cases k
  · exact SqT.same h v
  · exact SqL.same h v
theorem draws_sq {prog : Program} {w : World} {A : Around} (hh : A.handled = none) (k : Bool) (it a : Addr) (hne : a ≠ it) (items : Array Value) :
    Draws prog w A it [it, a] items.size (fun i v => items[i]? = some v) (fun i h => IsSqIter k h it a i ∧ IsSq k h a items) := by
  cases k
  · exact Draws.tuple hh it a hne items
  · exact Draws.list hh it a hne items
theorem begins_sq (k : Bool) (a : Addr) (items : Array Value) : Begins (.ref a) (sqObj k a) fun h => IsSq k h a items := by
  cases k
  · exact begins_tuple a items
  · exact begins_list a items
theorem iter_at {k : Bool} {h : Heap} {it a : Addr} {i : Nat} (st : IsSqIter k h it a i) : ∃ (o : Obj) (fs : Array Value), h.get? it = some o ∧ o.data = .fields fs := by
  cases k <;> exact (let ⟨o, e, _, d⟩ := st; ⟨o, _, e, d⟩)
theorem iter_keep {k : Bool} {h h' : Heap} {it a : Addr} {i : Nat} (st : IsSqIter k h it a i) (c : ∀ o, h.get? it = some o → h'.get? it = some o) : IsSqIter k h' it a i := by
  cases k <;> exact (let ⟨o, e, r⟩ := st; ⟨o, c o e, r⟩)
theorem iter_new {k : Bool} {h : Heap} {it a : Addr} (e : h.get? it = some (sqObj k a)) : IsSqIter k h it a 0 := by
  cases k <;> exact ⟨_, e, rfl, rfl⟩
theorem sq_at {k : Bool} {h : Heap} {a : Addr} {items : Array Value} (st : IsSq k h a items) : ∃ (o : Obj) (n : Nat), h.get? a = some o ∧ o.data = .seq items n := by
  cases k <;> exact (let ⟨o, e, _, n, d⟩ := st; ⟨o, n, e, d⟩)
theorem sq_ne {k k' : Bool} {h : Heap} {it a b : Addr} {i : Nat} {items : Array Value} (q : IsSq k h a items) (st : IsSqIter k' h it b i) : a ≠ it := fun z => by
  obtain ⟨o, n, e, d⟩ := sq_at q
  obtain ⟨o', fs, e', d'⟩ := iter_at st
  rw [z, e'] at e
  cases e
  rw [d] at d'
  cases d'
theorem inv_sq {X : Cx} {pins : List (Addr × Obj)} {σ : L2.St} {H : Hp} {s : Shared} {k : Bool} {a : Addr} {xs : List V} (I : Inv X pins σ H s) (h : SqK X.K k H a xs) : ∃ its : List Value, Vals xs its ∧ IsSq k s.heap a its.toArray ∧ a < s.heap.objs.size := by
  cases k
  · obtain ⟨its, r, p, _⟩ := I.tuple h
    have p' : s.heap.IsTuple a its.toArray := p
    exact ⟨its, r, p', (let ⟨o, e, _⟩ := p'; Heap.lt_size e)⟩
  · obtain ⟨its, r, p, _⟩ := I.list h
    exact ⟨its, r, p.isList, p.lt⟩
theorem inv_inj {X : Cx} {pins : List (Addr × Obj)} {σ : L2.St} {H : Hp} {s : Shared} {k : Bool} {a : Addr} {xs ys : List V} (I : Inv X pins σ H s) (h : SqK X.K k H a xs) (h' : SqK X.K k H a ys) : xs = ys := by
  cases k
  · exact I.tuple_inj h h'
  · exact I.list_inj h h'
/-! ### enumerate -/
set_option maxHeartbeats 1000000 in
theorem meets_enum1 {v : Value} {o : Obj} {H : Heap → Prop} (B : Begins v o H) :
    Meets (Builtin.«enumerate.__new__» ⟨[.type "enumerate", v], []⟩) (fun _ R s => H s.heap ∧
      R (.ok (.ret (.ref (s.heap.push o).objs.size))) { s with heap := (s.heap.push o).push { cls := .type "enumerate", data := .fields #[.none, .bool false, .ref s.heap.objs.size, rawInt 0, .none, .none] } }) :=
  .of_wp fun prog w A R s h => by
    obtain ⟨hp, g, d, tk, os⟩ := s; obtain ⟨h1, h⟩ := h
    have hsub := sub_enumerate
    have q1 : ∀ {A' : Around} {E : Value → Shared → Prop} {Q : Value → Shared → Prop}, Q (.ref hp.objs.size) ⟨hp.push o, g, d, tk, os⟩ → wpAny (model prog w) A' (pyIter v) Q E ⟨hp, g, d, tk, os⟩ :=
      fun q => B.iter prog w _ _ ⟨hp, g, d, tk, os⟩ _ h1 q
    wp_walk using q1
    refine wpAny_stack_any fun st => wpAny_pure ?_
    split
    · rename_i c _ _ _ _ _
      cases (c == Value.type "enumerate")
      · wp_walk using q1
        exact ⟨_, rfl, h⟩
      · wp_walk using q1
        exact ⟨_, rfl, h⟩
    · wp_walk using q1
      exact ⟨_, rfl, h⟩
theorem call_enum1 {prog : Program} {w : World} {A : Around} {E : Value → Shared → Prop} {s : Shared} {v : Value} {o : Obj} {H : Heap → Prop} {Q : Value → Shared → Prop} (B : Begins v o H) (h1 : H s.heap)
    (h : ∀ h', IsEnum h' (s.heap.objs.size + 1) s.heap.objs.size 0 .none → h'.get? s.heap.objs.size = some o → h'.objs.size = s.heap.objs.size + 2 →
      (∀ b o, s.heap.get? b = some o → h'.get? b = some o) → Q (.ref (s.heap.objs.size + 1)) { s with heap := h' }) :
    wpAny (model prog w) A (call (.type "enumerate") [v]) Q E s := by
  refine callType_new F.called_enumerate (by decide) (F.typeCall_enumerate_1 _) (F.newCall_enumerate_1 _) (fun obj => F.args_object_init_2 obj _) F.entry_enumerate_new
    (meets_enum1 B) ⟨h1, ?_⟩
  have hz : (s.heap.push o).objs.size = s.heap.objs.size + 1 := Heap.size_push ..
  show _ ∧ _
  rw [hz]
  have he : IsEnum ((s.heap.push o).push { cls := .type "enumerate", data := .fields #[.none, .bool false, .ref s.heap.objs.size, rawInt 0, .none, .none] }) (s.heap.objs.size + 1) s.heap.objs.size 0 .none := by
    have := Heap.get?_push_size (s.heap.push o) (o := { cls := .type "enumerate", data := .fields #[.none, .bool false, .ref s.heap.objs.size, rawInt 0, .none, .none] }) rfl
    rw [hz] at this; exact this
  refine ⟨⟨_, he, rfl⟩, h _ he (Heap.get?_push_of_some _ (Heap.get?_push_size _ B.free)) (by rw [Heap.size_push, hz]) fun b o x => Heap.get?_push_of_some _ (Heap.get?_push_of_some _ x)⟩
theorem wpAny_pyNext_enum_endDK {prog : Program} {w : World} {A : Around} {E : Value → Shared → Prop} {s : Shared} {e it l : Addr} {i : Nat} {c : Int} {items : Array Value} {old : Value} {Q : Option Value → Shared → Prop} (hh : A.handled = none)
    (he : IsEnum s.heap e it c old) (hit : s.heap.IsTupleIter it l i) (hl : s.heap.IsTuple l items) (hx : items[i]? = none)
    (hQ : ∀ h', Heap.ExtBut it s.heap h' → Q none { s with heap := h' }) : wpAny (model prog w) A (pyNext (.ref e)) Q E s := by
  have hT : s.TypeIs (.ref e) "enumerate" := ⟨_, he, rfl⟩
  unfold pyNext
  refine wpAny_bind (wpAny_attempt (wpAny_callSpecial?_slot (name := Str.ofString "__next__") hT F.slot_enumerate_next
    (wpAny_call_entry F.slot_enumerate_next hT F.entry_enumerate_next ?_ (F.args_enumerate_next_1 _))))
  show wpAny _ _ (field (.ref e) 2 >>= _) _ _ _
  refine wpAny_bind (wpAny_field he rfl (x := .ref it) rfl ?_)
  refine wpAny_bind (wpAny_nextOf_tuple_end hh hit hl hx fun h' x he' hx' => ?_)
  obtain ⟨o, ho, hc⟩ := hx'
  refine wpAny_bind (wpAny_isInstance (T := "StopIteration") (b := true) ⟨o, ho, hc⟩ isSubtype_stop ?_)
  exact wpAny_pure (hQ _ he')
/-- a new pair at a turn -/
def ItK2 (go : Nat → Hp → Prop) (at_ : Nat → Hp → V → V → Prop) (stop : Nat → Hp → Prop) : It :=
  ⟨go, fun i H v H' => ∃ T x y, v = .ref T ∧ H T = none ∧ H' = upd H T (.tup [x, y]) ∧ at_ i H x y, stop⟩
def IteK (K : PySem.W.Frag) (k : Bool) (a : Addr) : It :=
  ItK2 (fun i H => ∃ (xs : List V) (x : V), SqK K k H a xs ∧ xs[i]? = some x) (fun i H x y => x = .int (i : Nat) ∧ ∀ xs, SqK K k H a xs → xs[i]? = some y) (fun i H => ∃ xs : List V, SqK K k H a xs ∧ xs.length ≤ i)
theorem enum_ne {h : Heap} {e it : Addr} {i : Int} {old : Value} {k : Bool} {a : Addr} {items : Array Value} (he : IsEnum h e it i old) (q : IsSq k h a items) : e ≠ a := fun z => by
  obtain ⟨o, n, e', d⟩ := sq_at q
  have he' : h.get? e = some _ := he
  rw [← z, he'] at e'
  cases e'
  cases d
theorem turn_enumK {P : Program} {w : World} {K : PySem.W.Frag} {elts : List Expr} {kk : Nat} {tpos : Pos} (k : Bool) (a e it : Addr) :
    Turn P w K (.Tuple elts kk tpos) (IteK K k a) [e, it] e (fun i h => (∃ old, IsEnum h e it ((i : Nat) : Int) old) ∧ IsSqIter k h it a i ∧ e ≠ it) where
  mem := by simp
  obj := fun i h st b hb => by
    obtain ⟨⟨old, he⟩, hi, _⟩ := st
    obtain ⟨o, fs, ho, hd⟩ := iter_at hi
    have e' : b = e ∨ b = it := by simpa using hb
    rcases e' with z | z
    · rw [z]; exact ⟨_, he, fun v q => nomatch q⟩
    · rw [z]; exact ⟨o, ho, fun v q => by rw [hd] at q; cases q⟩
  keep := fun i h h' st c => let ⟨⟨old, he⟩, hi, hne⟩ := st; ⟨⟨old, c e (by simp) _ he⟩, iter_keep hi fun o q => c it (by simp) o q, hne⟩
  item := by
    intro X hP hw hK hc i pins s σ H E I hf st hg
    subst hP hw hK
    obtain ⟨⟨old, he⟩, hit, hne⟩ := st
    obtain ⟨xs, x, hq, hx⟩ := hg
    obtain ⟨its, rv, p, hlt⟩ := inv_sq I hq
    obtain ⟨u, hu, ru⟩ := rv.get hx
    have hel : e < s.heap.objs.size := Heap.lt_size (show s.heap.get? e = some _ from he)
    have hil : it < s.heap.objs.size := by obtain ⟨_, _, q, _⟩ := iter_at hit; exact Heap.lt_size q
    have Gs := GoesN.enumFrom (elts := elts) (x1 := kk) (pos := tpos) 0 (draws_sq (prog := X.prog) (w := X.w) (A := X.A.in1) (show X.A.in1.handled = none from I.ok.hd hc) k it a (sq_ne p hit) its.toArray) e hne (by
      intro hm
      rcases List.mem_cons.mp hm with z | z
      · exact hne z
      · exact enum_ne he p (List.mem_singleton.mp z)) (by simp)
    have hil2 : i < its.toArray.size := by
      have := (List.getElem?_eq_some_iff.mp hu).1
      simpa using this
    refine Gs.goes i s _ E hil2 ⟨⟨old, by rw [Int.zero_add]; exact he⟩, hit, p⟩ fun v h' tk Y st' hk htk => ?_
    obtain ⟨T, t, y, rfl, hTn, hy, hT⟩ := Y
    obtain ⟨⟨old', he'⟩, hit', _⟩ := st'
    have ey : y = u := by
      have h3 : its.toArray[i]? = some u := by simpa using hu
      rw [hy] at h3
      exact Option.some.inj h3
    subst ey
    have new : ObjOk X.prog X.w (upd H T (.tup [.int (i : Nat), x])) h' T (.tup [.int (i : Nat), x]) :=
      ⟨by show 2 ≤ sizeLine; decide, [.int (0 + (i : Int)) t, y], .cons ⟨t, by rw [Int.zero_add]⟩ (.cons ru .nil), hT⟩
    have I1 : Inv X pins σ (upd H T (.tup [.int (i : Nat), x])) { s with heap := h', toks := tk } := I.turnedNew (ch := [e, it]) hk hf hTn new
    refine ⟨.ref T, _, I1, rfl, ⟨T, _, x, rfl, I.hok.fresh hTn, rfl, rfl, fun ys hy => by rw [inv_inj I hy hq]; exact hx⟩, ⟨⟨old', ?_⟩, hit', hne⟩, fun b hb => ?_⟩
    · rw [Int.zero_add] at he'
      exact he'
    · have hb' : b < s.heap.objs.size := by
        have e' : b = e ∨ b = it := by simpa using hb
        rcases e' with z | z
        · rw [z]; exact hel
        · rw [z]; exact hil
      rw [upd_ne (Nat.ne_of_lt (Nat.lt_of_lt_of_le hb' hTn))]
      exact (hf b hb).1
  done := by
    intro X hP hw hK hc i pins s σ H E I hf st hg
    subst hP hw hK
    obtain ⟨⟨old, he⟩, hit, hne⟩ := st
    obtain ⟨xs, hq, hx⟩ := hg
    obtain ⟨its, rv, p, hlt⟩ := inv_sq I hq
    have hl := rv.length
    cases k
    · refine wpAny_pyNext_enum_endDK (I.ok.hd hc) he hit p (by simp; omega) fun h' eb => ⟨rfl, ?_⟩
      obtain ⟨f0, f1, f2, f3, f4, f5⟩ := hf it (by simp)
      exact I.turned (t' := s.toks) (fun b o hb q => eb b o hb q) f0 f1 f3 f4 f5
    · refine wpAny_pyNext_enum_end (I.ok.hd hc) he hit p (by simp; omega) fun h' eb => ⟨rfl, ?_⟩
      obtain ⟨f0, f1, f2, f3, f4, f5⟩ := hf it (by simp)
      exact I.turned (t' := s.toks) (fun b o hb q => eb b o hb q) f0 f1 f3 f4 f5
  self := fun A i s Q E st h => let ⟨⟨_, he⟩, _⟩ := st; wpAny_pyIter_enum he h
/-! ### what is walked -/
def SqA (K : PySem.W.Frag) (H : Hp) (a : Addr) (xs : List V) : Prop := SqL K H a xs ∨ SqT K H a xs
theorem SqA.same {K : PySem.W.Frag} {G H : Hp} {a : Addr} {xs : List V} (h : SqA K G a xs) (v : Same G H) : SqA K H a xs := h.imp (fun z => SqL.same z v) (fun z => SqT.same z v)
theorem SqA.k {K : PySem.W.Frag} {H : Hp} {a : Addr} {xs : List V} (h : SqA K H a xs) : ∃ k, SqK K k H a xs := by
  rcases h with h | h
  · exact ⟨true, h⟩
  · exact ⟨false, h⟩
def iSq (K : PySem.W.Frag) (tl : TE) : TI := fun σ H R => tl σ H fun x H1 => ∃ a xs G, x = .ref a ∧ SqA K G a xs ∧ Same G H1 ∧ ∀ J, Walk J xs.length (Same G) (YAt xs) → R J H1
theorem pi_sq {X : Cx} {tg : Expr} {l : Expr} {tl : TE} (hl : PE X l tl) : PI X tg l (iSq X.K tl) := by
  refine ⟨fun pins s σ H R I h => ?_⟩
  refine thn (hl.run pins s σ H _ I h) fun v s1 ⟨x, H1, I1, r1, q1⟩ => ?_
  obtain ⟨a, xs, G, e, hq, hv, q⟩ := q1
  subst e
  cases r1
  rcases hq with hq | hq
  · obtain ⟨its, rv, p, hz⟩ := I1.list (SqL.same hq hv)
    refine wpAny_pyIter_list p.isList ?_
    refine ⟨s1.heap.objs.size, [s1.heap.objs.size], _, _, H1, rfl, I1.kept (t' := s1.toks) fun b o e => Heap.get?_push_of_some _ e, turn_list a _, ⟨_, Heap.get?_push_size _ rfl, rfl, rfl⟩, fun b hb => ?_, q _ (walk_list.mono (fun H x => SqL.same hq x) fun _ _ _ _ _ _ y => y)⟩
    have e : b = s1.heap.objs.size := by simpa using hb
    subst e
    exact I1.fpOk (Nat.le_refl _) (I1.hok.fresh (Nat.le_refl _))
  · obtain ⟨its, rv, p, hz⟩ := I1.tuple (SqT.same hq hv)
    refine wpAny_pyIter_tuple (show s1.heap.IsTuple a its.toArray from p) ?_
    refine ⟨s1.heap.objs.size, [s1.heap.objs.size], _, _, H1, rfl, I1.kept (t' := s1.toks) fun b o e => Heap.get?_push_of_some _ e, turn_tuple a _, ⟨_, Heap.get?_push_size _ rfl, rfl, rfl⟩, fun b hb => ?_, q _ (walk_tup.mono (fun H x => SqT.same hq x) fun _ _ _ _ _ _ y => y)⟩
    have e : b = s1.heap.objs.size := by simpa using hb
    subst e
    exact I1.fpOk (Nat.le_refl _) (I1.hok.fresh (Nat.le_refl _))
theorem walk_enumK {K : PySem.W.Frag} {k : Bool} {a : Addr} {xs : List V} : Walk (IteK K k a) xs.length (fun H => SqK K k H a xs) (YPair (fun i => some (.int (i : Nat))) (fun i => xs[i]?)) := by
  refine ⟨fun i _ hi q => ⟨xs, xs[i], q, by simp [hi]⟩, fun _ q => ⟨xs, q, Nat.le_refl _⟩, fun i H v H' _ q y => ?_⟩
  obtain ⟨T, x, y, h1, h2, h3, h4, h5⟩ := y
  exact ⟨T, x, y, h1, h2, h3, by rw [h4], h5 xs q⟩
def iEnumQ (K : PySem.W.Frag) (ta : TA) : TI := fun σ H R => ta σ H fun vs H1 => ∃ a xs G, vs = [.ref a] ∧ SqA K G a xs ∧ Same G H1 ∧ ∀ J, Walk J xs.length (Same G) (YPair (fun i => some (.int (i : Nat))) (fun i => xs[i]?)) → R J H1
theorem pi_enumQ {X : Cx} {e : Expr} {ta : TA} {p pos tpos : Pos} {elts : List Expr} {kk : Nat} (hg : Gl X "enumerate") (hm : X.mg "enumerate" = none) (ha : PA X [e] ta) (hs : starEach [e] X.env = [(false, eval e X.env)] := by rfl) :
    PI X (.Tuple elts kk tpos) (.Call (.Name "enumerate" p) [e] [] pos) (iEnumQ X.K ta) := by
  refine ⟨fun pins s σ H R I h => ?_⟩
  refine Call_ (ld_blt I hg hm boot_enumerate (PyProof.Rows.callWith_type1 (thn (ha.run pos pins s σ H _ I h) fun us s1 ⟨vs, H1, I1, r1, q1⟩ => ?_) hs rfl))
  obtain ⟨a, xs, G, ex, hq, hv, q⟩ := q1
  subst ex
  cases r1 with
  | cons r rr =>
    cases rr
    cases r
    obtain ⟨k, hk⟩ := hq.k
    obtain ⟨its, rv, p', hz⟩ := inv_sq I1 (SqK.same hk hv)
    refine call_enum1 (begins_sq k a its.toArray) p' fun h' he hit hsz hk' => wpAny_pyIter_enum he ?_
    have I2 : Inv X pins σ H1 { s1 with heap := h' } := I1.kept (t' := s1.toks) hk'
    refine ⟨s1.heap.objs.size + 1, [s1.heap.objs.size + 1, s1.heap.objs.size], _, _, H1, rfl, I2, turn_enumK k a (s1.heap.objs.size + 1) s1.heap.objs.size, ⟨⟨.none, he⟩, iter_new hit, Nat.succ_ne_self _⟩, fun b hb => ?_, q _ (walk_enumK.mono (fun H x => SqK.same hk x) fun _ _ _ _ _ _ y => y)⟩
    have e' : b = s1.heap.objs.size + 1 ∨ b = s1.heap.objs.size := by simpa using hb
    have hle : s1.heap.objs.size ≤ b := by
      rcases e' with z | z
      · rw [z]; exact Nat.le_add_right _ _
      · rw [z]; exact Nat.le_refl _
    exact I1.fpOk hle (I1.hok.fresh hle)
/-! ### zip of two -/
def ItzK (K : PySem.W.Frag) (k l : Bool) (a b : Addr) : It :=
  ItK2 (fun i H => ∃ (xs ys : List V) (x y : V), SqK K k H a xs ∧ SqK K l H b ys ∧ xs[i]? = some x ∧ ys[i]? = some y) (fun i H x y => (∀ xs, SqK K k H a xs → xs[i]? = some x) ∧ ∀ ys, SqK K l H b ys → ys[i]? = some y)
    (fun i H => ∃ xs ys : List V, SqK K k H a xs ∧ SqK K l H b ys ∧ i = min xs.length ys.length)
structure ZA (z TI TO i1 i2 : Addr) : Prop where
  a1 : TI ≠ z
  a2 : TO ≠ z
  a3 : TI ≠ TO
  a4 : TI ≠ i1
  a5 : TI ≠ i2
  a6 : z ≠ i1
  a7 : z ≠ i2
  a8 : TO ≠ i1
  a9 : TO ≠ i2
  aa : i1 ≠ i2
theorem zip_ne {h : Heap} {z TI TO x : Addr} {o : Option Obj} {k : Bool} {a : Addr} {items : Array Value} {w : Value} (he : IsZip h z TI TO w) (q : IsSq k h a items) : z ≠ a := fun y => by
  obtain ⟨o, n, e', d⟩ := sq_at q
  have he' : h.get? z = some _ := he
  rw [← y, he'] at e'
  cases e'
  cases d
theorem zsep {h : Heap} {z TI TO i1 i2 a b : Addr} {i : Nat} {k l : Bool} {it1 it2 : Array Value} {w x y : Value} (Z : ZA z TI TO i1 i2) (hz : IsZip h z TI TO w) (hTO : IsTupOf2 h TO x y) (h1 : IsSqIter k h i1 a i) (h2 : IsSqIter l h i2 b i) (q1 : IsSq k h a it1) (q2 : IsSq l h b it2) (na : TO ≠ a) (nb : TO ≠ b) :
    ZipSep2 z TI TO i1 i2 [i1, a] [i2, b] := by
  have z1 := zip_ne (x := a) (o := none) hz q1
  have z2 := zip_ne (x := a) (o := none) hz q2
  have n1 := sq_ne q1 h1
  have n2 := sq_ne q1 h2
  have n3 := sq_ne q2 h1
  have n4 := sq_ne q2 h2
  refine { TIz := Z.a1, TOz := Z.a2, TITO := Z.a3, TIi1 := Z.a4, mem1 := by simp, zf1 := ?_, Tf1 := ?_, TIi2 := Z.a5, mem2 := by simp, zf2 := ?_, Tf2 := ?_, sep1_2 := ?_, sep2_1 := ?_ }
  · simp [Z.a6, z1]
  · simp [Z.a8, na]
  · simp [Z.a7, z2]
  · simp [Z.a9, nb]
  · simp [Z.aa, n3.symm]
  · simp [Z.aa.symm, n2.symm]
theorem turn_zipK {P : Program} {w : World} {K : PySem.W.Frag} {elts : List Expr} {kk : Nat} {tpos : Pos} (k l : Bool) (a b z TI TO i1 i2 : Addr) (Z : ZA z TI TO i1 i2) (na : TO ≠ a) (nb : TO ≠ b) :
    Turn P w K (.Tuple elts kk tpos) (ItzK K k l a b) [z, TI, TO, i1, i2] z (fun i h => IsZip h z TI TO .none ∧ IsTupOf2 h TI (.ref i1) (.ref i2) ∧ (∃ x y, IsTupOf2 h TO x y) ∧ IsSqIter k h i1 a i ∧ IsSqIter l h i2 b i) where
  mem := by simp
  obj := fun i h st c hc => by
    obtain ⟨hz, hTI, ⟨x, y, hTO⟩, h1, h2⟩ := st
    obtain ⟨o1, f1, e1, d1⟩ := iter_at h1
    obtain ⟨o2, f2, e2, d2⟩ := iter_at h2
    have e' : c = z ∨ c = TI ∨ c = TO ∨ c = i1 ∨ c = i2 := by simpa using hc
    rcases e' with q | q | q | q | q
    · rw [q]; exact ⟨_, hz, fun v q => nomatch q⟩
    · rw [q]; exact ⟨_, hTI, fun v q => nomatch q⟩
    · rw [q]; exact ⟨_, hTO, fun v q => nomatch q⟩
    · rw [q]; exact ⟨o1, e1, fun v q => by rw [d1] at q; cases q⟩
    · rw [q]; exact ⟨o2, e2, fun v q => by rw [d2] at q; cases q⟩
  keep := fun i h h' st c => by
    obtain ⟨hz, hTI, ⟨x, y, hTO⟩, h1, h2⟩ := st
    exact ⟨c z (by simp) _ hz, c TI (by simp) _ hTI, ⟨x, y, c TO (by simp) _ hTO⟩, iter_keep h1 fun o q => c i1 (by simp) o q, iter_keep h2 fun o q => c i2 (by simp) o q⟩
  item := by
    intro X hP hw hK hc i pins s σ H E I hf st hg
    subst hP hw hK
    obtain ⟨hz, hTI, ⟨x0, y0, hTO⟩, h1, h2⟩ := st
    obtain ⟨xs, ys, x, y, hqx, hqy, hx, hy⟩ := hg
    obtain ⟨its, rv, p, _⟩ := inv_sq I hqx
    obtain ⟨its2, rv2, p2, _⟩ := inv_sq I hqy
    obtain ⟨u, hu, ru⟩ := rv.get hx
    obtain ⟨u2, hu2, ru2⟩ := rv2.get hy
    have hh : X.A.in1.handled = none := I.ok.hd hc
    have Gs := GoesN.zip2 (A := X.A) (elts := elts) (x1 := kk) (pos := tpos) (zsep Z hz hTO h1 h2 p p2 na nb) (draws_sq (prog := X.prog) (w := X.w) hh k i1 a (sq_ne p h1) its.toArray) (draws_sq (prog := X.prog) (w := X.w) hh l i2 b (sq_ne p2 h2) its2.toArray)
    have hi1 : i < its.toArray.size := by have := (List.getElem?_eq_some_iff.mp hu).1; simpa using this
    have hi2 : i < its2.toArray.size := by have := (List.getElem?_eq_some_iff.mp hu2).1; simpa using this
    refine Gs.goes i s _ E (by omega) ⟨hz, hTI, ⟨x0, y0, hTO⟩, ⟨h1, p⟩, ⟨h2, p2⟩⟩ fun v h' tk Y st' hk htk => ?_
    obtain ⟨T, v1, v2, rfl, hTn, e1, e2, hT⟩ := Y
    obtain ⟨hz', hTI', hTO', ⟨h1', _⟩, ⟨h2', _⟩⟩ := st'
    have q1 : v1 = u := by
      have h3 : its.toArray[i]? = some u := by simpa using hu
      rw [e1] at h3
      exact Option.some.inj h3
    have q2 : v2 = u2 := by
      have h3 : its2.toArray[i]? = some u2 := by simpa using hu2
      rw [e2] at h3
      exact Option.some.inj h3
    subst q1 q2
    have new : ObjOk X.prog X.w (upd H T (.tup [x, y])) h' T (.tup [x, y]) := ⟨by show 2 ≤ sizeLine; decide, [v1, v2], .cons ru (.cons ru2 .nil), hT⟩
    have I1 : Inv X pins σ (upd H T (.tup [x, y])) { s with heap := h', toks := tk } := I.turnedNew (ch := [z, TI, TO, i1, i2]) (fun c o hb q => hk c o (fun m => hb (by
      have e' : c = z ∨ c = TO ∨ c = i1 ∨ c = i2 := by simpa using m
      rcases e' with q | q | q | q <;> simp [q])) q) hf hTn new
    refine ⟨.ref T, _, I1, rfl, ⟨T, x, y, rfl, I.hok.fresh hTn, rfl, fun ys hy => by rw [inv_inj I hy hqx]; exact hx, fun zs hz => by rw [inv_inj I hz hqy]; exact hy⟩, ⟨hz', hTI', hTO', h1', h2'⟩, fun c hcm => ?_⟩
    have hlt : c < s.heap.objs.size := by
      have e' : c = z ∨ c = TI ∨ c = TO ∨ c = i1 ∨ c = i2 := by simpa using hcm
      rcases e' with q | q | q | q | q
      · rw [q]; exact Heap.lt_size (show s.heap.get? z = some _ from hz)
      · rw [q]; exact Heap.lt_size hTI
      · rw [q]; exact Heap.lt_size hTO
      · rw [q]; obtain ⟨_, _, e1, _⟩ := iter_at h1; exact Heap.lt_size e1
      · rw [q]; obtain ⟨_, _, e2, _⟩ := iter_at h2; exact Heap.lt_size e2
    rw [upd_ne (Nat.ne_of_lt (Nat.lt_of_lt_of_le hlt hTn))]
    exact (hf c hcm).1
  done := by
    intro X hP hw hK hc i pins s σ H E I hf st hg
    subst hP hw hK
    obtain ⟨hz, hTI, ⟨x0, y0, hTO⟩, h1, h2⟩ := st
    obtain ⟨xs, ys, hqx, hqy, hend⟩ := hg
    obtain ⟨its, rv, p, _⟩ := inv_sq I hqx
    obtain ⟨its2, rv2, p2, _⟩ := inv_sq I hqy
    have l1 := rv.length
    have l2 := rv2.length
    have hh : X.A.in1.handled = none := I.ok.hd hc
    have Gs := GoesN.zip2 (A := X.A) (elts := elts) (x1 := kk) (pos := tpos) (zsep Z hz hTO h1 h2 p p2 na nb) (draws_sq (prog := X.prog) (w := X.w) hh k i1 a (sq_ne p h1) its.toArray) (draws_sq (prog := X.prog) (w := X.w) hh l i2 b (sq_ne p2 h2) its2.toArray)
    have ei : min its.toArray.size its2.toArray.size = i := by simp; omega
    rw [ei] at Gs
    refine wpAny_mono (Gs.stops s (fun s1 => Inv X pins σ H s1) E ⟨hz, hTI, ⟨x0, y0, hTO⟩, ⟨h1, p⟩, ⟨h2, p2⟩⟩ fun h' tk hk htk => I.turnedL (ch := [z, TI, TO, i1, i2]) (fun c o hb q => hk c o (fun m => hb (by
      have e' : c = z ∨ c = TO ∨ c = i1 ∨ c = i2 := by simpa using m
      rcases e' with q | q | q | q <;> simp [q])) q) hf) (fun _ _ z => z) fun _ _ z => z
  self := fun A i s Q E st h => wpAny_pyIter_zip st.1 h
theorem walk_zipK {K : PySem.W.Frag} {k l : Bool} {a b : Addr} {xs ys : List V} : Walk (ItzK K k l a b) (min xs.length ys.length) (fun H => SqK K k H a xs ∧ SqK K l H b ys) (YPair (fun i => xs[i]?) (fun i => ys[i]?)) := by
  refine ⟨fun i _ hi q => ?_, fun _ q => ⟨xs, ys, q.1, q.2, rfl⟩, fun i H v H' _ q y => ?_⟩
  · have h1 : i < xs.length := by omega
    have h2 : i < ys.length := by omega
    exact ⟨xs, ys, xs[i], ys[i], q.1, q.2, by simp [h1], by simp [h2]⟩
  · obtain ⟨T, x, y, h1, h2, h3, h4, h5⟩ := y
    exact ⟨T, x, y, h1, h2, h3, h4 xs q.1, h5 ys q.2⟩
def iZipQ (K : PySem.W.Frag) (ta : TA) : TI := fun σ H R => ta σ H fun vs H1 => ∃ a b xs ys G, vs = [.ref a, .ref b] ∧ SqA K G a xs ∧ SqA K G b ys ∧ Same G H1 ∧ ∀ J, Walk J (min xs.length ys.length) (Same G) (YPair (fun i => xs[i]?) (fun i => ys[i]?)) → R J H1
theorem pi_zipQ {X : Cx} {e e2 : Expr} {ta : TA} {p pos tpos : Pos} {elts : List Expr} {kk : Nat} (hg : Gl X "zip") (hm : X.mg "zip" = none) (ha : PA X [e, e2] ta)
    (hs : starEach [e, e2] X.env = (false, eval e X.env) :: starEach [e2] X.env := by rfl) (hpl : (backTo pos (starEach [e2] X.env)).any (·.1) = false := by rfl) :
    PI X (.Tuple elts kk tpos) (.Call (.Name "zip" p) [e, e2] [] pos) (iZipQ X.K ta) := by
  refine ⟨fun pins s σ H R I h => ?_⟩
  refine Call_ (ld_blt I hg hm PyProof.Rows.boot_zip (PyProof.Rows.callWith_type1 (thn (ha.run pos pins s σ H _ I h) fun us s1 ⟨vs, H1, I1, r1, q1⟩ => ?_) hs hpl))
  obtain ⟨a, b, xs, ys, G, ex, hqx, hqy, hv, q⟩ := q1
  subst ex
  cases r1 with
  | cons r rr =>
    cases rr with
    | cons r' rr =>
      cases rr
      cases r
      cases r'
      obtain ⟨k, hk⟩ := hqx.k
      obtain ⟨l, hl⟩ := hqy.k
      obtain ⟨its, rv, p1, la⟩ := inv_sq I1 (SqK.same hk hv)
      obtain ⟨its2, rv2, p2, lb⟩ := inv_sq I1 (SqK.same hl hv)
      refine zip_begins2 (begins_sq k a its.toArray) (begins_sq l b its2.toArray) p1 p2 fun h' hz hTI hTO h1 h2 hsz hk' => wpAny_pyIter_zip hz ?_
      have I2 : Inv X pins σ H1 { s1 with heap := h' } := I1.kept (t' := s1.toks) hk'
      have la' : (a : Nat) < s1.heap.objs.size := la
      have lb' : (b : Nat) < s1.heap.objs.size := lb
      refine ⟨s1.heap.objs.size + 4, [s1.heap.objs.size + 4, s1.heap.objs.size + 2, s1.heap.objs.size + 3, s1.heap.objs.size, s1.heap.objs.size + 1], _, _, H1, rfl, I2,
        turn_zipK k l a b (s1.heap.objs.size + 4) (s1.heap.objs.size + 2) (s1.heap.objs.size + 3) s1.heap.objs.size (s1.heap.objs.size + 1)
          ⟨show (s1.heap.objs.size + 2 : Nat) ≠ s1.heap.objs.size + 4 by omega, show (s1.heap.objs.size + 3 : Nat) ≠ s1.heap.objs.size + 4 by omega, show (s1.heap.objs.size + 2 : Nat) ≠ s1.heap.objs.size + 3 by omega, show (s1.heap.objs.size + 2 : Nat) ≠ s1.heap.objs.size by omega,
            show (s1.heap.objs.size + 2 : Nat) ≠ s1.heap.objs.size + 1 by omega, show (s1.heap.objs.size + 4 : Nat) ≠ s1.heap.objs.size by omega, show (s1.heap.objs.size + 4 : Nat) ≠ s1.heap.objs.size + 1 by omega, show (s1.heap.objs.size + 3 : Nat) ≠ s1.heap.objs.size by omega,
            show (s1.heap.objs.size + 3 : Nat) ≠ s1.heap.objs.size + 1 by omega, show (s1.heap.objs.size : Nat) ≠ s1.heap.objs.size + 1 by omega⟩ (Nat.ne_of_gt (Nat.lt_of_lt_of_le la (Nat.le_add_right _ 3))) (Nat.ne_of_gt (Nat.lt_of_lt_of_le lb (Nat.le_add_right _ 3))),
        ⟨hz, hTI, ⟨_, _, hTO⟩, iter_new h1, iter_new h2⟩, fun c hcm => ?_, q _ (walk_zipK.mono (fun H x => ⟨SqK.same hk x, SqK.same hl x⟩) fun _ _ _ _ _ _ y => y)⟩
      have e' : c = s1.heap.objs.size + 4 ∨ c = s1.heap.objs.size + 2 ∨ c = s1.heap.objs.size + 3 ∨ c = s1.heap.objs.size ∨ c = s1.heap.objs.size + 1 := by simpa using hcm
      have hle : s1.heap.objs.size ≤ c := by
        rcases e' with z | z | z | z | z
        · rw [z]; exact Nat.le_add_right _ _
        · rw [z]; exact Nat.le_add_right _ _
        · rw [z]; exact Nat.le_add_right _ _
        · rw [z]; exact Nat.le_refl _
        · rw [z]; exact Nat.le_add_right _ _
      exact I1.fpOk hle (I1.hok.fresh hle)
end XR
set_option Elab.async false
set_option linter.all false
set_option maxRecDepth 100000
set_option maxHeartbeats 4000000
/-! errors of own classes without fields: made by X(), asked when caught -/
namespace XR
open PySem PySem.Spec PyProof.Rows L2
section
variable {X : Cx} {C : Addr} {bmB : List Value} {B newId initId : String}
theorem pmk_own0 {x : Str} {p pos : Pos} (F : ExcBaseFacts B newId initId bmB) (q : PySem.W.excIn X.K C bmB newId = true) (gC : X.mg x = some (.ref C)) (kC : PySem.W.keepIn X.K (.ref C) = true) (r : Raises X (.ref C)) (hg : Gl X x)
    (hdb : (x == ("__debug__" : Str)) = false := by decide) : PMk X (.Call (.Name x p) [] [] pos) (fun _ H Q => Q (.ref C) none H) := by
  intro pins s σ H Q I h
  refine wpAny_Call_Name_kw (ld_glob I hg gC ?_ hdb)
  refine PySem.W.callWith_K0 I.kIn kC ?_
  show wpAny _ _ (call (.ref C) []) _ _ _
  obtain ⟨bm, N, nm, qn, bs, hdct, sn, sub, ab, col, dd, k0, k1, k2, k3, k5, mN, hC, hN, hni, T⟩ := exc_obj I.kIn q
  refine wpAny_call_exc_subT F T hC hN hni (fun h' e hm => ?_) (by show 0 ≤ sizeLine; exact Nat.zero_le _)
  exact mk_of I hm r h (I.hok.gone hm.new)
end
section
variable {X : Cx} {a : Addr} {oe : Obj} {cls : Value} {d : Option Addr}
theorem pinned_none {pins : List (Addr × Obj)} {s : Shared} {σ : L2.St} {H : Hp} {D : Addr}
    (hp : (a, oe) ∈ X.pn) (hz : Zc (.ref D) none oe) (hf : ∃ vs, oe.data = .fields vs) (I : Inv X pins σ H s) : PySem.W.InstAt s.heap a oe D none := by
  have at_ := (I.pin (a, oe) (List.mem_append_left _ hp)).1
  obtain ⟨vs, hv⟩ := hf
  obtain ⟨oc, od, oda, osl⟩ := oe
  obtain ⟨h1, h2⟩ := hz
  dsimp only at h1 h2 hv
  subst h1 h2 hv
  exact ⟨at_, rfl, rfl, trivial⟩
def rIsN (K : PySem.W.Frag) (cls : Value) (d : Option Addr) (a : Addr) : List V → Hp → VK → Prop := fun xs H Q =>
  ∃ (D : Addr) (c : V) (cv : Value) (b : Bool), cls = .ref D ∧ d = none ∧ Asks K D ∧ xs = [.ref a, c] ∧ ClsV c cv ∧ PySem.W.kitOne K (.ref D) cv = some b ∧ Q (.bl b) H
def rIsNT (K : PySem.W.Frag) (cls : Value) (d : Option Addr) (a : Addr) : List V → Hp → VK → Prop := fun xs H Q =>
  ∃ (D tp : Addr) (cs : List V) (us : List Value) (b : Bool), cls = .ref D ∧ d = none ∧ Asks K D ∧ xs = [.ref a, .ref tp] ∧ H tp = some (.tup cs) ∧ Paired ClsV cs us ∧ PySem.W.kitAny K (.ref D) us = some b ∧ Q (.bl b) H
theorem call_isN (hp : (a, oe) ∈ X.pn) (hz : Zc cls d oe) (hf : ∃ vs, oe.data = .fields vs) : CallR X (.builtin "isinstance") (rIsN X.K cls d a) := by
  intro pins s σ H xs us Q I r h
  obtain ⟨D, c, cv, b, rfl, rfl, as, rfl, kc, ek, q⟩ := h
  obtain ⟨u1, u2, rfl, r1, r2⟩ := vals2 r
  obtain rfl : u1 = Value.ref a := r1
  obtain rfl := kc.eq r2
  have J := pinned_none hp hz hf I
  exact PySem.W.kia_one (PySem.W.handS_kitx_exc as.hg as.hk as.hs as.hd as.ha as.hn as.ht as.hm) I.kIn J ek (fun z => nomatch z) fun tk => ⟨.bl b, H, I.tok tk, rfl, q⟩
theorem call_isNT (hp : (a, oe) ∈ X.pn) (hz : Zc cls d oe) (hf : ∃ vs, oe.data = .fields vs) : CallR X (.builtin "isinstance") (rIsNT X.K cls d a) := by
  intro pins s σ H xs us Q I r h
  obtain ⟨D, tp, cs, ws, b, rfl, rfl, as, rfl, hT, kc, ek, q⟩ := h
  obtain ⟨u1, u2, rfl, r1, r2⟩ := vals2 r
  obtain rfl : u1 = Value.ref a := r1
  obtain rfl : u2 = Value.ref tp := r2
  have J := pinned_none hp hz hf I
  have okT : ObjOk X.prog X.w H s.heap tp (.tup cs) := I.hok tp _ hT
  obtain ⟨_, its, rv, ⟨oc, od2, dt, sl⟩, h1, h2, n, h3⟩ := okT
  dsimp only at h2 h3
  subst h2 h3
  obtain rfl := ClsV.all kc rv
  exact PySem.W.kia_tup (PySem.W.handS_kitx_exc as.hg as.hk as.hs as.hd as.ha as.hn as.ht as.hm) I.kIn J h1 ek (fun z => nomatch z) fun tk => ⟨.bl b, H, I.tok tk, rfl, q⟩
/-- with fields or without -/
def rIsA (K : PySem.W.Frag) (cls : Value) (d : Option Addr) (a : Addr) : List V → Hp → VK → Prop := fun xs H Q => rIsP K cls d a xs H Q ∨ rIsN K cls d a xs H Q
def rIsAT (K : PySem.W.Frag) (cls : Value) (d : Option Addr) (a : Addr) : List V → Hp → VK → Prop := fun xs H Q => rIsPT K cls d a xs H Q ∨ rIsNT K cls d a xs H Q
theorem call_isA (hp : (a, oe) ∈ X.pn) (hz : Zc cls d oe) (hf : ∃ vs, oe.data = .fields vs) : CallR X (.builtin "isinstance") (rIsA X.K cls d a) := by
  intro pins s σ H xs us Q I r h
  rcases h with h | h
  · exact call_isP hp hz hf pins s σ H xs us Q I r h
  · exact call_isN hp hz hf pins s σ H xs us Q I r h
theorem call_isAT (hp : (a, oe) ∈ X.pn) (hz : Zc cls d oe) (hf : ∃ vs, oe.data = .fields vs) : CallR X (.builtin "isinstance") (rIsAT X.K cls d a) := by
  intro pins s σ H xs us Q I r h
  rcases h with h | h
  · exact call_isPT hp hz hf pins s σ H xs us Q I r h
  · exact call_isNT hp hz hf pins s σ H xs us Q I r h
end
section
variable {X : Cx} {a b : Addr} {oe : Obj} {cls : Value} {d : Option Addr} {pn : List (Addr × Obj)}
theorem call_isAs (hz : Zc cls d oe) (hf : ∃ vs, oe.data = .fields vs) : CallR (X.suite b ((a, oe) :: pn)) (.builtin "isinstance") (rIsA X.K cls d a) := call_isA List.mem_cons_self hz hf
theorem call_isATs (hz : Zc cls d oe) (hf : ∃ vs, oe.data = .fields vs) : CallR (X.suite b ((a, oe) :: pn)) (.builtin "isinstance") (rIsAT X.K cls d a) := call_isAT List.mem_cons_self hz hf
end
/-! ### min and max of a list or a tuple of ints -/
section
variable {prog : Program} {w : World} {A : Around} {E : Value → Shared → Prop} {s : Shared} {l : Addr} {xs : Array (Int × Tok)}
theorem iter_intTup {Q : Value → Shared → Prop} (hl : s.heap.IsTuple l (intItems xs))
    (h : ∀ s₂ : Shared, s₂ = { s with heap := s.heap.push { cls := .type "tuple_iterator", data := .fields #[.ref l, .int 0 0] } } →
      (s₂.heap.IsTupleIter s.heap.objs.size l 0 ∧ s₂.heap.IsTuple l (intItems xs)) → (∀ b ∈ [s.heap.objs.size, l], b < s₂.heap.objs.size) → l ≠ s.heap.objs.size → Q (.ref s.heap.objs.size) s₂) :
    wpAny (model prog w) A (pyIter (.ref l)) Q E s := by
  have hlt : l < s.heap.objs.size := by obtain ⟨_, e, _⟩ := hl; exact Heap.lt_size e
  refine wpAny_pyIter_tuple hl (h _ rfl ⟨⟨_, Heap.get?_push_size _ rfl, rfl, rfl⟩, ?_⟩ (fun b hb => ?_) (Nat.ne_of_lt hlt))
  · obtain ⟨o, e, r⟩ := hl
    exact ⟨o, Heap.get?_push_of_some _ e, r⟩
  · show b < (s.heap.push _).objs.size
    rw [Heap.size_push]
    rcases List.mem_cons.mp hb with rfl | hb
    · exact Nat.lt_succ_self _
    · rcases List.mem_cons.mp hb with rfl | hb
      · exact Nat.lt_succ_of_lt hlt
      · cases hb
theorem old_keptT {h' : Heap} (hk : ∀ b o, b ∉ [s.heap.objs.size] → (s.heap.push { cls := .type "tuple_iterator", data := .fields #[.ref l, .int 0 0] }).get? b = some o → h'.get? b = some o) :
    ∀ b o, s.heap.get? b = some o → h'.get? b = some o := fun b o e => by
  refine hk b o (fun hm => ?_) (Heap.get?_push_of_some _ e)
  rcases List.mem_cons.mp hm with e1 | hm
  · exact absurd (e1 ▸ Heap.lt_size e) (Nat.lt_irrefl _)
  · cases hm
theorem max_intTup {Q : Value → Shared → Prop} (hh : A.handled = none) (hl : s.heap.IsTuple l (intItems xs)) (hne : 0 < xs.size)
    (h : ∀ v h' tk, (intItems xs)[argBest (fun i j => decide (numAt xs i > numAt xs j)) (xs.size - 1)]? = some v → (∀ b o, s.heap.get? b = some o → h'.get? b = some o) → Q v { s with heap := h', toks := tk }) :
    wpAny (model prog w) A (call (.builtin "max") [.ref l]) Q E s := by
  refine call_max_walk (iter_intTup hl fun s₂ e st hfp hlI => ?_)
  subst e
  refine ⟨_, _, _, _, _, _, _, rfl, Walks.tuple (A := A.in1) hh _ l hlI (intItems xs), st, hfp, by simpa [intItems] using hne, CmpOf.ints_gt (numAt xs) (fun _ _ => intItems_at), fun v h' tk hP hk => ?_⟩
  exact h v h' tk (by simpa [intItems] using hP) (old_keptT hk)
theorem min_intTup {Q : Value → Shared → Prop} (hh : A.handled = none) (hl : s.heap.IsTuple l (intItems xs)) (hne : 0 < xs.size)
    (h : ∀ v h' tk, (intItems xs)[argBest (fun i j => decide (numAt xs i < numAt xs j)) (xs.size - 1)]? = some v → (∀ b o, s.heap.get? b = some o → h'.get? b = some o) → Q v { s with heap := h', toks := tk }) :
    wpAny (model prog w) A (call (.builtin "min") [.ref l]) Q E s := by
  refine call_min_walk (iter_intTup hl fun s₂ e st hfp hlI => ?_)
  subst e
  refine ⟨_, _, _, _, _, _, _, rfl, Walks.tuple (A := A.in1) hh _ l hlI (intItems xs), st, hfp, by simpa [intItems] using hne, CmpOf.ints_lt (numAt xs) (fun _ _ => intItems_at), fun v h' tk hP hk => ?_⟩
  exact h v h' tk (by simpa [intItems] using hP) (old_keptT hk)
end
section
variable {prog : Program} {w : World} {A : Around} {E : Value → Shared → Prop} {s : Shared} {l : Addr} {its : List Value} {ns : List Int} {Q : Value → Shared → Prop}
theorem max_rawT (hh : A.handled = none) (hl : s.heap.IsTuple l its.toArray) (hi : IntsAre its ns) (hne : 0 < ns.length)
    (h : ∀ h' tk M t', (∀ b o, s.heap.get? b = some o → h'.get? b = some o) → M ∈ ns → (∀ a, a ∈ ns → a ≤ M) → Q (.int M t') { s with heap := h', toks := tk }) : wpAny (model prog w) A (call (.builtin "max") [.ref l]) Q E s := by
  obtain ⟨xs, e⟩ := hi.allInts.items
  have hn : numsOf (intItems xs).toList = ns := by rw [← e]; exact hi.numsOf
  rw [nums_intItems] at hn
  subst hn
  rw [e] at hl
  have hsz : 0 < xs.size := by simpa using hne
  refine max_intTup hh hl hsz fun v h' tk hv hk => ?_
  obtain ⟨t, rfl⟩ := intItems_at hv
  obtain ⟨h1, h2⟩ := argBest_gt (numAt xs) (xs.size - 1)
  refine h h' tk _ t hk ?_ fun a ha => ?_
  · rw [numAt_eq]; exact PySem.getD_mem (by rw [List.length_map, Array.length_toList]; omega)
  · obtain ⟨j, hj, rfl⟩ := mem_getD ha
    rw [List.length_map, Array.length_toList] at hj
    rw [← numAt_eq]; exact h2 j (by omega)
theorem min_rawT (hh : A.handled = none) (hl : s.heap.IsTuple l its.toArray) (hi : IntsAre its ns) (hne : 0 < ns.length)
    (h : ∀ h' tk M t', (∀ b o, s.heap.get? b = some o → h'.get? b = some o) → M ∈ ns → (∀ a, a ∈ ns → M ≤ a) → Q (.int M t') { s with heap := h', toks := tk }) : wpAny (model prog w) A (call (.builtin "min") [.ref l]) Q E s := by
  obtain ⟨xs, e⟩ := hi.allInts.items
  have hn : numsOf (intItems xs).toList = ns := by rw [← e]; exact hi.numsOf
  rw [nums_intItems] at hn
  subst hn
  rw [e] at hl
  have hsz : 0 < xs.size := by simpa using hne
  refine min_intTup hh hl hsz fun v h' tk hv hk => ?_
  obtain ⟨t, rfl⟩ := intItems_at hv
  obtain ⟨h1, h2⟩ := argBest_lt (numAt xs) (xs.size - 1)
  refine h h' tk _ t hk ?_ fun a ha => ?_
  · rw [numAt_eq]; exact PySem.getD_mem (by rw [List.length_map, Array.length_toList]; omega)
  · obtain ⟨j, hj, rfl⟩ := mem_getD ha
    rw [List.length_map, Array.length_toList] at hj
    rw [← numAt_eq]; exact h2 j (by omega)
end
section
variable {X : Cx}
def rMaxQ (K : PySem.W.Frag) : List V → Hp → VK → Prop := fun vs H Q => ∃ (a : Addr) (ns : List Int), vs = [V.ref a] ∧ SqA K H a (ns.map V.int) ∧ 0 < ns.length ∧ ∀ m, m ∈ ns → (∀ y, y ∈ ns → y ≤ m) → Q (.int m) H
def rMinQ (K : PySem.W.Frag) : List V → Hp → VK → Prop := fun vs H Q => ∃ (a : Addr) (ns : List Int), vs = [V.ref a] ∧ SqA K H a (ns.map V.int) ∧ 0 < ns.length ∧ ∀ m, m ∈ ns → (∀ y, y ∈ ns → m ≤ y) → Q (.int m) H
theorem cr_maxQ (hc : X.calm = true) : CallR X (.builtin "max") (rMaxQ X.K) := by
  intro pins s σ H vs us Q I r h
  obtain ⟨a, ns, rfl, hs, hne, q⟩ := h
  rw [Vals.ref1 r]
  rcases hs with hs | hs
  · obtain ⟨its, rv, hl, _⟩ := I.list hs
    exact max_raw (I.ok.hd hc) hl.isList rv.ints hne fun h' tk m t' hk h1 h2 => ⟨.int _, H, I.kept hk, ⟨_, rfl⟩, q m h1 h2⟩
  · obtain ⟨its, rv, hl, _⟩ := I.tuple hs
    exact max_rawT (I.ok.hd hc) (show s.heap.IsTuple a its.toArray from hl) rv.ints hne fun h' tk m t' hk h1 h2 => ⟨.int _, H, I.kept hk, ⟨_, rfl⟩, q m h1 h2⟩
theorem cr_minQ (hc : X.calm = true) : CallR X (.builtin "min") (rMinQ X.K) := by
  intro pins s σ H vs us Q I r h
  obtain ⟨a, ns, rfl, hs, hne, q⟩ := h
  rw [Vals.ref1 r]
  rcases hs with hs | hs
  · obtain ⟨its, rv, hl, _⟩ := I.list hs
    exact min_raw (I.ok.hd hc) hl.isList rv.ints hne fun h' tk m t' hk h1 h2 => ⟨.int _, H, I.kept hk, ⟨_, rfl⟩, q m h1 h2⟩
  · obtain ⟨its, rv, hl, _⟩ := I.tuple hs
    exact min_rawT (I.ok.hd hc) (show s.heap.IsTuple a its.toArray from hl) rv.ints hne fun h' tk m t' hk h1 h2 => ⟨.int _, H, I.kept hk, ⟨_, rfl⟩, q m h1 h2⟩
end
end XR
set_option Elab.async false
set_option linter.all false
set_option maxRecDepth 100000
set_option maxHeartbeats 4000000
namespace Toy
open PySem L2 XR
def top (i : Nat) : Stmt := PySem.Challenge.pw_fittingpasts_k17_stay_parts.main.body.getD i (.Pass ⟨0, 0, 0, 0⟩)
abbrev s__wall : Stmt := top 0
abbrev s_EmptyStay_init : Stmt := inClass (top 6) 0
abbrev s_NoCommonDay_init : Stmt := inClass (top 7) 0
abbrev s_Stay_init : Stmt := inClass (top 10) 0
abbrev s_Stay___eq__ : Stmt := inClass (top 10) 1
abbrev s_Stay___str__ : Stmt := inClass (top 10) 2
abbrev s_Stay___contains__ : Stmt := inClass (top 10) 3
abbrev s_Stay___add__ : Stmt := inClass (top 10) 4
abbrev s_Stay___sub__ : Stmt := inClass (top 10) 5
abbrev s_Stay___and__ : Stmt := inClass (top 10) 6
abbrev s_Stay___or__ : Stmt := inClass (top 10) 7
abbrev s_Stay_width : Stmt := inClass (top 10) 8
abbrev s_Stay_meets : Stmt := inClass (top 10) 9
abbrev s_Stay_within : Stmt := inClass (top 10) 10
abbrev s_Stay_crosses : Stmt := inClass (top 10) 11
abbrev s_Stay_parts_without : Stmt := inClass (top 10) 12
abbrev s_Stay_around : Stmt := inClass (top 10) 13
abbrev s__law_draws : Stmt := top 12
abbrev s__law_take : Stmt := top 13
abbrev s__law_far : Stmt := top 14
abbrev s__law_number : Stmt := top 15
abbrev s__law_is : Stmt := top 16
abbrev s__law_starts : Stmt := top 17
abbrev s__law_row : Stmt := top 18
abbrev s__law_days : Stmt := top 19
abbrev s__law_runs : Stmt := top 20
abbrev s__law_truth : Stmt := top 21
abbrev s__law_placed : Stmt := top 22
abbrev s__law_stays : Stmt := top 23
abbrev s__law_parted : Stmt := top 24
abbrev s__law_listed : Stmt := top 25
abbrev s__law_around : Stmt := top 26
abbrev s__law_no_days : Stmt := top 27
abbrev s__law_caught : Stmt := top 28
abbrev s_law : Stmt := top 29
/-- where the defs and classes of the text stand -/
structure Ad where
  a_EmptyStay_init : Addr
  d_EmptyStay_init : FuncData
  a_NoCommonDay_init : Addr
  d_NoCommonDay_init : FuncData
  a_Stay_init : Addr
  d_Stay_init : FuncData
  a_Stay___eq__ : Addr
  d_Stay___eq__ : FuncData
  a_Stay___str__ : Addr
  d_Stay___str__ : FuncData
  a_Stay___contains__ : Addr
  d_Stay___contains__ : FuncData
  a_Stay___add__ : Addr
  d_Stay___add__ : FuncData
  a_Stay___sub__ : Addr
  d_Stay___sub__ : FuncData
  a_Stay___and__ : Addr
  d_Stay___and__ : FuncData
  a_Stay___or__ : Addr
  d_Stay___or__ : FuncData
  a_Stay_meets : Addr
  d_Stay_meets : FuncData
  a_Stay_within : Addr
  d_Stay_within : FuncData
  a_Stay_crosses : Addr
  d_Stay_crosses : FuncData
  a_Stay_parts_without : Addr
  d_Stay_parts_without : FuncData
  a_Stay_around : Addr
  d_Stay_around : FuncData
  a__law_draws : Addr
  d__law_draws : FuncData
  a__law_take : Addr
  d__law_take : FuncData
  a__law_far : Addr
  d__law_far : FuncData
  a__law_number : Addr
  d__law_number : FuncData
  a__law_is : Addr
  d__law_is : FuncData
  a__law_starts : Addr
  d__law_starts : FuncData
  a__law_row : Addr
  d__law_row : FuncData
  a__law_days : Addr
  d__law_days : FuncData
  a__law_runs : Addr
  d__law_runs : FuncData
  a__law_truth : Addr
  d__law_truth : FuncData
  a__law_placed : Addr
  d__law_placed : FuncData
  a__law_stays : Addr
  d__law_stays : FuncData
  a__law_parted : Addr
  d__law_parted : FuncData
  a__law_listed : Addr
  d__law_listed : FuncData
  a__law_around : Addr
  d__law_around : FuncData
  a__law_no_days : Addr
  d__law_no_days : FuncData
  a__law_caught : Addr
  d__law_caught : FuncData
  a_law : Addr
  d_law : FuncData
  c_ArchiveError : Addr
  c_UnknownError : Addr
  c_TextError : Addr
  c_ImpossibleError : Addr
  c_EmptyStay : Addr
  c_NoCommonDay : Addr
  c_NoDays : Addr
  c_Stay : Addr
  p_Stay_around : Addr
structure Txt (K : PySem.W.Frag) (mg : Str → Option Value) (D : Ad) : Prop where
  F_EmptyStay_init : Fun K "__init__" "EmptyStay.__init__" s_EmptyStay_init D.a_EmptyStay_init D.d_EmptyStay_init
  b_EmptyStay_init : Binds K D.d_EmptyStay_init ["self", "come", "go"] []
  m_EmptyStay_init : PySem.W.findIn K (.ref D.c_EmptyStay) "__init__" = some (some (.ref D.a_EmptyStay_init))
  i_EmptyStay_init : PySem.W.isFn K (.ref D.a_EmptyStay_init) = true
  F_NoCommonDay_init : Fun K "__init__" "NoCommonDay.__init__" s_NoCommonDay_init D.a_NoCommonDay_init D.d_NoCommonDay_init
  b_NoCommonDay_init : Binds K D.d_NoCommonDay_init ["self", "gap"] []
  m_NoCommonDay_init : PySem.W.findIn K (.ref D.c_NoCommonDay) "__init__" = some (some (.ref D.a_NoCommonDay_init))
  i_NoCommonDay_init : PySem.W.isFn K (.ref D.a_NoCommonDay_init) = true
  F_Stay_init : Fun K "__init__" "Stay.__init__" s_Stay_init D.a_Stay_init D.d_Stay_init
  b_Stay_init : Binds K D.d_Stay_init ["self", "come", "go"] []
  m_Stay_init : PySem.W.findIn K (.ref D.c_Stay) "__init__" = some (some (.ref D.a_Stay_init))
  i_Stay_init : PySem.W.isFn K (.ref D.a_Stay_init) = true
  F_Stay___eq__ : Fun K "__eq__" "Stay.__eq__" s_Stay___eq__ D.a_Stay___eq__ D.d_Stay___eq__
  b_Stay___eq__ : Binds K D.d_Stay___eq__ ["self", "other"] []
  m_Stay___eq__ : PySem.W.findIn K (.ref D.c_Stay) "__eq__" = some (some (.ref D.a_Stay___eq__))
  i_Stay___eq__ : PySem.W.isFn K (.ref D.a_Stay___eq__) = true
  F_Stay___str__ : Fun K "__str__" "Stay.__str__" s_Stay___str__ D.a_Stay___str__ D.d_Stay___str__
  b_Stay___str__ : Binds K D.d_Stay___str__ ["self"] []
  m_Stay___str__ : PySem.W.findIn K (.ref D.c_Stay) "__str__" = some (some (.ref D.a_Stay___str__))
  i_Stay___str__ : PySem.W.isFn K (.ref D.a_Stay___str__) = true
  F_Stay___contains__ : Fun K "__contains__" "Stay.__contains__" s_Stay___contains__ D.a_Stay___contains__ D.d_Stay___contains__
  b_Stay___contains__ : Binds K D.d_Stay___contains__ ["self", "day"] []
  m_Stay___contains__ : PySem.W.findIn K (.ref D.c_Stay) "__contains__" = some (some (.ref D.a_Stay___contains__))
  i_Stay___contains__ : PySem.W.isFn K (.ref D.a_Stay___contains__) = true
  F_Stay___add__ : Fun K "__add__" "Stay.__add__" s_Stay___add__ D.a_Stay___add__ D.d_Stay___add__
  b_Stay___add__ : Binds K D.d_Stay___add__ ["self", "many"] []
  m_Stay___add__ : PySem.W.findIn K (.ref D.c_Stay) "__add__" = some (some (.ref D.a_Stay___add__))
  i_Stay___add__ : PySem.W.isFn K (.ref D.a_Stay___add__) = true
  F_Stay___sub__ : Fun K "__sub__" "Stay.__sub__" s_Stay___sub__ D.a_Stay___sub__ D.d_Stay___sub__
  b_Stay___sub__ : Binds K D.d_Stay___sub__ ["self", "many"] []
  m_Stay___sub__ : PySem.W.findIn K (.ref D.c_Stay) "__sub__" = some (some (.ref D.a_Stay___sub__))
  i_Stay___sub__ : PySem.W.isFn K (.ref D.a_Stay___sub__) = true
  F_Stay___and__ : Fun K "__and__" "Stay.__and__" s_Stay___and__ D.a_Stay___and__ D.d_Stay___and__
  b_Stay___and__ : Binds K D.d_Stay___and__ ["self", "other"] []
  m_Stay___and__ : PySem.W.findIn K (.ref D.c_Stay) "__and__" = some (some (.ref D.a_Stay___and__))
  i_Stay___and__ : PySem.W.isFn K (.ref D.a_Stay___and__) = true
  F_Stay___or__ : Fun K "__or__" "Stay.__or__" s_Stay___or__ D.a_Stay___or__ D.d_Stay___or__
  b_Stay___or__ : Binds K D.d_Stay___or__ ["self", "other"] []
  m_Stay___or__ : PySem.W.findIn K (.ref D.c_Stay) "__or__" = some (some (.ref D.a_Stay___or__))
  i_Stay___or__ : PySem.W.isFn K (.ref D.a_Stay___or__) = true
  F_Stay_meets : Fun K "meets" "Stay.meets" s_Stay_meets D.a_Stay_meets D.d_Stay_meets
  b_Stay_meets : Binds K D.d_Stay_meets ["self", "other"] []
  m_Stay_meets : PySem.W.findIn K (.ref D.c_Stay) "meets" = some (some (.ref D.a_Stay_meets))
  i_Stay_meets : PySem.W.isFn K (.ref D.a_Stay_meets) = true
  F_Stay_within : Fun K "within" "Stay.within" s_Stay_within D.a_Stay_within D.d_Stay_within
  b_Stay_within : Binds K D.d_Stay_within ["self", "other"] []
  m_Stay_within : PySem.W.findIn K (.ref D.c_Stay) "within" = some (some (.ref D.a_Stay_within))
  i_Stay_within : PySem.W.isFn K (.ref D.a_Stay_within) = true
  F_Stay_crosses : Fun K "crosses" "Stay.crosses" s_Stay_crosses D.a_Stay_crosses D.d_Stay_crosses
  b_Stay_crosses : Binds K D.d_Stay_crosses ["self", "other"] []
  m_Stay_crosses : PySem.W.findIn K (.ref D.c_Stay) "crosses" = some (some (.ref D.a_Stay_crosses))
  i_Stay_crosses : PySem.W.isFn K (.ref D.a_Stay_crosses) = true
  F_Stay_parts_without : Fun K "parts_without" "Stay.parts_without" s_Stay_parts_without D.a_Stay_parts_without D.d_Stay_parts_without
  b_Stay_parts_without : Binds K D.d_Stay_parts_without ["self", "other"] []
  m_Stay_parts_without : PySem.W.findIn K (.ref D.c_Stay) "parts_without" = some (some (.ref D.a_Stay_parts_without))
  i_Stay_parts_without : PySem.W.isFn K (.ref D.a_Stay_parts_without) = true
  F_Stay_around : Fun K "around" "Stay.around" s_Stay_around D.a_Stay_around D.d_Stay_around
  b_Stay_around : Binds K D.d_Stay_around ["days"] []
  sr_Stay_around : PySem.W.readsIn K D.c_Stay (.type "type") = true
  sg_Stay_around : PySem.W.specialIn K (.ref D.c_Stay) "__getattribute__" = some (some (.builtin "type.__getattribute__"))
  pa_Stay_around : PySem.W.findCls K (.ref D.c_Stay) (.type "type") "around" = some (.get (.builtin "staticmethod.__get__") (.ref D.p_Stay_around) .none (.ref D.c_Stay))
  pr_Stay_around : ∃ rest, PySem.W.recIn K D.p_Stay_around "staticmethod" = some (.ref D.a_Stay_around :: rest)
  F__law_draws : Fun K "_law_draws" "_law_draws" s__law_draws D.a__law_draws D.d__law_draws
  b__law_draws : Binds K D.d__law_draws ["_law_script"] []
  g__law_draws : mg "_law_draws" = some (.ref D.a__law_draws)
  F__law_take : Fun K "_law_take" "_law_take" s__law_take D.a__law_take D.d__law_take
  b__law_take : Binds K D.d__law_take ["_law_box", "_law_limit"] []
  g__law_take : mg "_law_take" = some (.ref D.a__law_take)
  F__law_far : Fun K "_law_far" "_law_far" s__law_far D.a__law_far D.d__law_far
  b__law_far : Binds K D.d__law_far ["_law_box"] []
  g__law_far : mg "_law_far" = some (.ref D.a__law_far)
  F__law_number : Fun K "_law_number" "_law_number" s__law_number D.a__law_number D.d__law_number
  b__law_number : Binds K D.d__law_number ["_law_actual", "_law_due"] []
  g__law_number : mg "_law_number" = some (.ref D.a__law_number)
  F__law_is : Fun K "_law_is" "_law_is" s__law_is D.a__law_is D.d__law_is
  b__law_is : Binds K D.d__law_is ["_law_stay", "_law_days_here"] []
  g__law_is : mg "_law_is" = some (.ref D.a__law_is)
  F__law_starts : Fun K "_law_starts" "_law_starts" s__law_starts D.a__law_starts D.d__law_starts
  b__law_starts : Binds K D.d__law_starts ["_law_box"] []
  g__law_starts : mg "_law_starts" = some (.ref D.a__law_starts)
  F__law_row : Fun K "_law_row" "_law_row" s__law_row D.a__law_row D.d__law_row
  b__law_row : Binds K D.d__law_row ["_law_box"] []
  g__law_row : mg "_law_row" = some (.ref D.a__law_row)
  F__law_days : Fun K "_law_days" "_law_days" s__law_days D.a__law_days D.d__law_days
  b__law_days : Binds K D.d__law_days ["_law_starts_here", "_law_row_here"] []
  g__law_days : mg "_law_days" = some (.ref D.a__law_days)
  F__law_runs : Fun K "_law_runs" "_law_runs" s__law_runs D.a__law_runs D.d__law_runs
  b__law_runs : Binds K D.d__law_runs ["_law_mine", "_law_other"] []
  g__law_runs : mg "_law_runs" = some (.ref D.a__law_runs)
  F__law_truth : Fun K "_law_truth" "_law_truth" s__law_truth D.a__law_truth D.d__law_truth
  b__law_truth : Binds K D.d__law_truth ["_law_actual", "_law_due"] []
  g__law_truth : mg "_law_truth" = some (.ref D.a__law_truth)
  F__law_placed : Fun K "_law_placed" "_law_placed" s__law_placed D.a__law_placed D.d__law_placed
  b__law_placed : Binds K D.d__law_placed ["_law_one", "_law_two", "_law_mine", "_law_other"] []
  g__law_placed : mg "_law_placed" = some (.ref D.a__law_placed)
  F__law_stays : Fun K "_law_stays" "_law_stays" s__law_stays D.a__law_stays D.d__law_stays
  b__law_stays : Binds K D.d__law_stays ["_law_actual", "_law_starts_here", "_law_runs_here"] []
  g__law_stays : mg "_law_stays" = some (.ref D.a__law_stays)
  F__law_parted : Fun K "_law_parted" "_law_parted" s__law_parted D.a__law_parted D.d__law_parted
  b__law_parted : Binds K D.d__law_parted ["_law_one", "_law_two", "_law_starts_here", "_law_mine", "_law_other"] []
  g__law_parted : mg "_law_parted" = some (.ref D.a__law_parted)
  F__law_listed : Fun K "_law_listed" "_law_listed" s__law_listed D.a__law_listed D.d__law_listed
  b__law_listed : Binds K D.d__law_listed ["_law_box", "_law_starts_here"] []
  g__law_listed : mg "_law_listed" = some (.ref D.a__law_listed)
  F__law_around : Fun K "_law_around" "_law_around" s__law_around D.a__law_around D.d__law_around
  b__law_around : Binds K D.d__law_around ["_law_days_here", "_law_as_tuple"] []
  g__law_around : mg "_law_around" = some (.ref D.a__law_around)
  F__law_no_days : Fun K "_law_no_days" "_law_no_days" s__law_no_days D.a__law_no_days D.d__law_no_days
  b__law_no_days : Binds K D.d__law_no_days ["_law_days_here"] []
  g__law_no_days : mg "_law_no_days" = some (.ref D.a__law_no_days)
  F__law_caught : Fun K "_law_caught" "_law_caught" s__law_caught D.a__law_caught D.d__law_caught
  b__law_caught : Binds K D.d__law_caught [] []
  g__law_caught : mg "_law_caught" = some (.ref D.a__law_caught)
  F_law : Fun K "law" "law" s_law D.a_law D.d_law
  b_law : Binds K D.d_law ["_law_script"] []
  g_law : mg "law" = some (.ref D.a_law)
  g_ArchiveError : mg "ArchiveError" = some (.ref D.c_ArchiveError)
  k_ArchiveError : PySem.W.keepIn K (.ref D.c_ArchiveError) = true
  g_UnknownError : mg "UnknownError" = some (.ref D.c_UnknownError)
  k_UnknownError : PySem.W.keepIn K (.ref D.c_UnknownError) = true
  g_TextError : mg "TextError" = some (.ref D.c_TextError)
  k_TextError : PySem.W.keepIn K (.ref D.c_TextError) = true
  g_ImpossibleError : mg "ImpossibleError" = some (.ref D.c_ImpossibleError)
  k_ImpossibleError : PySem.W.keepIn K (.ref D.c_ImpossibleError) = true
  g_EmptyStay : mg "EmptyStay" = some (.ref D.c_EmptyStay)
  k_EmptyStay : PySem.W.keepIn K (.ref D.c_EmptyStay) = true
  g_NoCommonDay : mg "NoCommonDay" = some (.ref D.c_NoCommonDay)
  k_NoCommonDay : PySem.W.keepIn K (.ref D.c_NoCommonDay) = true
  g_NoDays : mg "NoDays" = some (.ref D.c_NoDays)
  k_NoDays : PySem.W.keepIn K (.ref D.c_NoDays) = true
  g_Stay : mg "Stay" = some (.ref D.c_Stay)
  k_Stay : PySem.W.keepIn K (.ref D.c_Stay) = true
  n_ValueError : mg "ValueError" = none
  n_bool : mg "bool" = none
  n_int : mg "int" = none
  n_isinstance : mg "isinstance" = none
  n_len : mg "len" = none
  n_list : mg "list" = none
  n_max : mg "max" = none
  n_min : mg "min" = none
  n_range : mg "range" = none
  n_tuple : mg "tuple" = none
  oxl_EmptyStay : ∃ nm q N bs bm sn sub ab col dd k0 k1 k2 k3 k5, K.lookup D.c_EmptyStay = some (excClassObj nm q D.c_EmptyStay N bs bm true sn sub ab col dd k0 k1 k2 k3 k5 "ValueError.__new__") ∧ PySem.HandSPX.refsVE bm = true
  xsa_EmptyStay : PySem.W.findIn K (.ref D.c_EmptyStay) "__setattr__" = some (some (.builtin "object.__setattr__"))
  xga_EmptyStay : PySem.W.findIn K (.ref D.c_EmptyStay) "__getattribute__" = some (some (.builtin "BaseException.__getattribute__"))
  xgg_EmptyStay : PySem.W.findIn K (.ref D.c_EmptyStay) "__getattr__" = some none
  xbe_EmptyStay : PySem.W.subIn K (.ref D.c_EmptyStay) (.type "BaseException") = some true
  xty_EmptyStay : PySem.W.typeIn K (.ref D.c_EmptyStay) = some (.type "type")
  xhd_EmptyStay : PySem.W.hasDictIn K D.c_EmptyStay = true
  xca_EmptyStay : PySem.W.findIn K (.ref D.c_EmptyStay) "__class__" = some (some (.builtin "object.__class__"))
  xmo_EmptyStay : PySem.W.mroIn K D.c_EmptyStay (.type "object") = some true
  xti_EmptyStay : PySem.W.typeIn K (.ref D.a_EmptyStay_init) = some (.type "function")
  xq_NoDays : PySem.W.excIn K D.c_NoDays [.type "ValueError", .type "Exception", .type "BaseException", .type "object"] "ValueError.__new__" = true
  xga_NoDays : PySem.W.findIn K (.ref D.c_NoDays) "__getattribute__" = some (some (.builtin "BaseException.__getattribute__"))
  xgg_NoDays : PySem.W.findIn K (.ref D.c_NoDays) "__getattr__" = some none
  xbe_NoDays : PySem.W.subIn K (.ref D.c_NoDays) (.type "BaseException") = some true
  xty_NoDays : PySem.W.typeIn K (.ref D.c_NoDays) = some (.type "type")
  xhd_NoDays : PySem.W.hasDictIn K D.c_NoDays = true
  xca_NoDays : PySem.W.findIn K (.ref D.c_NoDays) "__class__" = some (some (.builtin "object.__class__"))
  xmo_NoDays : PySem.W.mroIn K D.c_NoDays (.type "object") = some true
  cn_ : PySem.W.specialIn K (.builtin "object.__class__") "__get__" = some (some (.builtin "getset_descriptor.__get__"))
  ct_ : PySem.W.takesIn K (.builtin "object.__class__") = some true
  ymk_Stay : PySem.W.makesIn K D.c_Stay = true
  ypg_Stay : PySem.W.plainGet K D.c_Stay Str.empty = true
  yhd_Stay : PySem.W.hasDictIn K D.c_Stay = true
  ypo_Stay : PySem.W.plainOver K D.c_Stay = true
  ysa_Stay : PySem.W.findIn K (.ref D.c_Stay) "__setattr__" = some (some (.builtin "object.__setattr__"))
  ysf_Stay : PySem.W.selfFirst K D.c_Stay = true
  yca_Stay : PySem.W.findIn K (.ref D.c_Stay) "__class__" = some (some (.builtin "object.__class__"))
  ymo_Stay : PySem.W.mroIn K D.c_Stay (.type "object") = some true
  z_Stay : PySem.W.kitOne K (.ref D.c_Stay) (.ref D.c_Stay) = some true
  z_U : PySem.W.kitOne K (.ref D.c_NoDays) (.ref D.c_UnknownError) = some false
  z_T : PySem.W.kitOne K (.ref D.c_NoDays) (.ref D.c_TextError) = some false
  z_I : PySem.W.kitOne K (.ref D.c_NoDays) (.ref D.c_ImpossibleError) = some false
  z_E : PySem.W.kitOne K (.ref D.c_NoDays) (.ref D.c_EmptyStay) = some false
  z_A : PySem.W.kitOne K (.ref D.c_NoDays) (.ref D.c_ArchiveError) = some true
  z_V : PySem.W.kitOne K (.ref D.c_NoDays) (.type "ValueError") = some true
  z_N : PySem.W.kitOne K (.ref D.c_NoDays) (.ref D.c_NoDays) = some true
  m_nn : PySem.W.exmOne K (.ref D.c_NoDays) (.ref D.c_NoDays) = some true
  m_na : PySem.W.exmOne K (.ref D.c_NoDays) (.ref D.c_ArchiveError) = some true
  e_EmptyStay_come : PySem.W.findIn K (.ref D.c_EmptyStay) "come" = some none
  e_EmptyStay_go : PySem.W.findIn K (.ref D.c_EmptyStay) "go" = some none
  no_Stay_come : PySem.W.findIn K (.ref D.c_Stay) "come" = some none
  no_Stay_go : PySem.W.findIn K (.ref D.c_Stay) "go" = some none
section
variable {K : PySem.W.Frag} {mg : Str → Option Value} {D : Ad}
theorem T_cl_Stay (T : Txt K mg D) : Cls K D.c_Stay := ⟨T.ypg_Stay, T.yhd_Stay, T.ypo_Stay, T.ysa_Stay⟩
theorem T_mk_Stay (T : Txt K mg D) : Mk K D.c_Stay D.a_Stay_init := ⟨T.ymk_Stay, T.m_Stay_init, T.i_Stay_init, T.k_Stay⟩
theorem T_ty_Stay (T : Txt K mg D) {H : Hp} {a dx : Addr} {fs : List (Str × V)} (e : H a = some (.ins D.c_Stay dx fs)) : TyX K H (.ref a) (.ref D.c_Stay) := .base (.ins e (T_cl_Stay T) T.yca_Stay T.cn_ T.ct_ T.ymo_Stay)
theorem T_s_Stay_around (T : Txt K mg D) : XR.CStat K D.c_Stay D.p_Stay_around D.a_Stay_around "around" := ⟨T.sr_Stay_around, T.sg_Stay_around, T.pa_Stay_around, T.pr_Stay_around⟩
theorem T_ox_EmptyStay (T : Txt K mg D) : OexC K D.c_EmptyStay := ⟨T.oxl_EmptyStay, T.xsa_EmptyStay, T.xbe_EmptyStay, T.xty_EmptyStay, T.k_EmptyStay⟩
theorem T_as_EmptyStay (T : Txt K mg D) : XR.Asks K D.c_EmptyStay := ⟨T.xga_EmptyStay, T.xgg_EmptyStay, T.xbe_EmptyStay, T.xhd_EmptyStay, T.xca_EmptyStay, T.cn_, T.ct_, T.xmo_EmptyStay⟩
theorem T_xf_EmptyStay (T : Txt K mg D) : XfC K D.c_EmptyStay := ⟨T.xga_EmptyStay, T.xgg_EmptyStay, T.xbe_EmptyStay, T.xhd_EmptyStay⟩
theorem T_as_NoDays (T : Txt K mg D) : XR.Asks K D.c_NoDays := ⟨T.xga_NoDays, T.xgg_NoDays, T.xbe_NoDays, T.xhd_NoDays, T.xca_NoDays, T.cn_, T.ct_, T.xmo_NoDays⟩
end

section
variable {K : PySem.W.Frag} {mg : Str → Option Value} {D : Ad}
theorem T_m_Stay_meets (T : Txt K mg D) : Meth K D.c_Stay "meets" D.a_Stay_meets := ⟨T.m_Stay_meets, T.i_Stay_meets, T.F_Stay_meets.kp⟩
theorem T_m_Stay_within (T : Txt K mg D) : Meth K D.c_Stay "within" D.a_Stay_within := ⟨T.m_Stay_within, T.i_Stay_within, T.F_Stay_within.kp⟩
theorem T_m_Stay_crosses (T : Txt K mg D) : Meth K D.c_Stay "crosses" D.a_Stay_crosses := ⟨T.m_Stay_crosses, T.i_Stay_crosses, T.F_Stay_crosses.kp⟩
theorem T_m_Stay_parts_without (T : Txt K mg D) : Meth K D.c_Stay "parts_without" D.a_Stay_parts_without := ⟨T.m_Stay_parts_without, T.i_Stay_parts_without, T.F_Stay_parts_without.kp⟩
end
local macro_rules | `(tactic| walk_at "ne") => `(tactic| first | assumption | (apply Ne.symm; assumption) | exact XR.ne_fresh (by assumption) (by walk_at "hp") | exact Ne.symm (XR.ne_fresh (by assumption) (by walk_at "hp")))
local macro_rules | `(tactic| walk_at "hp") => `(tactic| first | assumption | exact upd_same | (refine Eq.trans (upd_ne ?_) ?_; (walk_at "ne"); walk_at "hp"))
local macro_rules | `(tactic| walk_at "sq") => `(tactic| first | walk_at "hp" | exact SqL.of (by walk_at "hp") | exact SqT.of (by walk_at "hp") | exact XR.SqT.same (by assumption) (by assumption) | exact XR.SqL.same (by assumption) (by assumption))
local macro_rules | `(tactic| walk_at "br") => `(tactic| (refine ite2 ?_ ?_ <;> intro hbr <;> (try simp only [decide_eq_true_eq, decide_eq_false_iff_not, V.int.injEq, V.bl.injEq, V.str.injEq, Bool.not_eq_true, Bool.not_eq_eq_eq_not, Bool.not_true, Bool.not_false, ne_eq, Int.reduceToNat, Int.reducePow, Int.reduceMul, Int.reduceAdd, Int.reduceSub, reduceCtorEq, not_true_eq_false, not_false_eq_true, Int.not_lt, Int.not_le] at hbr)))
local macro_rules | `(tactic| walk_at "side") => `(tactic| first
  | exact ⟨by decide, by decide, by decide⟩
  | exact .inl ⟨by decide, by decide⟩
  | exact .inr ⟨by decide, by decide⟩
  | exact XR.divw (by first | decide | omega) (by first | decide | omega)
  | (show (_ : Int) = _; first | rfl | omega)
  | (show (0 : Int) < _; first | decide | assumption | omega)
  | exact .inl ⟨by omega, by omega⟩
  | exact .inr ⟨by omega, by omega⟩
  | exact .inl (XR.cmul_mod (by decide))
  | exact XR.log_lt (by omega) (by omega)
  | decide
  | (rw [sizeLine_eq]; simp; done)
  | (show 2 ≤ sizeLine; decide) | (show 3 ≤ sizeLine; decide) | (show 4 ≤ sizeLine; decide) | (show 5 ≤ sizeLine; decide) | (show 6 ≤ sizeLine; decide) | (show 7 ≤ sizeLine; decide) | (show 1 ≤ sizeLine; decide) | (show 8 ≤ sizeLine; decide) | (show 0 ≤ sizeLine; decide))
local macro_rules | `(tactic| walk_at "rd1") => `(tactic| first
  | refine ⟨_, rfl, ?_⟩
  | refine ⟨_, _, rfl, rfl, ?_⟩
  | refine ⟨_, _, _, _, rfl, rfl, (by walk_at "sq"), rfl, ?_⟩
  | refine ⟨_, _, _, _, rfl, rfl, (by walk_at "hp"), (by walk_at "hp"), (by walk_at "side"), ?_⟩
  | refine ⟨_, _, rfl, .inl (by walk_at "sq"), ?_⟩
  | refine ⟨_, _, rfl, .inl ⟨(by walk_at "sq"), ?_⟩⟩
  | refine ⟨_, _, rfl, .inr (by walk_at "sq"), ?_⟩
  | refine ⟨_, _, _, _, _, rfl, (by walk_at "hp"), (by walk_at "cls"), (by walk_at "noat"), rfl, ?_⟩
  | refine ⟨_, _, _, _, rfl, rfl, (by walk_at "sq"), (by first | assumption | exact XR.at0 | exact XR.at1), ?_⟩
  | refine ⟨rfl, ?_⟩
  | refine And.intro (by walk_at "side") ?_
  | refine .inl ⟨_, rfl, ?_⟩
  | refine And.intro ⟨_, (by walk_at "sq")⟩ ?_
  | refine ⟨_, _, rfl, (by walk_at "sq"), ?_⟩
  | refine ⟨_, _, rfl, ?_⟩
  | refine .inr ⟨_, rfl, (by walk_at "side"), ?_⟩
  | refine ⟨_, _, _, rfl, (by walk_at "hp"), ?_⟩
  | refine iteT ?_
  | refine iteF ?_)
local macro_rules | `(tactic| walk_at "rd") => `(tactic| repeat (walk_at "rd1"))
local macro_rules | `(tactic| walk_at "nn") => `(tactic| (simp only [Int.reduceToNat, Int.reducePow, Int.reduceMul, Int.reduceAdd, Int.reduceSub, Int.reduceNeg]))
local macro_rules | `(tactic| walk_at "dr") => `(tactic| repeat (first | refine And.intro (by first | assumption | walk_at "pre") ?_ | refine And.intro (by first | decide | omega) ?_))
local macro_rules | `(tactic| walk_at "cls") => `(tactic| first | exact T_cl_Stay (by assumption))
local macro_rules | `(tactic| walk_at "noat") => `(tactic| first | exact Txt.no_Stay_come (by assumption) | exact Txt.no_Stay_go (by assumption))
section
variable {P : Program} {w : World} {K : PySem.W.Frag} {mg : Str → Option Value} {base : Heap} {D : Ad}
/-! ### the law's draws -/
def BoxC (H : Hp) (b c : Addr) : Prop := ∃ (cs : List Int) (i big st : Int), H b = some (.lst [.ref c, .int i, .int big, .int st]) ∧ H c = some (.lst (cs.map V.int)) ∧ c ≠ b ∧ 0 ≤ i ∧ 0 ≤ big ∧ 0 ≤ st ∧ st < 2147483647
def BoxAt (H : Hp) (b : Addr) : Prop := ∃ c, BoxC H b c
theorem BoxAt.new {H : Hp} {b t : Addr} {o : HO} (h : BoxAt H b) (n : H t = none) : BoxAt (L2.upd H t o) b := by
  obtain ⟨c, cs, i, g, st, e1, e2, r⟩ := h
  exact ⟨c, cs, i, g, st, by rw [upd_ne (ne_of_none e1 n)]; exact e1, by rw [upd_ne (ne_of_none e2 n)]; exact e2, r⟩
theorem BoxAt.ne {H : Hp} {b t : Addr} (h : BoxAt H b) (n : H t = none) : t ≠ b := by
  obtain ⟨c, cs, i, g, st, e1, _⟩ := h
  exact (ne_of_none e1 n).symm
theorem BoxAt.some {H : Hp} {b : Addr} (h : BoxAt H b) : H b ≠ none := by
  obtain ⟨c, cs, i, g, st, e1, _⟩ := h
  rw [e1]
  exact fun z => by cases z
theorem BoxAt.same {H H' : Hp} {b : Addr} (h : BoxAt H b) (x : Same H H') : BoxAt H' b := by
  obtain ⟨c, cs, i, g, st, e1, e2, r⟩ := h
  exact ⟨c, cs, i, g, st, x _ _ e1, x _ _ e2, r⟩
/-- the box does not hold the list at l -/
def BoxFree (H : Hp) (b l : Addr) : Prop := l ≠ b ∧ ∃ c, BoxC H b c ∧ l ≠ c
theorem BoxFree.at {H : Hp} {b l : Addr} (h : BoxFree H b l) : BoxAt H b := let ⟨_, c, h, _⟩ := h; ⟨c, h⟩
theorem BoxFree.of {H : Hp} {b l : Addr} {o : HO} (h : BoxAt H b) (n : H l = none) : BoxFree (L2.upd H l o) b l := by
  obtain ⟨c, cs, i, g, st, e1, e2, r⟩ := h
  have n1 := ne_of_none e1 n
  have n2 := ne_of_none e2 n
  exact ⟨n1.symm, c, ⟨cs, i, g, st, by rw [upd_ne n1]; exact e1, by rw [upd_ne n2]; exact e2, r⟩, n2.symm⟩
theorem BoxFree.put {H : Hp} {b l : Addr} {o : HO} (h : BoxFree H b l) : BoxFree (L2.upd H l o) b l := by
  obtain ⟨n, c, ⟨cs, i, g, st, e1, e2, r⟩, e6⟩ := h
  exact ⟨n, c, ⟨cs, i, g, st, by rw [upd_ne n.symm]; exact e1, by rw [upd_ne e6.symm]; exact e2, r⟩, e6⟩
theorem BoxFree.new {H : Hp} {b l p : Addr} {o : HO} (h : BoxFree H b l) (z : H p = none) : BoxFree (L2.upd H p o) b l := by
  obtain ⟨n, c, ⟨cs, i, g, st, e1, e2, r⟩, e6⟩ := h
  exact ⟨n, c, ⟨cs, i, g, st, by rw [upd_ne (ne_of_none e1 z)]; exact e1, by rw [upd_ne (ne_of_none e2 z)]; exact e2, r⟩, e6⟩
local macro_rules | `(tactic| walk_at "pre") => `(tactic| first | assumption | exact BoxAt.new (by walk_at "pre") (by assumption) | exact BoxAt.same (by walk_at "pre") (by assumption))
/-- a drawn number -/
def Drawn (b : Addr) (H : Hp) (lo hi : Int) (Q : VK) : Prop := ∀ r H', lo ≤ r → r < hi → BoxAt H' b → ExB b H H' → (∀ l, BoxFree H b l → BoxFree H' b l) → Q (.int r) H'
def spDraws (K : PySem.W.Frag) : Sp := fun vs H Q _ => ∃ (a : Addr) (ns : List Int), vs = [.ref a] ∧ SqL K H a (ns.map V.int) ∧ ns.length ≤ 63 ∧ ∀ b H', H b = none → Same H H' → BoxAt H' b → Q (.ref b) H'
def spTake : Sp := fun vs H Q _ => ∃ (b : Addr) (n : Int), vs = [.ref b, .int n] ∧ BoxAt H b ∧ 0 < n ∧ n < 2 ^ 63 ∧ Drawn b H 0 n Q
def spFar : Sp := fun vs H Q _ => ∃ (b : Addr), vs = [.ref b] ∧ BoxAt H b ∧ Drawn b H 0 (4 * 10 ^ 17) Q
def spNum : Sp := fun vs H Q _ => ∃ (x y : Int), vs = [.int x, .int y] ∧ x = y ∧ Q (.bl true) H
theorem sc__law_draws : FnScope ["_law_script", "_law_cell", "_law_cells", "_law_state"] ["_law_script"] (defScope s__law_draws) := ⟨rfl, rfl, rfl, by decide +kernel, rfl, by decide +kernel, by decide +kernel⟩
theorem ok__law_draws (T : Txt K mg D) : FnOk P w K mg base CX0 1 D.a__law_draws D.d__law_draws ["_law_script"] (spDraws K) := by
  refine T.F__law_draws.ok sc__law_draws (fun vs H Q E h => ?_) (fun cdv A outer s H vs Q E hr h => ?_)
  · obtain ⟨a, ns, rfl, _⟩ := h
    rfl
  · obtain ⟨a, ns, rfl, hS, hl, k⟩ := h
    refine ⟨_, (pss_cons (ps_setLc (i := 2) (own := [("_law_cell", 1)]) (g := gName 1) (tt := tYes) (by rfl) sc__law_draws.nd rfl rfl (sw_true rfl rfl rfl (by decide +kernel)) (XR.pi_sq (pe_slice sl_list (pv 0) po_none (po_some pe_int))) (blkOk_by (own := [("_law_cell", 1)]) (N := ["_law_script", "_law_cell", "_law_cells", "_law_state"]) (sc := defScope s__law_draws) (by decide +kernel)) (fun _ _ _ _ _ => (pg_name (i := 1) sc__law_draws.nd rfl (Or.inl rfl))) (fun _ _ _ _ _ => pts_nil) (fun _ _ _ _ _ => (pe_callTy call_int1 (by rfl) T.n_int (by decide +kernel) (pa_cons (pv 1) pa_nil))))
      (pss_cons (ps_set (i := 3) sc__law_draws.nd rfl (Or.inl rfl) pe_int)
      (pss_cons (ps_for PassesOwn.never rfl (XR.pi_sq (pv 2)) (pg_name (i := 1) sc__law_draws.nd rfl (Or.inl rfl))
      (pss_one (ps_set (i := 3) sc__law_draws.nd rfl (Or.inl rfl) (pe_op op_mod (pe_callTy call_int1 (by rfl) T.n_int (by decide +kernel) (pa_cons (pe_op op_add (pe_op op_add (pe_op op_mul (pv 3) pe_int) (pe_op op_mul (pv 1) pe_int)) pe_int) pa_nil)) pe_int))))
      (pss_one (ps_ret (pe_lst (pa_cons (pv 2) (pa_cons pe_int (pa_cons pe_int (pa_cons (pv 3) pa_nil)))))))))), ?_⟩
    walk_at "rd"
    intro p hp
    have ec : cutV (ns.map V.int) none (some 63) = (ns.take 63).map V.int := cutV_take ns 63
    walk_at "rd"
    rw [ec]
    have lm : (ns.take 63).length ≤ 63 := by rw [List.length_take]; omega
    generalize ns.take 63 = ms at lm
    refine ⟨p, _, _, rfl, .inl (SqL.of upd_same), Same.refl _, fun J W Dl hD => ?_⟩
    refine lc_it W (fun i H' => LcI K (L2.upd H p (.lst (ms.map V.int))) (L2.upd H p (.lst (ms.map V.int))) Dl ((ms.take i).map PyData.int) H') (LcI.start (Same.refl _) hD) (fun i H' _ I => I.vw) ?_ ?_
    · rintro i x H1 _ hi ⟨G1, acc, g⟩ ⟨rfl, hx⟩
      obtain ⟨z, hz, rfl⟩ := get_int hx
      walk_at "rd"
      exact g.push_map hz (.int z) (by omega)
    · intro H1 I
      obtain ⟨G1, acc, g⟩ := I.all_map (by rw [List.length_map]; omega)
      have ea : acc = ms.map V.int := DpAll.ints g.ds
      have e1 : H1 Dl = some (.lst (ms.map V.int)) := ea ▸ g.el
      have old : Same H H1 := (Same.add hp).trans g.st.hh
      walk_at "rd"
      refine ⟨Dl, _, H1, rfl, .inl (SqL.of e1), Same.refl _, fun J W => ?_⟩
      refine for_it W (fun i σ H2 => Stop (∃ (v : Option V) (st : Int), σ = [some (.ref a), v, some (.ref Dl), some (.int st)] ∧ 0 ≤ st ∧ st < 2147483647 ∧ H2 = H1)) (.go ⟨none, 0, rfl, by decide, by decide, rfl⟩) (fun i σ H2 _ I => by obtain ⟨_, _, _, _, _, e⟩ := I.out; rw [e]; exact Same.refl _) ?_ ?_
      · rintro i x σ H2 _ hi I ⟨rfl, hx⟩
        obtain ⟨v, st, rfl, s1, s2, rfl⟩ := I.out
        obtain ⟨z, hz, rfl⟩ := get_int hx
        walk_at "rd"
        exact .go ⟨_, _, rfl, Int.emod_nonneg _ (by decide), Int.emod_lt_of_pos _ (by decide), rfl⟩
      · intro σ H2 hm
        obtain ⟨v, st, rfl, s1, s2, rfl⟩ := hm.out
        walk_at "rd"
        intro q hq
        have nq : Dl ≠ q := ne_of_none e1 hq
        exact k q _ (none_back old hq) (Same.new old hq) ⟨Dl, ms, 0, 0, st, upd_same, (by rw [upd_ne nq]; exact e1), nq, Int.le_refl _, Int.le_refl _, s1, s2⟩
theorem sc__law_take : FnScope ["_law_box", "_law_limit", "_law_cell", "_law_digit", "_law_twice"] ["_law_box", "_law_limit"] (defScope s__law_take) := ⟨rfl, rfl, rfl, by decide +kernel, rfl, by decide +kernel, by decide +kernel⟩
theorem ok__law_take (T : Txt K mg D) : FnOk P w K mg base CX0 1 D.a__law_take D.d__law_take ["_law_box", "_law_limit"] spTake := by
  refine T.F__law_take.ok sc__law_take (fun vs H Q E h => ?_) (fun cdv A outer s H vs Q E hr h => ?_)
  · obtain ⟨b, n, rfl, _⟩ := h
    rfl
  · obtain ⟨b, n, rfl, ⟨c, cs, i, big, st, hb, hc, hcb, hi, hbig, hst, hst2⟩, hn, hn2, k⟩ := h
    refine ⟨_, (pss_cons (ps_set (i := 2) sc__law_take.nd rfl (Or.inl rfl) pe_int)
      (Evl.pss_cut (ps_if (PW.pt (pw_and (pt_cmpR op_eq (pe_ix ix_list (pv 0) pe_int (fun _ _ => rfl)) pe_int (nomark _)) (pw_and1 (pt_cmpR op_lt (pe_ix ix_list (pv 0) pe_int (fun _ _ => rfl)) (pe_callB call_len_seq (by rfl) T.n_len (by decide +kernel) (pa_cons (pe_ix ix_list (pv 0) pe_int (fun _ _ => rfl)) pa_nil)) (nomark _)))))
      (pss_cons (ps_set (i := 2) sc__law_take.nd rfl (Or.inl rfl) (pe_ix ix_list (pe_ix ix_list (pv 0) pe_int (fun _ _ => rfl)) (pe_ix ix_list (pv 0) pe_int (fun _ _ => rfl)) (fun _ _ => rfl)))
      (pss_one (ps_asg (pe_op op_add (pe_ix ix_list (pv 0) pe_int (fun _ _ => rfl)) pe_int) (pg_sub (pv 0) pe_int set_list))))
      pss_nil)
      (Evl.pss_cut (ps_if (PW.pt (pw_and (pt_cmpR op_eq (pe_ix ix_list (pv 0) pe_int (fun _ _ => rfl)) pe_int (nomark _)) (pw_and1 (pt_cmpR op_ge (pv 2) (pe_op op_pow pe_int pe_int) (nomark _)))))
      (pss_one (ps_asg (pv 2) (pg_sub (pv 0) pe_int set_list)))
      pss_nil)
      (pss_cons (ps_if (pt_cmpR op_gt (pe_ix ix_list (pv 0) pe_int (fun _ _ => rfl)) pe_int (nomark _))
      (pss_cons (ps_set (i := 3) sc__law_take.nd rfl (Or.inl rfl) (pe_op op_mod (pe_callTy call_int1 (by rfl) T.n_int (by decide +kernel) (pa_cons (pe_ix ix_list (pv 0) pe_int (fun _ _ => rfl)) pa_nil)) (pv 1)))
      (pss_cons (ps_asg (pe_op op_fdivW (pe_ix ix_list (pv 0) pe_int (fun _ _ => rfl)) (pv 1)) (pg_sub (pv 0) pe_int set_list))
      (pss_one (ps_ret (pv 3)))))
      pss_nil)
      (pss_cons (ps_asg (pe_op op_mod (pe_callTy call_int1 (by rfl) T.n_int (by decide +kernel) (pa_cons (pe_op op_add (pe_op op_mul (pe_ix ix_list (pv 0) pe_int (fun _ _ => rfl)) pe_int) (pe_op op_mul (pv 2) pe_int)) pa_nil)) pe_int) (pg_sub (pv 0) pe_int set_list))
      (pss_cons (ps_set (i := 4) sc__law_take.nd rfl (Or.inl rfl) (pe_op op_mod (pe_callTy call_int1 (by rfl) T.n_int (by decide +kernel) (pa_cons (pe_op op_add (pe_op op_mul (pe_ix ix_list (pv 0) pe_int (fun _ _ => rfl)) (pe_ix ix_list (pv 0) pe_int (fun _ _ => rfl))) (pe_op op_mul (pe_ix ix_list (pv 0) pe_int (fun _ _ => rfl)) pe_int)) pa_nil)) pe_int))
      (pss_one (ps_ret (pe_op op_mod (pe_op op_fdivW (pv 4) pe_int) (pv 1)))))))))), ?_⟩
    walk_at "rd"
    -- behind the first if: the cell, the place
    refine ⟨fun σ' H' => Stop (∃ (cell i' : Int), σ' = [some (.ref b), some (.int n), some (.int cell), none, none] ∧ 0 ≤ i' ∧ H' b = some (.lst [.ref c, .int i', .int big, .int st]) ∧ ExB b H H'), ?_, ?_⟩
    · walk_at "rd"
      walk_at "br"
      · walk_at "rd"
        walk_at "br"
        · obtain ⟨z, hz⟩ := at_ints hi (by assumption)
          walk_at "rd"
          exact .go ⟨z, i + 1, rfl, by omega, upd_same, ExB.refl.upd⟩
        · exact .go ⟨0, i, rfl, hi, hb, ExB.refl⟩
      · walk_at "rd"
        exact .go ⟨0, i, rfl, hi, hb, ExB.refl⟩
    · intro σ1 H1 hm
      obtain ⟨cell, i1, rfl, hi1, hb1, x1⟩ := hm.out
      walk_at "rd"
      -- behind the second one: the big number
      refine ⟨fun σ' H' => Stop (∃ (big' : Int), σ' = [some (.ref b), some (.int n), some (.int cell), none, none] ∧ 0 ≤ big' ∧ H' b = some (.lst [.ref c, .int i1, .int big', .int st]) ∧ ExB b H H'), ?_, ?_⟩
      · walk_at "rd"
        walk_at "br"
        · walk_at "rd"
          walk_at "br"
          · walk_at "rd"
            exact .go ⟨cell, rfl, by omega, upd_same, x1.upd⟩
          · exact .go ⟨big, rfl, hbig, hb1, x1⟩
        · walk_at "rd"
          exact .go ⟨big, rfl, hbig, hb1, x1⟩
      · intro σ2 H2 hm
        obtain ⟨big2, rfl, hbig2, hb2, x2⟩ := hm.out
        have hc2 : H2 c = some (HO.lst (List.map V.int cs)) := x2 c _ hcb hc
        have free : ∀ (H3 : Hp), BoxC H3 b c → ∀ l, BoxFree H b l → BoxFree H3 b l := by
          rintro H3 B l ⟨nl, c', ⟨_, _, _, _, f1, _⟩, f6⟩
          rw [hb] at f1
          cases f1
          exact ⟨nl, c, B, f6⟩
        walk_at "rd"
        walk_at "br"
        · walk_at "rd"
          have B : BoxC (L2.upd H2 b (HO.lst [V.ref c, V.int i1, V.int (big2 / n), V.int st])) b c := ⟨cs, i1, big2 / n, st, upd_same, by walk_at "hp", hcb, hi1, Int.ediv_nonneg hbig2 (by omega), hst, hst2⟩
          exact k _ _ (Int.emod_nonneg _ (by omega)) (Int.emod_lt_of_pos _ hn) ⟨c, B⟩ x2.upd (free _ B)
        · walk_at "rd"
          have B : ∀ z : Int, BoxC (L2.upd H2 b (HO.lst [V.ref c, V.int i1, V.int big2, V.int (z % 2147483647)])) b c := fun z => ⟨cs, i1, big2, _, upd_same, by walk_at "hp", hcb, hi1, hbig2, Int.emod_nonneg _ (by decide), Int.emod_lt_of_pos _ (by decide)⟩
          exact k _ _ (Int.emod_nonneg _ (by omega)) (Int.emod_lt_of_pos _ hn) ⟨c, B _⟩ x2.upd (free _ (B _))
theorem sc__law_far : FnScope ["_law_box", "_law_high", "_law_middle"] ["_law_box"] (defScope s__law_far) := ⟨rfl, rfl, rfl, by decide +kernel, rfl, by decide +kernel, by decide +kernel⟩
theorem ok__law_far (T : Txt K mg D) : FnOk P w K mg base CX0 3 D.a__law_far D.d__law_far ["_law_box"] spFar := by
  have G__law_take := ok__law_take (P := P) (w := w) (base := base) T
  refine T.F__law_far.ok sc__law_far (fun vs H Q E h => ?_) (fun cdv A outer s H vs Q E hr h => ?_)
  · obtain ⟨b, rfl, _⟩ := h
    rfl
  · obtain ⟨b, rfl, hb, k⟩ := h
    refine ⟨_, (pss_cons (ps_set (i := 1) sc__law_far.nd rfl (Or.inl rfl) (pe_op op_mul (pe_call G__law_take (hr.mono (by decide)) (by rfl) T.g__law_take T.F__law_take.kp T.b__law_take .nil pass0 (pa_cons (pv 0) (pa_cons (pe_op op_mul pe_int (pe_op op_pow pe_int pe_int)) pa_nil))) (pe_op op_pow pe_int pe_int)))
      (pss_cons (ps_set (i := 2) sc__law_far.nd rfl (Or.inl rfl) (pe_op op_mul (pe_call G__law_take (hr.mono (by decide)) (by rfl) T.g__law_take T.F__law_take.kp T.b__law_take .nil pass0 (pa_cons (pv 0) (pa_cons (pe_op op_pow pe_int pe_int) pa_nil))) (pe_op op_pow pe_int pe_int)))
      (pss_one (ps_ret (pe_op op_add (pe_op op_add (pv 1) (pv 2)) (pe_call G__law_take (hr.mono (by decide)) (by rfl) T.g__law_take T.F__law_take.kp T.b__law_take .nil pass0 (pa_cons (pv 0) (pa_cons (pe_op op_pow pe_int pe_int) pa_nil)))))))), ?_⟩
    walk_at "rd"
    walk_at "dr"
    intro r1 H1 p1 q1 B1 x1 f1
    walk_at "rd"
    walk_at "dr"
    intro r2 H2 p2 q2 B2 x2 f2
    walk_at "rd"
    walk_at "dr"
    intro r3 H3 p3 q3 B3 x3 f3
    walk_at "rd"
    simp only [Int.reduceToNat, Int.reducePow, Int.reduceMul] at *
    exact k _ _ (by omega) (by omega) B3 ((x1.trans x2).trans x3) fun l z => f3 l (f2 l (f1 l z))
theorem sc__law_number : FnScope ["_law_actual", "_law_due"] ["_law_actual", "_law_due"] (defScope s__law_number) := ⟨rfl, rfl, rfl, by decide +kernel, rfl, by decide +kernel, by decide +kernel⟩
theorem ok__law_number (T : Txt K mg D) : FnOk P w K mg base CX0 1 D.a__law_number D.d__law_number ["_law_actual", "_law_due"] spNum := by
  refine T.F__law_number.ok sc__law_number (fun vs H Q E h => ?_) (fun cdv A outer s H vs Q E hr h => ?_)
  · obtain ⟨x, y, rfl, _⟩ := h
    rfl
  · obtain ⟨x, y, rfl, exy, k⟩ := h
    refine ⟨_, (pss_one (ps_ret (pe_and (pe_callB call_isi (by rfl) T.n_isinstance (by decide +kernel) (pa_cons (pv 0) (pa_cons (pe_bltn (v := .ty "int") (u := .type "int") (by rfl) T.n_int (by decide +kernel) rfl) pa_nil))) (pe_and (pe_not (pe_callB call_isi (by rfl) T.n_isinstance (by decide +kernel) (pa_cons (pv 0) (pa_cons (pe_bltn (v := .ty "bool") (u := .type "bool") (by rfl) T.n_bool (by decide +kernel) rfl) pa_nil)))) (pe_one (pe_cmpR op_eq (pv 0) (pv 1) (nomark _))))))), ?_⟩
    walk_at "rd"
    refine ⟨_, _, _, _, true, rfl, .ty "int", .base (.int _), kit_ty (by decide +kernel), ?_⟩
    walk_at "rd"
    refine ⟨_, _, _, _, false, rfl, .ty "bool", .base (.int _), kit_ty (by decide +kernel), ?_⟩
    walk_at "rd"
    have kk : ∀ z : Bool, z = true → Q (.bl z) H := fun z e => e ▸ k
    exact kk _ (by simp [exy])
/-! ### stays -/
def fsS (a b : Int) : List (Str × V) := [("come", .int a), ("go", .int b)]
def StayAt (D : Ad) (H : Hp) (p : Addr) (a b : Int) : Prop := ∃ dx, H p = some (.ins D.c_Stay dx (fsS a b))
theorem StayAt.same {D : Ad} {H H' : Hp} {p : Addr} {a b : Int} (s : StayAt D H p a b) (x : Same H H') : StayAt D H' p a b := let ⟨dx, e⟩ := s; ⟨dx, x _ _ e⟩
theorem StayAt.new {D : Ad} {H : Hp} {p q : Addr} {a b : Int} {o : HO} (s : StayAt D H p a b) (h : H q = none) : StayAt D (L2.upd H q o) p a b := let ⟨dx, e⟩ := s; ⟨dx, by rw [upd_ne (ne_of_none e h)]; exact e⟩
theorem StayAt.exb {D : Ad} {H H' : Hp} {p b : Addr} {x y : Int} (s : StayAt D H p x y) (n : p ≠ b) (e : ExB b H H') : StayAt D H' p x y := let ⟨dx, h⟩ := s; ⟨dx, e _ _ n h⟩
def spInit (D : Ad) : Sp := fun vs H Q E => ∃ (p dx : Addr) (a b : Int), vs = [.ref p, .int a, .int b] ∧ H p = some (.ins D.c_Stay dx []) ∧
  (b < a → Wish D.c_EmptyStay [("go", .int b), ("come", .int a)] H E) ∧
  (a ≤ b → ∀ H', (∀ q o, q ≠ p → H q = some o → H' q = some o) → H' p = some (.ins D.c_Stay dx (fsS a b)) → Q .non H')
theorem mk2 {D : Ad} {H : Hp} {a b : Int} {Q : VK} {E : XK} {x dx : Addr} (nx : H x = none) (nd : H dx = none) (ne : dx ≠ x) (k1 : b < a → Wish D.c_EmptyStay [("go", .int b), ("come", .int a)] H E) (k2 : a ≤ b → ∀ H', Same H H' → StayAt D H' x a b → Q .non H') :
    spInit D [.ref x, .int a, .int b] (L2.upd (L2.upd H dx (.own x)) x (.ins D.c_Stay dx [])) Q E := by
  have old : ∀ q o, H q = some o → (L2.upd (L2.upd H dx (.own x)) x (.ins D.c_Stay dx [])) q = some o := fun q o e => by rw [upd_ne (ne_of_none e nx), upd_ne (ne_of_none e nd)]; exact e
  refine ⟨x, dx, a, b, rfl, upd_same, fun h => fun d H' e s => k1 h d H' e fun q o z => s q o (old q o z), fun h H' s e => k2 h H' (fun q o z => s q o (ne_of_none z nx) (old q o z)) ⟨dx, e⟩⟩
abbrev fs_EmptyStay : List V → Option (List (Str × V)) := fun ws => match ws with | [v0, v1] => some [("go", v1), ("come", v0)] | _ => none
theorem sc_EmptyStay_init : FnScope ["self", "come", "go"] ["self", "come", "go"] (defScope s_EmptyStay_init) := ⟨rfl, rfl, rfl, by decide +kernel, rfl, by decide +kernel, by decide +kernel⟩
theorem ok_EmptyStay_init (T : Txt K mg D) : FnOk P w K mg base CX0 1 D.a_EmptyStay_init D.d_EmptyStay_init ["self", "come", "go"] (spEx D.c_EmptyStay fs_EmptyStay) := by
  refine T.F_EmptyStay_init.ok sc_EmptyStay_init (fun vs H Q E h => ?_) (fun cdv A outer s H vs Q E hr h => ?_)
  · obtain ⟨a, ws, l, rfl, e, _⟩ := h
    match ws, e with
    | [_, _], _ => rfl
  · obtain ⟨a, ws, l, rfl, e, ha, k⟩ := h
    match ws, e with
    | [v0, v1], e =>
      cases e
      refine ⟨_, (pss_cons (ps_ost (pv 0) (pv 1)) (pss_one (ps_ost (pv 0) (pv 2)))), ?_⟩
      walk_at "rd"
      refine init_ex1 (T_ox_EmptyStay T) T.e_EmptyStay_come ha fun d H1 hd hda ea ed x1 => ?_
      walk_at "rd"
      refine init_ex2 (T_ox_EmptyStay T) T.e_EmptyStay_go (by show 1 ≤ 900; decide) ea ed hda fun H2 ea2 ed2 x2 => ?_
      exact k d H2 hd hda ea2 ed2 fun q o hq e => x2 q o hq (ne_of_none e hd) (x1 q o hq e)

theorem sc_Stay_init : FnScope ["self", "come", "go"] ["self", "come", "go"] (defScope s_Stay_init) := ⟨rfl, rfl, rfl, by decide +kernel, rfl, by decide +kernel, by decide +kernel⟩
theorem ok_Stay_init (T : Txt K mg D) : FnOk P w K mg base (L2.CX P w) 3 D.a_Stay_init D.d_Stay_init ["self", "come", "go"] (spInit D) := by
  refine T.F_Stay_init.okX sc_Stay_init (fun vs H Q E h => ?_) (fun cdv A outer s H vs Q E hr h => ?_)
  · obtain ⟨p, dx, a, b, rfl, _⟩ := h
    rfl
  · obtain ⟨p, dx, a, b, rfl, hp, kE, kS⟩ := h
    refine ⟨_, (pss_cons (ps_if (pt_cmpR op_lt (pv 2) (pv 1) (nomark _))
      (pss_one (ps_raise rfl (takes_of rfl rfl rfl rfl) (pmk_oex (T_ox_EmptyStay T) T.m_EmptyStay_init T.xti_EmptyStay (ok_EmptyStay_init T) (hr.mono (by decide)) T.b_EmptyStay_init .nil (fun _ _ _ _ _ _ _ z => z.elim) (by rfl) T.g_EmptyStay (pa_cons (pv 1) (pa_cons (pv 2) pa_nil)))))
      pss_nil)
      (pss_cons (ps_fld (pv 0) (pv 1) rfl)
      (pss_one (ps_fld (pv 0) (pv 2) rfl)))), ?_⟩
    walk_at "rd"
    walk_at "br"
    · walk_at "rd"
      exact mk_ex (by show 2 ≤ 1000; decide) rfl (kE (by omega))
    · walk_at "rd"
      refine ⟨p, _, dx, _, rfl, hp, T_cl_Stay T, T.no_Stay_come, (by show 0 < 1000; decide), ?_⟩
      walk_at "rd"
      refine ⟨p, _, dx, _, rfl, upd_same, T_cl_Stay T, T.no_Stay_go, (by show 1 < 1000; decide), ?_⟩
      refine kS (by omega) _ (fun q o hq e => by rw [upd_ne hq, upd_ne hq]; exact e) ?_
      rw [upd_same]
      rfl
end
end Toy
set_option Elab.async false
set_option linter.all false
set_option maxRecDepth 100000
set_option maxHeartbeats 4000000
namespace Toy
open PySem L2 XR
local macro_rules | `(tactic| walk_at "ne") => `(tactic| first | assumption | (apply Ne.symm; assumption) | exact XR.ne_fresh (by assumption) (by walk_at "hp") | exact Ne.symm (XR.ne_fresh (by assumption) (by walk_at "hp")))
local macro_rules | `(tactic| walk_at "hp") => `(tactic| first | assumption | exact upd_same | (refine Eq.trans (upd_ne ?_) ?_; (walk_at "ne"); walk_at "hp"))
local macro_rules | `(tactic| walk_at "sq") => `(tactic| first | walk_at "hp" | exact SqL.of (by walk_at "hp") | exact SqT.of (by walk_at "hp") | exact XR.SqT.same (by assumption) (by assumption) | exact XR.SqL.same (by assumption) (by assumption))
local macro_rules | `(tactic| walk_at "br") => `(tactic| (refine ite2 ?_ ?_ <;> intro hbr <;> (try simp only [decide_eq_true_eq, decide_eq_false_iff_not, V.int.injEq, V.bl.injEq, V.str.injEq, Bool.not_eq_true, Bool.not_eq_eq_eq_not, Bool.not_true, Bool.not_false, ne_eq, Int.reduceToNat, Int.reducePow, Int.reduceMul, Int.reduceAdd, Int.reduceSub, reduceCtorEq, not_true_eq_false, not_false_eq_true, Int.not_lt, Int.not_le] at hbr)))
local macro_rules | `(tactic| walk_at "side") => `(tactic| first
  | exact ⟨by decide, by decide, by decide⟩
  | exact .inl ⟨by decide, by decide⟩
  | exact .inr ⟨by decide, by decide⟩
  | exact XR.divw (by first | decide | omega) (by first | decide | omega)
  | (show (_ : Int) = _; first | rfl | omega)
  | (show (0 : Int) < _; first | decide | assumption | omega)
  | exact .inl ⟨by omega, by omega⟩
  | exact .inr ⟨by omega, by omega⟩
  | exact .inl (XR.cmul_mod (by decide))
  | exact XR.log_lt (by omega) (by omega)
  | decide
  | (rw [sizeLine_eq]; simp; done)
  | (show 2 ≤ sizeLine; decide) | (show 3 ≤ sizeLine; decide) | (show 4 ≤ sizeLine; decide) | (show 5 ≤ sizeLine; decide) | (show 6 ≤ sizeLine; decide) | (show 7 ≤ sizeLine; decide) | (show 1 ≤ sizeLine; decide) | (show 8 ≤ sizeLine; decide) | (show 0 ≤ sizeLine; decide))
local macro_rules | `(tactic| walk_at "rd1") => `(tactic| first
  | refine ⟨_, rfl, ?_⟩
  | refine ⟨_, _, rfl, rfl, ?_⟩
  | refine ⟨_, _, _, _, rfl, rfl, (by walk_at "sq"), rfl, ?_⟩
  | refine ⟨_, _, _, _, rfl, rfl, (by walk_at "hp"), (by walk_at "hp"), (by walk_at "side"), ?_⟩
  | refine ⟨_, _, rfl, .inl (by walk_at "sq"), ?_⟩
  | refine ⟨_, _, rfl, .inl ⟨(by walk_at "sq"), ?_⟩⟩
  | refine ⟨_, _, rfl, .inr (by walk_at "sq"), ?_⟩
  | refine ⟨_, _, _, _, _, rfl, (by walk_at "hp"), (by walk_at "cls"), (by walk_at "noat"), rfl, ?_⟩
  | refine ⟨_, _, _, _, rfl, rfl, (by walk_at "sq"), (by first | assumption | exact XR.at0 | exact XR.at1), ?_⟩
  | refine ⟨rfl, ?_⟩
  | refine And.intro (by walk_at "side") ?_
  | refine .inl ⟨_, rfl, ?_⟩
  | refine And.intro ⟨_, (by walk_at "sq")⟩ ?_
  | refine ⟨_, _, rfl, (by walk_at "sq"), ?_⟩
  | refine ⟨_, _, rfl, ?_⟩
  | refine .inr ⟨_, rfl, (by walk_at "side"), ?_⟩
  | refine ⟨_, _, _, rfl, (by walk_at "hp"), ?_⟩
  | refine iteT ?_
  | refine iteF ?_)
local macro_rules | `(tactic| walk_at "rd") => `(tactic| repeat (walk_at "rd1"))
local macro_rules | `(tactic| walk_at "nn") => `(tactic| (simp only [Int.reduceToNat, Int.reducePow, Int.reduceMul, Int.reduceAdd, Int.reduceSub, Int.reduceNeg]))
local macro_rules | `(tactic| walk_at "dr") => `(tactic| repeat (first | refine And.intro (by first | assumption | walk_at "pre") ?_ | refine And.intro (by first | decide | omega) ?_))
local macro_rules | `(tactic| walk_at "cls") => `(tactic| first | exact T_cl_Stay (by assumption))
local macro_rules | `(tactic| walk_at "noat") => `(tactic| first | exact Txt.no_Stay_come (by assumption) | exact Txt.no_Stay_go (by assumption))
local macro_rules | `(tactic| walk_at "pre") => `(tactic| first | assumption | exact BoxAt.new (by walk_at "pre") (by assumption) | exact BoxAt.same (by walk_at "pre") (by assumption))
section
variable {P : Program} {w : World} {K : PySem.W.Frag} {mg : Str → Option Value} {base : Heap} {D : Ad}
def Yes (H : Hp) (Q : VK) : Prop := ∀ H', Same H H' → Q (.bl true) H'
theorem Yes.at {H H' : Hp} {Q : VK} {z : Bool} (k : Yes H Q) (e : z = true) (x : Same H H') : Q (.bl z) H' := e ▸ k H' x
def spMeets (D : Ad) : Sp := fun vs H Q _ => ∃ (p q : Addr) (a b c d : Int), vs = [.ref p, .ref q] ∧ StayAt D H p a b ∧ StayAt D H q c d ∧ Q (.bl (decide (a ≤ d ∧ c ≤ b))) H
theorem sc_Stay_meets : FnScope ["self", "other"] ["self", "other"] (defScope s_Stay_meets) := ⟨rfl, rfl, rfl, by decide +kernel, rfl, by decide +kernel, by decide +kernel⟩
theorem ok_Stay_meets (T : Txt K mg D) : FnOk P w K mg base CX0 1 D.a_Stay_meets D.d_Stay_meets ["self", "other"] (spMeets D) := by
  refine T.F_Stay_meets.ok sc_Stay_meets (fun vs H Q E h => ?_) (fun cdv A outer s H vs Q E hr h => ?_)
  · obtain ⟨p, q, a, b, c, d, rfl, _⟩ := h
    rfl
  · obtain ⟨p, q, a, b, c, d, rfl, ⟨dx, hp⟩, ⟨dy, hq⟩, k⟩ := h
    refine ⟨_, (pss_one (ps_ret (pe_and (pe_cmpR op_le (pe_fld (pv 0) rfl) (pe_fld (pv 1) rfl) (nomark _)) (pe_one (pe_cmpR op_le (pe_fld (pv 1) rfl) (pe_fld (pv 0) rfl) (nomark _)))))), ?_⟩
    have kk : ∀ z : Bool, z = decide (a ≤ d ∧ c ≤ b) → Q (.bl z) H := fun z e => e ▸ k
    walk_at "rd"
    walk_at "br"
    · rename_i hb
      walk_at "rd"
      exact kk _ (by simp [hb])
    · rename_i hb
      exact kk _ (by simp [hb]; omega)
def spWithin (D : Ad) : Sp := fun vs H Q _ => ∃ (p q : Addr) (a b c d : Int), vs = [.ref p, .ref q] ∧ StayAt D H p a b ∧ StayAt D H q c d ∧ Q (.bl (decide (c ≤ a ∧ b ≤ d))) H
theorem sc_Stay_within : FnScope ["self", "other"] ["self", "other"] (defScope s_Stay_within) := ⟨rfl, rfl, rfl, by decide +kernel, rfl, by decide +kernel, by decide +kernel⟩
theorem ok_Stay_within (T : Txt K mg D) : FnOk P w K mg base CX0 1 D.a_Stay_within D.d_Stay_within ["self", "other"] (spWithin D) := by
  refine T.F_Stay_within.ok sc_Stay_within (fun vs H Q E h => ?_) (fun cdv A outer s H vs Q E hr h => ?_)
  · obtain ⟨p, q, a, b, c, d, rfl, _⟩ := h
    rfl
  · obtain ⟨p, q, a, b, c, d, rfl, ⟨dx, hp⟩, ⟨dy, hq⟩, k⟩ := h
    refine ⟨_, (pss_one (ps_ret (pe_and (pe_cmpR op_le (pe_fld (pv 1) rfl) (pe_fld (pv 0) rfl) (nomark _)) (pe_one (pe_cmpR op_le (pe_fld (pv 0) rfl) (pe_fld (pv 1) rfl) (nomark _)))))), ?_⟩
    have kk : ∀ z : Bool, z = decide (c ≤ a ∧ b ≤ d) → Q (.bl z) H := fun z e => e ▸ k
    walk_at "rd"
    walk_at "br"
    · rename_i hb
      walk_at "rd"
      exact kk _ (by simp [hb])
    · rename_i hb
      exact kk _ (by simp [hb]; omega)
def spCrosses (D : Ad) : Sp := fun vs H Q _ => ∃ (p q : Addr) (a b c d : Int), vs = [.ref p, .ref q] ∧ StayAt D H p a b ∧ StayAt D H q c d ∧ Q (.bl (decide ((a ≤ d ∧ c ≤ b) ∧ ¬(c ≤ a ∧ b ≤ d) ∧ ¬(a ≤ c ∧ d ≤ b)))) H
theorem sc_Stay_crosses : FnScope ["self", "other"] ["self", "other"] (defScope s_Stay_crosses) := ⟨rfl, rfl, rfl, by decide +kernel, rfl, by decide +kernel, by decide +kernel⟩
theorem ok_Stay_crosses (T : Txt K mg D) : FnOk P w K mg base CX0 3 D.a_Stay_crosses D.d_Stay_crosses ["self", "other"] (spCrosses D) := by
  have G_Stay_within := ok_Stay_within (P := P) (w := w) (base := base) T
  have G_Stay_meets := ok_Stay_meets (P := P) (w := w) (base := base) T
  refine T.F_Stay_crosses.ok sc_Stay_crosses (fun vs H Q E h => ?_) (fun cdv A outer s H vs Q E hr h => ?_)
  · obtain ⟨p, q, a, b, c, d, rfl, _⟩ := h
    rfl
  · obtain ⟨p, q, a, b, c, d, rfl, S1, S2, k⟩ := h
    refine ⟨_, (pss_one (ps_ret (pe_and (pe_meth (pv 0) (T_cl_Stay T) (T_m_Stay_meets T) G_Stay_meets (hr.mono (by decide)) T.b_Stay_meets .nil pass0 (pa_cons (pv 1) pa_nil)) (pe_and (pe_not (pe_meth (pv 0) (T_cl_Stay T) (T_m_Stay_within T) G_Stay_within (hr.mono (by decide)) T.b_Stay_within .nil pass0 (pa_cons (pv 1) pa_nil))) (pe_one (pe_not (pe_meth (pv 1) (T_cl_Stay T) (T_m_Stay_within T) G_Stay_within (hr.mono (by decide)) T.b_Stay_within .nil pass0 (pa_cons (pv 0) pa_nil)))))))), ?_⟩
    obtain ⟨dx, hp⟩ := id S1
    obtain ⟨dy, hq⟩ := id S2
    have kk : ∀ z : Bool, z = decide ((a ≤ d ∧ c ≤ b) ∧ ¬(c ≤ a ∧ b ≤ d) ∧ ¬(a ≤ c ∧ d ≤ b)) → Q (.bl z) H := fun z e => e ▸ k
    walk_at "rd"
    refine ⟨p, q, a, b, c, d, rfl, S1, S2, ?_⟩
    walk_at "rd"
    walk_at "br"
    · rename_i h1
      walk_at "rd"
      refine ⟨p, q, a, b, c, d, rfl, S1, S2, ?_⟩
      walk_at "rd"
      walk_at "br"
      · rename_i h2
        walk_at "rd"
        refine ⟨q, p, c, d, a, b, rfl, S2, S1, ?_⟩
        walk_at "rd"
        refine kk _ ?_
        rw [← decide_not]
        exact decide_eq_decide.mpr (by omega)
      · rename_i h2
        exact kk _ (decide_eq_false (by omega)).symm
    · rename_i h1
      exact kk _ (decide_eq_false (by omega)).symm
/-- stays, made anew -/
def StaysAt (D : Ad) (H : Hp) (vs : List V) (rs : List (Int × Int)) : Prop := Paired (fun v r => ∃ p, v = .ref p ∧ StayAt D H p r.1 r.2) vs rs
theorem StaysAt.mono {D : Ad} {H H' : Hp} (h : ∀ p a b, StayAt D H p a b → StayAt D H' p a b) : ∀ {vs : List V} {rs : List (Int × Int)}, StaysAt D H vs rs → StaysAt D H' vs rs
  | _, _, .nil => .nil
  | _, _, .cons ⟨t, e, x⟩ r => .cons ⟨t, e, h _ _ _ x⟩ (StaysAt.mono h r)
theorem StaysAt.get {D : Ad} {H : Hp} : ∀ {vs : List V} {rs : List (Int × Int)} {i : Nat} {r : Int × Int}, StaysAt D H vs rs → rs[i]? = some r → ∃ p, vs[i]? = some (.ref p) ∧ StayAt D H p r.1 r.2
  | _, _, i, _, .nil, e => by cases i <;> cases e
  | _, _, 0, _, .cons ⟨t, h, x⟩ _, e => by cases e; exact ⟨t, by rw [h]; rfl, x⟩
  | _, _, i + 1, _, .cons _ r, e => StaysAt.get (i := i) r e
theorem StayAt.put {D : Ad} {H : Hp} {l p : Addr} {xs : List V} {o : HO} {a b : Int} (hl : H l = some (.lst xs)) (s : StayAt D H p a b) : StayAt D (L2.upd H l o) p a b := by
  obtain ⟨dx, e⟩ := s
  exact ⟨dx, by rw [upd_ne (ne_of e hl (by intro z; cases z))]; exact e⟩
def psOf (a b c d : Int) : List (Int × Int) := if a ≤ d ∧ c ≤ b then (if a < c then [(a, c - 1)] else []) ++ (if d < b then [(d + 1, b)] else []) else [(a, b)]
def spParts (D : Ad) : Sp := fun vs H Q _ => ∃ (p q : Addr) (a b c d : Int), vs = [.ref p, .ref q] ∧ StayAt D H p a b ∧ StayAt D H q c d ∧ a ≤ b ∧ c ≤ d ∧ ∀ l H' vs, H l = none → Same H H' → H' l = some (.lst vs) → StaysAt D H' vs (psOf a b c d) → Q (.ref l) H'
theorem sc_Stay_parts_without : FnScope ["self", "other", "parts"] ["self", "other"] (defScope s_Stay_parts_without) := ⟨rfl, rfl, rfl, by decide +kernel, rfl, by decide +kernel, by decide +kernel⟩
theorem ok_Stay_parts_without (T : Txt K mg D) : FnOk P w K mg base CX0 5 D.a_Stay_parts_without D.d_Stay_parts_without ["self", "other"] (spParts D) := by
  have G_Stay_init := ok_Stay_init (P := P) (w := w) (base := base) T
  have G_Stay_meets := ok_Stay_meets (P := P) (w := w) (base := base) T
  refine T.F_Stay_parts_without.ok sc_Stay_parts_without (fun vs H Q E h => ?_) (fun cdv A outer s H vs Q E hr h => ?_)
  · obtain ⟨p, q, a, b, c, d, rfl, _⟩ := h
    rfl
  · obtain ⟨p, q, a, b, c, d, rfl, S1, S2, hab, hcd, k⟩ := h
    refine ⟨_, (pss_cons (ps_if (pt_not (pt_val (pe_meth (pv 0) (T_cl_Stay T) (T_m_Stay_meets T) G_Stay_meets (hr.mono (by decide)) T.b_Stay_meets .nil pass0 (pa_cons (pv 1) pa_nil))))
      (pss_one (ps_ret (pe_lst (pa_cons (pe_make (T_mk_Stay T) G_Stay_init (hr.mono (by decide)) (by rfl) T.g_Stay T.b_Stay_init .nil passL (pa_cons (pe_fld (pv 0) rfl) (pa_cons (pe_fld (pv 0) rfl) pa_nil))) pa_nil))))
      pss_nil)
      (pss_cons (ps_set (i := 2) sc_Stay_parts_without.nd rfl (Or.inl rfl) (pe_lst pa_nil))
      (Evl.pss_cut (ps_if (pt_cmpR op_lt (pe_fld (pv 0) rfl) (pe_fld (pv 1) rfl) (nomark _))
      (pss_one (ps_expr (pe_bm PySem.F.plainAttrs_list PySem.F.slot_list_append PySem.F.type_list_append mt_append (pv 2) (pa_cons (pe_make (T_mk_Stay T) G_Stay_init (hr.mono (by decide)) (by rfl) T.g_Stay T.b_Stay_init .nil passL (pa_cons (pe_fld (pv 0) rfl) (pa_cons (pe_op op_sub (pe_fld (pv 1) rfl) pe_int) pa_nil))) pa_nil))))
      pss_nil)
      (Evl.pss_cut (ps_if (pt_cmpR op_lt (pe_fld (pv 1) rfl) (pe_fld (pv 0) rfl) (nomark _))
      (pss_one (ps_expr (pe_bm PySem.F.plainAttrs_list PySem.F.slot_list_append PySem.F.type_list_append mt_append (pv 2) (pa_cons (pe_make (T_mk_Stay T) G_Stay_init (hr.mono (by decide)) (by rfl) T.g_Stay T.b_Stay_init .nil passL (pa_cons (pe_op op_add (pe_fld (pv 1) rfl) pe_int) (pa_cons (pe_fld (pv 0) rfl) pa_nil))) pa_nil))))
      pss_nil)
      (pss_one (ps_ret (pv 2))))))), ?_⟩
    obtain ⟨dx, hp⟩ := id S1
    obtain ⟨dy, hq⟩ := id S2
    unfold psOf at k
    walk_at "rd"
    refine ⟨p, q, a, b, c, d, rfl, S1, S2, ?_⟩
    walk_at "rd"
    walk_at "br"
    · rename_i h1
      rw [if_neg h1] at k
      walk_at "rd"
      intro r dr nr nd ne
      refine mk2 nr nd ne (fun h => by omega) fun _ H1 x1 s1 => ⟨rfl, ?_⟩
      walk_at "rd"
      intro l hl
      exact k l _ _ (none_back x1 hl) (x1.trans (Same.add hl)) upd_same (.cons ⟨r, rfl, s1.new hl⟩ .nil)
    · rename_i h1
      rw [if_pos (by omega)] at k
      walk_at "rd"
      intro l hl
      walk_at "rd"
      refine ⟨fun σ' H' => Stop (∃ vs, σ' = [some (.ref p), some (.ref q), some (.ref l)] ∧ Same H H' ∧ H' l = some (.lst vs) ∧ StaysAt D H' vs (if a < c then [(a, c - 1)] else [])), ?_, fun σ1 H1 hm => ?_⟩
      · have hp1 : (L2.upd H l (.lst [])) p = some (.ins D.c_Stay dx (fsS a b)) := (Same.add hl) _ _ hp
        have hq1 : (L2.upd H l (.lst [])) q = some (.ins D.c_Stay dy (fsS c d)) := (Same.add hl) _ _ hq
        walk_at "rd"
        walk_at "br"
        · rename_i h2
          rw [if_pos h2]
          walk_at "rd"
          refine ⟨.inl ⟨rfl, _, SqL.of upd_same⟩, ?_⟩
          walk_at "rd"
          intro r dr nr nd ne
          refine mk2 nr nd ne (fun h => by omega) fun _ H2 x2 s2 => ⟨rfl, ?_⟩
          have el : H2 l = some (.lst []) := x2 _ _ upd_same
          refine ⟨l, [], .ref r, rfl, rfl, el, by decide, ?_⟩
          refine .go ⟨_, rfl, fun z o e => ?_, upd_same, .cons ⟨r, rfl, s2.put el⟩ .nil⟩
          rw [upd_ne (ne_of_none e hl)]
          exact x2 _ _ ((Same.add hl) _ _ e)
        · rename_i h2
          rw [if_neg (by omega)]
          exact .go ⟨_, rfl, Same.add hl, upd_same, .nil⟩
      · obtain ⟨vs, rfl, x1, el1, st1⟩ := hm.out
        have hp1 := x1 _ _ hp
        have hq1 := x1 _ _ hq
        have hl1 : vs.length ≤ 1 := by
          have := Paired.length st1
          rw [this]
          split <;> simp
        walk_at "rd"
        refine ⟨fun σ' H' => Stop (∃ vs, σ' = [some (.ref p), some (.ref q), some (.ref l)] ∧ Same H H' ∧ H' l = some (.lst vs) ∧ StaysAt D H' vs ((if a < c then [(a, c - 1)] else []) ++ (if d < b then [(d + 1, b)] else []))), ?_, fun σ2 H2 hm => ?_⟩
        · walk_at "rd"
          walk_at "br"
          · rename_i h2
            rw [if_pos h2]
            walk_at "rd"
            refine ⟨.inl ⟨rfl, _, SqL.of el1⟩, ?_⟩
            walk_at "rd"
            intro r dr nr nd ne
            refine mk2 nr nd ne (fun h => by omega) fun _ H2 x2 s2 => ⟨rfl, ?_⟩
            have el := x2 _ _ el1
            refine ⟨l, vs, .ref r, rfl, rfl, el, by rw [sizeLine_eq]; omega, ?_⟩
            refine .go ⟨_, rfl, fun z o e => ?_, upd_same, Paired.snoc (StaysAt.mono (fun _ _ _ x => StayAt.put el (x.same x2)) st1) ⟨r, rfl, s2.put el⟩⟩
            rw [upd_ne (ne_of_none e hl)]
            exact x2 _ _ (x1 _ _ e)
          · rename_i h2
            rw [if_neg (show ¬ d < b by omega), List.append_nil]
            exact .go ⟨_, rfl, x1, el1, st1⟩
        · obtain ⟨vs2, rfl, x2, el2, st2⟩ := hm.out
          walk_at "rd"
          exact k l _ _ hl x2 el2 st2
def spAround (D : Ad) : Sp := fun vs H Q E => ∃ (l : Addr) (ns : List Int), vs = [.ref l] ∧ SqA K H l (ns.map V.int) ∧ (ns = [] → E (.ref D.c_NoDays) none H) ∧ (ns ≠ [] → ∀ m M p H', m ∈ ns → (∀ y ∈ ns, m ≤ y) → M ∈ ns → (∀ y ∈ ns, y ≤ M) → H p = none → Same H H' → StayAt D H' p m M → Q (.ref p) H')
theorem sc_Stay_around : FnScope ["days"] ["days"] (defScope s_Stay_around) := ⟨rfl, rfl, rfl, by decide +kernel, rfl, by decide +kernel, by decide +kernel⟩
theorem ok_Stay_around (T : Txt K mg D) : FnOk P w K mg base (L2.CX P w) 5 D.a_Stay_around D.d_Stay_around ["days"] (spAround (K := K) D) := by
  have G_Stay_init := ok_Stay_init (P := P) (w := w) (base := base) T
  refine T.F_Stay_around.okX sc_Stay_around (fun vs H Q E h => ?_) (fun cdv A outer s H vs Q E hr h => ?_)
  · obtain ⟨l, ns, rfl, _⟩ := h
    rfl
  · obtain ⟨l, ns, rfl, hl, kE, kS⟩ := h
    refine ⟨_, (pss_cons (ps_if (pt_cmpR op_eq (pe_callB call_len_seq (by rfl) T.n_len (by decide +kernel) (pa_cons (pv 0) pa_nil)) pe_int (nomark _))
      (pss_one (ps_raise rfl (takes_of rfl rfl rfl rfl) (XR.pmk_own0 PySem.F.excBase_ValueError T.xq_NoDays T.g_NoDays T.k_NoDays (raises_own T.xbe_NoDays T.xty_NoDays) (by rfl))))
      pss_nil)
      (pss_one (ps_ret (pe_make (T_mk_Stay T) G_Stay_init (hr.mono (by decide)) (by rfl) T.g_Stay T.b_Stay_init .nil passL (pa_cons (pe_callB (XR.cr_minQ rfl) (by rfl) T.n_min (by decide +kernel) (pa_cons (pv 0) pa_nil)) (pa_cons (pe_callB (XR.cr_maxQ rfl) (by rfl) T.n_max (by decide +kernel) (pa_cons (pv 0) pa_nil)) pa_nil)))))), ?_⟩
    walk_at "rd"
    walk_at "br"
    · rename_i hb
      walk_at "rd"
      exact kE (List.eq_nil_of_length_eq_zero (by rw [List.length_map] at hb; omega))
    · rename_i hb
      have hn : ns ≠ [] := fun z => hb (by rw [z]; rfl)
      have hpos : 0 < ns.length := List.length_pos_iff.mpr hn
      walk_at "rd"
      refine ⟨hpos, fun m m1 m2 => ?_⟩
      walk_at "rd"
      refine ⟨hpos, fun M M1 M2 => ?_⟩
      walk_at "rd"
      intro r dr nr nd ne
      exact mk2 nr nd ne (fun h => absurd (m2 _ M1) (by omega)) fun _ H1 x1 s1 => ⟨rfl, kS hn m M r H1 m1 m2 M1 M2 nr x1 s1⟩
end
end Toy
set_option Elab.async false
set_option linter.all false
set_option maxRecDepth 100000
set_option maxHeartbeats 4000000
namespace Toy
open PySem L2 XR
local macro_rules | `(tactic| walk_at "ne") => `(tactic| first | assumption | (apply Ne.symm; assumption) | exact XR.ne_fresh (by assumption) (by walk_at "hp") | exact Ne.symm (XR.ne_fresh (by assumption) (by walk_at "hp")))
local macro_rules | `(tactic| walk_at "hp") => `(tactic| first | assumption | exact upd_same | (refine Eq.trans (upd_ne ?_) ?_; (walk_at "ne"); walk_at "hp"))
local macro_rules | `(tactic| walk_at "sq") => `(tactic| first | walk_at "hp" | exact SqL.of (by walk_at "hp") | exact SqT.of (by walk_at "hp") | exact XR.SqT.same (by assumption) (by assumption) | exact XR.SqL.same (by assumption) (by assumption))
local macro_rules | `(tactic| walk_at "br") => `(tactic| (refine ite2 ?_ ?_ <;> intro hbr <;> (try simp only [decide_eq_true_eq, decide_eq_false_iff_not, V.int.injEq, V.bl.injEq, V.str.injEq, Bool.not_eq_true, Bool.not_eq_eq_eq_not, Bool.not_true, Bool.not_false, ne_eq, Int.reduceToNat, Int.reducePow, Int.reduceMul, Int.reduceAdd, Int.reduceSub, reduceCtorEq, not_true_eq_false, not_false_eq_true, Int.not_lt, Int.not_le] at hbr)))
local macro_rules | `(tactic| walk_at "side") => `(tactic| first
  | exact ⟨by decide, by decide, by decide⟩
  | exact .inl ⟨by decide, by decide⟩
  | exact .inr ⟨by decide, by decide⟩
  | exact XR.divw (by first | decide | omega) (by first | decide | omega)
  | (show (_ : Int) = _; first | rfl | omega)
  | (show (0 : Int) < _; first | decide | assumption | omega)
  | exact .inl ⟨by omega, by omega⟩
  | exact .inr ⟨by omega, by omega⟩
  | exact .inl (XR.cmul_mod (by decide))
  | exact XR.log_lt (by omega) (by omega)
  | decide
  | (rw [sizeLine_eq]; simp; done)
  | (show 2 ≤ sizeLine; decide) | (show 3 ≤ sizeLine; decide) | (show 4 ≤ sizeLine; decide) | (show 5 ≤ sizeLine; decide) | (show 6 ≤ sizeLine; decide) | (show 7 ≤ sizeLine; decide) | (show 1 ≤ sizeLine; decide) | (show 8 ≤ sizeLine; decide) | (show 0 ≤ sizeLine; decide))
local macro_rules | `(tactic| walk_at "rd1") => `(tactic| first
  | refine ⟨_, rfl, ?_⟩
  | refine ⟨_, _, rfl, rfl, ?_⟩
  | refine ⟨_, _, _, _, rfl, rfl, (by walk_at "sq"), rfl, ?_⟩
  | refine ⟨_, _, _, _, rfl, rfl, (by walk_at "hp"), (by walk_at "hp"), (by walk_at "side"), ?_⟩
  | refine ⟨_, _, rfl, .inl (by walk_at "sq"), ?_⟩
  | refine ⟨_, _, rfl, .inl ⟨(by walk_at "sq"), ?_⟩⟩
  | refine ⟨_, _, rfl, .inr (by walk_at "sq"), ?_⟩
  | refine ⟨_, _, _, _, _, rfl, (by walk_at "hp"), (by walk_at "cls"), (by walk_at "noat"), rfl, ?_⟩
  | refine ⟨_, _, _, _, rfl, rfl, (by walk_at "sq"), (by first | assumption | exact XR.at0 | exact XR.at1), ?_⟩
  | refine ⟨rfl, ?_⟩
  | refine And.intro (by walk_at "side") ?_
  | refine .inl ⟨_, rfl, ?_⟩
  | refine And.intro ⟨_, (by walk_at "sq")⟩ ?_
  | refine ⟨_, _, rfl, (by walk_at "sq"), ?_⟩
  | refine ⟨_, _, rfl, ?_⟩
  | refine .inr ⟨_, rfl, (by walk_at "side"), ?_⟩
  | refine ⟨_, _, _, rfl, (by walk_at "hp"), ?_⟩
  | refine iteT ?_
  | refine iteF ?_)
local macro_rules | `(tactic| walk_at "rd") => `(tactic| repeat (walk_at "rd1"))
local macro_rules | `(tactic| walk_at "nn") => `(tactic| (simp only [Int.reduceToNat, Int.reducePow, Int.reduceMul, Int.reduceAdd, Int.reduceSub, Int.reduceNeg]))
local macro_rules | `(tactic| walk_at "dr") => `(tactic| repeat (first | refine And.intro (by first | assumption | walk_at "pre") ?_ | refine And.intro (by first | decide | omega) ?_))
local macro_rules | `(tactic| walk_at "cls") => `(tactic| first | exact T_cl_Stay (by assumption))
local macro_rules | `(tactic| walk_at "noat") => `(tactic| first | exact Txt.no_Stay_come (by assumption) | exact Txt.no_Stay_go (by assumption))
local macro_rules | `(tactic| walk_at "pre") => `(tactic| first | assumption | exact BoxAt.new (by walk_at "pre") (by assumption) | exact BoxAt.same (by walk_at "pre") (by assumption))
section
variable {P : Program} {w : World} {K : PySem.W.Frag} {mg : Str → Option Value} {base : Heap} {D : Ad}
/-! ### the law's helpers -/
/-- a list comes back, made anew -/
def NewList (K : PySem.W.Frag) (G H : Hp) (out : List PyData) (Q : VK) : Prop := ∀ l G' H' acc, Grow K G H l out G' H' acc → Q (.ref l) H'
abbrev g (S : List Int) (i : Int) : Int := S.getD i.toNat 0
theorem S_at {S : List Int} {i : Int} (h0 : 0 ≤ i) (h : i < (S.length : Int)) : atI (S.map V.int) i = some (.int (g S i)) := by
  have hl : i.toNat < S.length := by omega
  refine at_of (j := i.toNat) (by omega) ?_
  rw [List.getElem?_map, List.getElem?_eq_getElem hl]
  show some (V.int S[i.toNat]) = some (V.int (S.getD i.toNat 0))
  rw [List.getD_eq_getElem?_getD, List.getElem?_eq_getElem hl]
  rfl
theorem S_lt {S : List Int} (P : S.Pairwise (· < ·)) {i j : Int} (h0 : 0 ≤ i) (hij : i < j) (h : j < (S.length : Int)) : g S i < g S j := by
  have hi : i.toNat < S.length := by omega
  have hj : j.toNat < S.length := by omega
  show S.getD i.toNat 0 < S.getD j.toNat 0
  rw [List.getD_eq_getElem?_getD, List.getElem?_eq_getElem hi, List.getD_eq_getElem?_getD, List.getElem?_eq_getElem hj]
  exact List.pairwise_iff_getElem.mp P i.toNat j.toNat hi hj (by omega)
def TupAt (H : Hp) (t : Addr) (a b : Int) : Prop := H t = some (.tup [.int a, .int b])
def spIs (D : Ad) : Sp := fun vs H Q _ => ∃ (p t : Addr) (a b : Int), vs = [.ref p, .ref t] ∧ StayAt D H p a b ∧ TupAt H t a b ∧ Q (.bl true) H
theorem sc__law_is : FnScope ["_law_stay", "_law_days_here"] ["_law_stay", "_law_days_here"] (defScope s__law_is) := ⟨rfl, rfl, rfl, by decide +kernel, rfl, by decide +kernel, by decide +kernel⟩
theorem ok__law_is (T : Txt K mg D) : FnOk P w K mg base CX0 3 D.a__law_is D.d__law_is ["_law_stay", "_law_days_here"] (spIs D) := by
  have G__law_number := ok__law_number (P := P) (w := w) (base := base) T
  refine T.F__law_is.ok sc__law_is (fun vs H Q E h => ?_) (fun cdv A outer s H vs Q E hr h => ?_)
  · obtain ⟨p, t, a, b, rfl, _⟩ := h
    rfl
  · obtain ⟨p, t, a, b, rfl, ⟨dx, hp⟩, ht, k⟩ := h
    refine ⟨_, (pss_cons (ps_if (pt_not (pt_val (pe_callB call_isi (by rfl) T.n_isinstance (by decide +kernel) (pa_cons (pv 0) (pa_cons (pe_glob (v := .ref D.c_Stay) (by rfl) T.g_Stay rfl) pa_nil)))))
      (pss_one (ps_ret pe_bl))
      pss_nil)
      (pss_one (ps_ret (pe_and (pe_call G__law_number (hr.mono (by decide)) (by rfl) T.g__law_number T.F__law_number.kp T.b__law_number .nil pass0 (pa_cons (pe_fld (pv 0) rfl) (pa_cons (pe_ix ix_tup (pv 1) pe_int (fun _ _ => rfl)) pa_nil))) (pe_one (pe_call G__law_number (hr.mono (by decide)) (by rfl) T.g__law_number T.F__law_number.kp T.b__law_number .nil pass0 (pa_cons (pe_fld (pv 0) rfl) (pa_cons (pe_ix ix_tup (pv 1) pe_int (fun _ _ => rfl)) pa_nil)))))))), ?_⟩
    unfold TupAt at ht
    have ht' := SqT.of (K := K) ht
    walk_at "rd"
    refine ⟨_, _, _, _, true, rfl, .own D.c_Stay, T_ty_Stay T hp, T.z_Stay, ?_⟩
    walk_at "rd"
    exact k
def spTruth : Sp := fun vs H Q _ => ∃ x y : Bool, vs = [.bl x, .bl y] ∧ x = y ∧ Q (.bl true) H
theorem sc__law_truth : FnScope ["_law_actual", "_law_due"] ["_law_actual", "_law_due"] (defScope s__law_truth) := ⟨rfl, rfl, rfl, by decide +kernel, rfl, by decide +kernel, by decide +kernel⟩
theorem ok__law_truth (T : Txt K mg D) : FnOk P w K mg base CX0 1 D.a__law_truth D.d__law_truth ["_law_actual", "_law_due"] spTruth := by
  refine T.F__law_truth.ok sc__law_truth (fun vs H Q E h => ?_) (fun cdv A outer s H vs Q E hr h => ?_)
  · obtain ⟨x, y, rfl, _⟩ := h
    rfl
  · obtain ⟨x, y, rfl, exy, k⟩ := h
    refine ⟨_, (pss_one (ps_ret (pe_and (pe_callB call_isi (by rfl) T.n_isinstance (by decide +kernel) (pa_cons (pv 0) (pa_cons (pe_bltn (v := .ty "bool") (u := .type "bool") (by rfl) T.n_bool (by decide +kernel) rfl) pa_nil))) (pe_one (pe_cmpR op_eq (pv 0) (pv 1) (nomark _)))))), ?_⟩
    subst exy
    walk_at "rd"
    refine ⟨_, _, _, _, true, rfl, .ty "bool", .base (.bl _), kit_ty (by decide +kernel), ?_⟩
    walk_at "rd"
    have kk : ∀ z : Bool, z = true → Q (.bl z) H := fun z e => e ▸ k
    exact kk _ (by simp)
def StOk (S : List Int) : Prop := S.length = 11 ∧ S.Pairwise (· < ·)
def spStarts : Sp := fun vs H Q _ => ∃ (b : Addr), vs = [.ref b] ∧ BoxAt H b ∧ ∀ l H' S, H l = none → l ≠ b → H' l = some (.lst (S.map V.int)) → StOk S → BoxAt H' b → ExB b H H' → Q (.ref l) H'
theorem sc__law_starts : FnScope ["_law_box", "_law_start", "_law_starts_here", "_law_k"] ["_law_box"] (defScope s__law_starts) := ⟨rfl, rfl, rfl, by decide +kernel, rfl, by decide +kernel, by decide +kernel⟩
theorem ok__law_starts (T : Txt K mg D) : FnOk P w K mg base CX0 5 D.a__law_starts D.d__law_starts ["_law_box"] spStarts := by
  have G__law_take := ok__law_take (P := P) (w := w) (base := base) T
  have G__law_far := ok__law_far (P := P) (w := w) (base := base) T
  refine T.F__law_starts.ok sc__law_starts (fun vs H Q E h => ?_) (fun cdv A outer s H vs Q E hr h => ?_)
  · obtain ⟨b, rfl, _⟩ := h
    rfl
  · obtain ⟨b, rfl, B, k⟩ := h
    refine ⟨_, (pss_cons (ps_set (i := 1) sc__law_starts.nd rfl (Or.inl rfl) (pe_op op_sub (pe_call G__law_take (hr.mono (by decide)) (by rfl) T.g__law_take T.F__law_take.kp T.b__law_take .nil pass0 (pa_cons (pv 0) (pa_cons pe_int pa_nil))) pe_int))
      (Evl.pss_cut (ps_if (pt_cmpR op_eq (pe_call G__law_take (hr.mono (by decide)) (by rfl) T.g__law_take T.F__law_take.kp T.b__law_take .nil pass0 (pa_cons (pv 0) (pa_cons pe_int pa_nil))) pe_int (nomark _))
      (pss_cons (ps_set (i := 1) sc__law_starts.nd rfl (Or.inl rfl) (pe_call G__law_far (hr.mono (by decide)) (by rfl) T.g__law_far T.F__law_far.kp T.b__law_far .nil pass0 (pa_cons (pv 0) pa_nil)))
      (pss_one (ps_if (pt_cmpR op_eq (pe_call G__law_take (hr.mono (by decide)) (by rfl) T.g__law_take T.F__law_take.kp T.b__law_take .nil pass0 (pa_cons (pv 0) (pa_cons pe_int pa_nil))) pe_int (nomark _))
      (pss_one (ps_set (i := 1) sc__law_starts.nd rfl (Or.inl rfl) (pe_un un_neg (pv 1))))
      pss_nil)))
      pss_nil)
      (pss_cons (ps_set (i := 2) sc__law_starts.nd rfl (Or.inl rfl) (pe_lst (pa_cons (pv 1) pa_nil)))
      (pss_cons (ps_for PassesOwn.never rfl (pi_range1 (by rfl) T.n_range (pa_cons pe_int pa_nil)) (pg_name (i := 3) sc__law_starts.nd rfl (Or.inl rfl))
      (pss_cons (ps_set (i := 1) sc__law_starts.nd rfl (Or.inl rfl) (pe_op op_add (pv 1) (pe_ix ix_list (pe_lst (pa_cons pe_int (pa_cons pe_int (pa_cons pe_int (pa_cons pe_int (pa_cons pe_int (pa_cons (pe_op op_add (pe_op op_pow pe_int pe_int) pe_int) (pa_cons (pe_op op_mul pe_int (pe_op op_pow pe_int pe_int)) pa_nil)))))))) (pe_call G__law_take (hr.mono (by decide)) (by rfl) T.g__law_take T.F__law_take.kp T.b__law_take .nil pass0 (pa_cons (pv 0) (pa_cons pe_int pa_nil))) (fun _ _ => rfl))))
      (pss_one (ps_expr (pe_bm PySem.F.plainAttrs_list PySem.F.slot_list_append PySem.F.type_list_append mt_append (pv 2) (pa_cons (pv 1) pa_nil))))))
      (pss_one (ps_ret (pv 2))))))), ?_⟩
    walk_at "rd"
    walk_at "dr"
    intro r1 H1 p1 q1 B1 x1 _
    walk_at "rd"
    refine ⟨fun σ' H' => Stop (∃ s0 : Int, σ' = [some (.ref b), some (.int s0), none, none] ∧ BoxAt H' b ∧ ExB b H H'), ?_, fun σ2 H2 hm => ?_⟩
    · walk_at "rd"
      walk_at "dr"
      intro r2 H2 p2 q2 B2 x2 _
      walk_at "rd"
      walk_at "br"
      · walk_at "rd"
        walk_at "dr"
        intro r3 H3 p3 q3 B3 x3 _
        walk_at "rd"
        walk_at "dr"
        intro r4 H4 p4 q4 B4 x4 _
        walk_at "rd"
        walk_at "br"
        · walk_at "rd"
          exact .go ⟨_, rfl, B4, (x1.trans x2).trans (x3.trans x4)⟩
        · exact .go ⟨_, rfl, B4, (x1.trans x2).trans (x3.trans x4)⟩
      · exact .go ⟨_, rfl, B2, x1.trans x2⟩
    · obtain ⟨s0, rfl, B2, x2⟩ := hm.out
      walk_at "rd"
      intro l hl
      have nl : l ≠ b := BoxAt.ne B2 hl
      walk_at "rd"
      refine for_range (fun i σ H' => Stop (∃ (s1 : Int) (S : List Int) (v : Option V), σ = [some (.ref b), some (.int s1), some (.ref l), v] ∧ H' l = some (.lst (S.map V.int)) ∧ S.length = i + 1 ∧ S.Pairwise (· < ·) ∧ (∀ x ∈ S, x ≤ s1) ∧ BoxFree H' b l ∧ ∀ q o, q ≠ b → H2 q = some o → H' q = some o))
        (.go ⟨s0, [s0], none, rfl, upd_same, rfl, List.pairwise_singleton _ _, fun x hx => by rw [List.mem_singleton.mp hx]; exact Int.le_refl _, BoxFree.of B2 hl, fun q o _ e => (Same.add hl) _ _ e⟩) ?_ ?_
      · intro i σ H3 hi hm
        obtain ⟨s1, S, v, rfl, el, hlen, hP, hle, F, x3⟩ := hm.out
        have B3 := F.at
        walk_at "rd"
        intro la hla
        walk_at "rd"
        walk_at "dr"
        intro r4 H4 p4 q4 B4 x4 f4
        obtain ⟨z, ea, z1⟩ := ints_at (P := fun z => 1 ≤ z) [1, 1, 1, 2, 5, 10 ^ 6 + 3, 3 * 10 ^ 16] p4 q4 (by decide)
        refine ⟨_, _, _, _, rfl, rfl, SqL.of (x4 la _ (BoxAt.ne B3 hla) upd_same), ea, ?_⟩
        have el4 : H4 l = some (.lst (S.map V.int)) := x4 _ _ nl ((Same.add hla) _ _ el)
        walk_at "rd"
        refine ⟨.inl ⟨rfl, _, SqL.of el4⟩, ?_⟩
        walk_at "rd"
        refine ⟨l, _, .int (s1 + z), rfl, rfl, el4, by rw [List.length_map, sizeLine_eq]; omega, ?_⟩
        refine .go ⟨s1 + z, S ++ [s1 + z], _, rfl, by rw [List.map_append]; exact upd_same, by rw [List.length_append, hlen]; rfl, ?_, ?_, (f4 l (F.new hla)).put, fun q o n e => ?_⟩
        · rw [List.pairwise_append]
          exact ⟨hP, List.pairwise_singleton _ _, fun x hx y hy => by rw [List.mem_singleton.mp hy]; have := hle x hx; omega⟩
        · intro x hx
          rcases List.mem_append.mp hx with h | h
          · have := hle x h; omega
          · rw [List.mem_singleton.mp h]; exact Int.le_refl _
        · rw [upd_ne (ne_of_none e hl)]
          exact x4 _ _ n ((Same.add hla) _ _ (x3 q o n e))
      · intro σ H3 hm
        obtain ⟨s1, S, v, rfl, el, hlen, hP, hle, F, x3⟩ := hm.out
        walk_at "rd"
        exact k l H3 S (none_backB x2 nl hl) nl el ⟨hlen, hP⟩ F.at (x2.trans x3)
def spRow : Sp := fun vs H Q _ => ∃ (b : Addr), vs = [.ref b] ∧ BoxAt H b ∧ ∀ t H' lo hi, 0 ≤ lo → lo ≤ hi → hi ≤ 9 → H t = none → t ≠ b → TupAt H' t lo hi → BoxAt H' b → ExB b H H' → Q (.ref t) H'
theorem sc__law_row : FnScope ["_law_box", "_law_low"] ["_law_box"] (defScope s__law_row) := ⟨rfl, rfl, rfl, by decide +kernel, rfl, by decide +kernel, by decide +kernel⟩
theorem ok__law_row (T : Txt K mg D) : FnOk P w K mg base CX0 3 D.a__law_row D.d__law_row ["_law_box"] spRow := by
  have G__law_take := ok__law_take (P := P) (w := w) (base := base) T
  refine T.F__law_row.ok sc__law_row (fun vs H Q E h => ?_) (fun cdv A outer s H vs Q E hr h => ?_)
  · obtain ⟨b, rfl, _⟩ := h
    rfl
  · obtain ⟨b, rfl, B, k⟩ := h
    refine ⟨_, (pss_cons (ps_set (i := 1) sc__law_row.nd rfl (Or.inl rfl) (pe_call G__law_take (hr.mono (by decide)) (by rfl) T.g__law_take T.F__law_take.kp T.b__law_take .nil pass0 (pa_cons (pv 0) (pa_cons pe_int pa_nil))))
      (pss_one (ps_ret (pe_tup (pa_cons (pv 1) (pa_cons (pe_op op_add (pv 1) (pe_call G__law_take (hr.mono (by decide)) (by rfl) T.g__law_take T.F__law_take.kp T.b__law_take .nil pass0 (pa_cons (pv 0) (pa_cons (pe_op op_sub pe_int (pv 1)) pa_nil)))) pa_nil)))))), ?_⟩
    walk_at "rd"
    walk_at "dr"
    intro r1 H1 p1 q1 B1 x1 _
    walk_at "rd"
    walk_at "dr"
    intro r2 H2 p2 q2 B2 x2 _
    walk_at "rd"
    intro t ht
    have x := x1.trans x2
    exact k t _ r1 (r1 + r2) p1 (by omega) (by omega) (none_backB x (BoxAt.ne B2 ht) ht) (BoxAt.ne B2 ht) upd_same (B2.new ht) (x.new ht)
abbrev dayOf (S : List Int) (r : Int × Int) : Int × Int := (g S r.1, g S (r.2 + 1) - 1)
def spDays : Sp := fun vs H Q _ => ∃ (l t : Addr) (S : List Int) (a b : Int), vs = [.ref l, .ref t] ∧ SqL K H l (S.map V.int) ∧ SqT K H t [.int a, .int b] ∧ S.length = 11 ∧ 0 ≤ a ∧ a ≤ b ∧ b ≤ 9 ∧ ∀ q, H q = none → Q (.ref q) (L2.upd H q (.tup [.int (g S a), .int (g S (b + 1) - 1)]))
theorem sc__law_days : FnScope ["_law_starts_here", "_law_row_here"] ["_law_starts_here", "_law_row_here"] (defScope s__law_days) := ⟨rfl, rfl, rfl, by decide +kernel, rfl, by decide +kernel, by decide +kernel⟩
theorem ok__law_days (T : Txt K mg D) : FnOk P w K mg base CX0 1 D.a__law_days D.d__law_days ["_law_starts_here", "_law_row_here"] (spDays (K := K)) := by
  refine T.F__law_days.ok sc__law_days (fun vs H Q E h => ?_) (fun cdv A outer s H vs Q E hr h => ?_)
  · obtain ⟨l, t, S, a, b, rfl, _⟩ := h
    rfl
  · obtain ⟨l, t, S, a, b, rfl, hl, ht, hS, ha, hab, hb, k⟩ := h
    refine ⟨_, (pss_one (ps_ret (pe_tup (pa_cons (pe_ix ix_list (pv 0) (pe_ix ix_tup (pv 1) pe_int (fun _ _ => rfl)) (fun _ _ => rfl)) (pa_cons (pe_op op_sub (pe_ix ix_list (pv 0) (pe_op op_add (pe_ix ix_tup (pv 1) pe_int (fun _ _ => rfl)) pe_int) (fun _ _ => rfl)) pe_int) pa_nil))))), ?_⟩
    have ea := S_at (S := S) (i := a) (by omega) (by omega)
    have eb := S_at (S := S) (i := b + 1) (by omega) (by omega)
    walk_at "rd"
    exact k
end
end Toy
set_option Elab.async false
set_option linter.all false
set_option maxRecDepth 100000
set_option maxHeartbeats 4000000
namespace Toy
open PySem L2 XR
local macro_rules | `(tactic| walk_at "ne") => `(tactic| first | assumption | (apply Ne.symm; assumption) | exact XR.ne_fresh (by assumption) (by walk_at "hp") | exact Ne.symm (XR.ne_fresh (by assumption) (by walk_at "hp")))
local macro_rules | `(tactic| walk_at "hp") => `(tactic| first | assumption | exact upd_same | (refine Eq.trans (upd_ne ?_) ?_; (walk_at "ne"); walk_at "hp"))
local macro_rules | `(tactic| walk_at "sq") => `(tactic| first | walk_at "hp" | exact SqL.of (by walk_at "hp") | exact SqT.of (by walk_at "hp") | exact XR.SqT.same (by assumption) (by assumption) | exact XR.SqL.same (by assumption) (by assumption))
local macro_rules | `(tactic| walk_at "br") => `(tactic| (refine ite2 ?_ ?_ <;> intro hbr <;> (try simp only [decide_eq_true_eq, decide_eq_false_iff_not, V.int.injEq, V.bl.injEq, V.str.injEq, Bool.not_eq_true, Bool.not_eq_eq_eq_not, Bool.not_true, Bool.not_false, ne_eq, Int.reduceToNat, Int.reducePow, Int.reduceMul, Int.reduceAdd, Int.reduceSub, reduceCtorEq, not_true_eq_false, not_false_eq_true, Int.not_lt, Int.not_le] at hbr)))
local macro_rules | `(tactic| walk_at "side") => `(tactic| first
  | exact ⟨by decide, by decide, by decide⟩
  | exact .inl ⟨by decide, by decide⟩
  | exact .inr ⟨by decide, by decide⟩
  | exact XR.divw (by first | decide | omega) (by first | decide | omega)
  | (show (_ : Int) = _; first | rfl | omega)
  | (show (0 : Int) < _; first | decide | assumption | omega)
  | exact .inl ⟨by omega, by omega⟩
  | exact .inr ⟨by omega, by omega⟩
  | exact .inl (XR.cmul_mod (by decide))
  | exact XR.log_lt (by omega) (by omega)
  | decide
  | (rw [sizeLine_eq]; simp; done)
  | (show 2 ≤ sizeLine; decide) | (show 3 ≤ sizeLine; decide) | (show 4 ≤ sizeLine; decide) | (show 5 ≤ sizeLine; decide) | (show 6 ≤ sizeLine; decide) | (show 7 ≤ sizeLine; decide) | (show 1 ≤ sizeLine; decide) | (show 8 ≤ sizeLine; decide) | (show 0 ≤ sizeLine; decide))
local macro_rules | `(tactic| walk_at "rd1") => `(tactic| first
  | refine ⟨_, rfl, ?_⟩
  | refine ⟨_, _, rfl, rfl, ?_⟩
  | refine ⟨_, _, _, _, rfl, rfl, (by walk_at "sq"), rfl, ?_⟩
  | refine ⟨_, _, _, _, rfl, rfl, (by walk_at "hp"), (by walk_at "hp"), (by walk_at "side"), ?_⟩
  | refine ⟨_, _, rfl, .inl (by walk_at "sq"), ?_⟩
  | refine ⟨_, _, rfl, .inl ⟨(by walk_at "sq"), ?_⟩⟩
  | refine ⟨_, _, rfl, .inr (by walk_at "sq"), ?_⟩
  | refine ⟨_, _, _, _, _, rfl, (by walk_at "hp"), (by walk_at "cls"), (by walk_at "noat"), rfl, ?_⟩
  | refine ⟨_, _, _, _, rfl, rfl, (by walk_at "sq"), (by first | assumption | exact XR.at0 | exact XR.at1), ?_⟩
  | refine ⟨rfl, ?_⟩
  | refine And.intro (by walk_at "side") ?_
  | refine .inl ⟨_, rfl, ?_⟩
  | refine And.intro ⟨_, (by walk_at "sq")⟩ ?_
  | refine ⟨_, _, rfl, (by walk_at "sq"), ?_⟩
  | refine ⟨_, _, rfl, ?_⟩
  | refine .inr ⟨_, rfl, (by walk_at "side"), ?_⟩
  | refine ⟨_, _, _, rfl, (by walk_at "hp"), ?_⟩
  | refine iteT ?_
  | refine iteF ?_)
local macro_rules | `(tactic| walk_at "rd") => `(tactic| repeat (walk_at "rd1"))
local macro_rules | `(tactic| walk_at "nn") => `(tactic| (simp only [Int.reduceToNat, Int.reducePow, Int.reduceMul, Int.reduceAdd, Int.reduceSub, Int.reduceNeg]))
local macro_rules | `(tactic| walk_at "dr") => `(tactic| repeat (first | refine And.intro (by first | assumption | walk_at "pre") ?_ | refine And.intro (by first | decide | omega) ?_))
local macro_rules | `(tactic| walk_at "cls") => `(tactic| first | exact T_cl_Stay (by assumption))
local macro_rules | `(tactic| walk_at "noat") => `(tactic| first | exact Txt.no_Stay_come (by assumption) | exact Txt.no_Stay_go (by assumption))
local macro_rules | `(tactic| walk_at "pre") => `(tactic| first | assumption | exact BoxAt.new (by walk_at "pre") (by assumption) | exact BoxAt.same (by walk_at "pre") (by assumption))
section
variable {P : Program} {w : World} {K : PySem.W.Frag} {mg : Str → Option Value} {base : Heap} {D : Ad}
def runsTo (a c d hi : Int) : List (Int × Int) := (if a < c ∧ a ≤ hi then [(a, min hi (c - 1))] else []) ++ (if d < hi ∧ a ≤ hi then [(max a (d + 1), hi)] else [])
theorem runs_len (a c d hi : Int) : (runsTo a c d hi).length ≤ 2 := by
  unfold runsTo
  rw [List.length_append]
  split <;> split <;> simp
theorem runs_start (a c d : Int) : runsTo a c d (a - 1) = [] := by
  unfold runsTo
  rw [if_neg (by omega), if_neg (by omega)]
  rfl
theorem runs_in {a c d k : Int} (hak : a ≤ k) (h1 : c ≤ k) (h2 : k ≤ d) : runsTo a c d k = runsTo a c d (k - 1) := by
  unfold runsTo
  rw [if_neg (show ¬(d < k ∧ a ≤ k) by omega), if_neg (show ¬(d < k - 1 ∧ a ≤ k - 1) by omega)]
  by_cases h : a < c
  · rw [if_pos ⟨h, hak⟩, if_pos (by omega), show min k (c - 1) = c - 1 by omega, show min (k - 1) (c - 1) = c - 1 by omega]
  · rw [if_neg (by omega), if_neg (by omega)]
theorem runs_step {a c d k : Int} (hcd : c ≤ d) (hak : a ≤ k) (hk : ¬(c ≤ k ∧ k ≤ d)) :
    (∃ I x, runsTo a c d (k - 1) = I ++ [x] ∧ x.2 = k - 1 ∧ runsTo a c d k = I ++ [(x.1, k)]) ∨ ((runsTo a c d (k - 1) = [] ∨ ∃ I x, runsTo a c d (k - 1) = I ++ [x] ∧ x.2 ≠ k - 1) ∧ runsTo a c d k = runsTo a c d (k - 1) ++ [(k, k)]) := by
  unfold runsTo
  by_cases h : k < c
  · rw [if_neg (show ¬(d < k ∧ a ≤ k) by omega), if_neg (show ¬(d < k - 1 ∧ a ≤ k - 1) by omega), if_pos (show a < c ∧ a ≤ k by omega), show min k (c - 1) = k by omega]
    by_cases e : a = k
    · rw [if_neg (show ¬(a < c ∧ a ≤ k - 1) by omega)]
      exact .inr ⟨.inl rfl, by rw [e]; rfl⟩
    · rw [if_pos (show a < c ∧ a ≤ k - 1 by omega), show min (k - 1) (c - 1) = k - 1 by omega]
      exact .inl ⟨[], (a, k - 1), rfl, rfl, rfl⟩
  · have hd : d < k := by omega
    rw [if_pos (show d < k ∧ a ≤ k by omega)]
    by_cases e : d < k - 1 ∧ a ≤ k - 1
    · rw [if_pos e]
      refine .inl ⟨_, (max a (d + 1), k - 1), rfl, rfl, ?_⟩
      by_cases h2 : a < c
      · rw [if_pos (show a < c ∧ a ≤ k by omega), if_pos (show a < c ∧ a ≤ k - 1 by omega), show min k (c - 1) = c - 1 by omega, show min (k - 1) (c - 1) = c - 1 by omega]
      · rw [if_neg (show ¬(a < c ∧ a ≤ k) by omega), if_neg (show ¬(a < c ∧ a ≤ k - 1) by omega)]
    · rw [if_neg e, show max a (d + 1) = k by omega]
      by_cases h2 : a < c
      · rw [if_pos (show a < c ∧ a ≤ k by omega), if_pos (show a < c ∧ a ≤ k - 1 by omega), show min k (c - 1) = c - 1 by omega, show min (k - 1) (c - 1) = c - 1 by omega]
        exact .inr ⟨.inr ⟨[], (a, c - 1), rfl, by show c - 1 ≠ k - 1; omega⟩, rfl⟩
      · rw [if_neg (show ¬(a < c ∧ a ≤ k) by omega), if_neg (show ¬(a < c ∧ a ≤ k - 1) by omega)]
        exact .inr ⟨.inl rfl, rfl⟩
/-- rows of stretches -/
def RowOk (a b : Int) : Prop := 0 ≤ a ∧ a ≤ b ∧ b ≤ 9
def spRuns : Sp := fun vs H Q _ => ∃ (t u : Addr) (a b c d : Int), vs = [.ref t, .ref u] ∧ SqT K H t [.int a, .int b] ∧ SqT K H u [.int c, .int d] ∧ RowOk a b ∧ RowOk c d ∧ NewList K H H (pDs (runsTo a c d b)) Q
theorem sc__law_runs : FnScope ["_law_mine", "_law_other", "_law_runs_here", "_law_k"] ["_law_mine", "_law_other"] (defScope s__law_runs) := ⟨rfl, rfl, rfl, by decide +kernel, rfl, by decide +kernel, by decide +kernel⟩
theorem ok__law_runs (T : Txt K mg D) : FnOk P w K mg base CX0 1 D.a__law_runs D.d__law_runs ["_law_mine", "_law_other"] (spRuns (K := K)) := by
  refine T.F__law_runs.ok sc__law_runs (fun vs H Q E h => ?_) (fun cdv A outer s H vs Q E hr h => ?_)
  · obtain ⟨t, u, a, b, c, d, rfl, _⟩ := h
    rfl
  · obtain ⟨t, u, a, b, c, d, rfl, ht, hu, ⟨a1, a2, a3⟩, ⟨c1, c2, c3⟩, k⟩ := h
    refine ⟨_, (pss_cons (ps_set (i := 2) sc__law_runs.nd rfl (Or.inl rfl) (pe_lst pa_nil))
      (pss_cons (ps_for PassesOwn.never rfl (pi_range2 (by rfl) T.n_range (pa_cons (pe_ix ix_tup (pv 0) pe_int (fun _ _ => rfl)) (pa_cons (pe_op op_add (pe_ix ix_tup (pv 0) pe_int (fun _ _ => rfl)) pe_int) pa_nil))) (pg_name (i := 3) sc__law_runs.nd rfl (Or.inl rfl))
      (Evl.pss_cut (ps_if (PW.pt (pw_and (pt_cmpR op_le (pe_ix ix_tup (pv 1) pe_int (fun _ _ => rfl)) (pv 3) (nomark _)) (pw_and1 (pt_cmpR op_le (pv 3) (pe_ix ix_tup (pv 1) pe_int (fun _ _ => rfl)) (nomark _)))))
      (pss_one ps_continue)
      pss_nil)
      (pss_one (ps_if (PW.pt (pw_and (pt_cmpR (op_neD hr.units) (pv 2) (pe_lst pa_nil) (nomark _)) (pw_and1 (pt_cmpR op_eq (pe_ix ix_tup (pe_ix ix_list (pv 2) (pe_un un_neg pe_int) (fun _ _ => rfl)) pe_int (fun _ _ => rfl)) (pe_op op_sub (pv 3) pe_int) (nomark _)))))
      (pss_one (ps_asg (pe_tup (pa_cons (pe_ix ix_tup (pe_ix ix_list (pv 2) (pe_un un_neg pe_int) (fun _ _ => rfl)) pe_int (fun _ _ => rfl)) (pa_cons (pv 3) pa_nil))) (pg_sub (pv 2) (pe_un un_neg pe_int) set_list)))
      (pss_one (ps_expr (pe_bm PySem.F.plainAttrs_list PySem.F.slot_list_append PySem.F.type_list_append mt_append (pv 2) (pa_cons (pe_tup (pa_cons (pv 3) (pa_cons (pv 3) pa_nil))) pa_nil))))))))
      (pss_one (ps_ret (pv 2))))), ?_⟩
    walk_at "rd"
    intro l hl
    have ht0 := SqT.same ht (Same.add (o := .lst []) hl)
    walk_at "rd"
    refine ⟨⟨by omega, by omega, by omega, by omega⟩, ?_⟩
    refine for_range (fun i σ H1 => Stop (∃ (v : Option V) (G1 : Hp) (acc : List V), σ = [some (.ref t), some (.ref u), some (.ref l), v] ∧ Grow K H H l (pDs (runsTo a c d (a + (i : Int) - 1))) G1 H1 acc)) (.go ⟨none, H, [], rfl, by rw [show a + ((0 : Nat) : Int) - 1 = a - 1 by omega, runs_start]; exact Grow.start (Same.refl H) hl⟩) ?_ ?_
    · intro i σ H1 hi hm
      obtain ⟨v, G1, acc, rfl, gr⟩ := hm.out
      have hu1 := SqT.same hu gr.st.hh
      have len := runs_len a c d (a + (i : Int) - 1)
      have ei : a + ((i + 1 : Nat) : Int) - 1 = a + (i : Int) := by omega
      rw [ei]
      walk_at "rd"
      refine ⟨fun σ' H' => Stop (σ' = [some (.ref t), some (.ref u), some (.ref l), some (.int (a + (i : Int)))] ∧ H' = H1 ∧ ¬(c ≤ a + (i : Int) ∧ a + (i : Int) ≤ d)), ?_, fun σ2 H2 hm => ?_⟩
      · have ct : c ≤ a + (i : Int) → a + (i : Int) ≤ d → Stop (∃ (v : Option V) (G1 : Hp) (acc : List V), [some (V.ref t), some (.ref u), some (.ref l), some (.int (a + (i : Int)))] = [some (.ref t), some (.ref u), some (.ref l), v] ∧ Grow K H H l (pDs (runsTo a c d (a + (i : Int)))) G1 H1 acc) := fun h1 h2 => by
          rw [runs_in (by omega) h1 h2]
          exact .go ⟨_, G1, acc, rfl, gr⟩
        walk_at "rd"
        walk_at "br"
        · walk_at "rd"
          walk_at "br"
          · exact ct (by assumption) (by assumption)
          · exact .go ⟨rfl, rfl, by omega⟩
        · walk_at "rd"
          exact .go ⟨rfl, rfl, by omega⟩
      · obtain ⟨rfl, rfl, hk⟩ := hm.out
        have stp := runs_step (a := a) (k := a + (i : Int)) c2 (by omega) hk
        walk_at "rd"
        intro e he
        have gr2 := gr.step (Step.mut (o := .lst []) gr.st.vw he)
        walk_at "rd"
        refine ⟨_, _, .lst (SqL.of gr2.el) (DpAll.same gr2.st.vw gr2.ds), .lst (SqL.of upd_same) .nil, shaped_pDs _, rfl, ?_⟩
        rw [eqv_nil]
        have app : ∀ (H3 : Hp) (σ3 : L2.St), True := fun _ _ => trivial
        rcases stp with ⟨I, x, e1, e2, e3⟩ | ⟨h1, e3⟩
        · rw [e1] at gr2 ⊢
          rw [e3]
          rw [pDs, List.map_append] at gr2
          obtain ⟨ys, y, rfl, da, db⟩ := DpAll.snoc_inv gr2.ds
          obtain ⟨p, rfl, sp⟩ := Dp.pair db
          have sp2 := SqT.same sp gr2.st.vw
          have al := atI_last ys (.ref p)
          have el2 := gr2.el
          walk_at "rd"
          refine ifT (by simp) ?_
          walk_at "rd"
          refine ifT (by simp [e2]) ?_
          walk_at "rd"
          intro tp htp
          have gr3 := gr2.step (Step.new (o := .tup [.int x.1, .int (a + (i : Int))]) gr2.st.vw htp)
          obtain ⟨j, hj, gr4⟩ := Grow.setLast (out := List.map pD I) (d := pD x) gr3 (Dp.mk_pair (a := x.1) (b := a + (i : Int)) (SqT.of upd_same))
          have el3 := gr3.el
          have e4 : pDs (I ++ [(x.1, a + (i : Int))]) = List.map pD I ++ [pD (x.1, a + (i : Int))] := by rw [pDs, List.map_append]; rfl
          rw [← e4] at gr4
          walk_at "rd"
          exact .go ⟨_, _, _, rfl, gr4⟩
        · rw [e3]
          have fin : ∀ (H3 : Hp) (G3 : Hp) (acc3 : List V), Grow K H H l (pDs (runsTo a c d (a + (i : Int) - 1))) G3 H3 acc3 → True := fun _ _ _ _ => trivial
          rcases h1 with h1 | ⟨I, x, e1, e2⟩
          · rw [h1] at gr2 ⊢
            walk_at "rd"
            refine ⟨.inl ⟨rfl, _, SqL.of gr2.el⟩, ?_⟩
            walk_at "rd"
            intro tp htp
            have gr3 := gr2.step (Step.new (o := .tup [.int (a + (i : Int)), .int (a + (i : Int))]) gr2.st.vw htp)
            walk_at "rd"
            refine ⟨l, _, .ref tp, rfl, rfl, gr3.el, by rw [gr3.len, sizeLine_eq]; decide, ?_⟩
            exact .go ⟨_, _, _, rfl, gr3.add (Dp.mk_pair (SqT.of upd_same))⟩
          · have len2 := runs_len a c d (a + (i : Int) - 1)
            rw [e1] at gr2 len2 ⊢
            rw [pDs, List.map_append] at gr2
            obtain ⟨ys, y, rfl, da, db⟩ := DpAll.snoc_inv gr2.ds
            obtain ⟨p, rfl, sp⟩ := Dp.pair db
            have sp2 := SqT.same sp gr2.st.vw
            have al := atI_last ys (.ref p)
            have el2 := gr2.el
            walk_at "rd"
            refine ifT (by simp) ?_
            walk_at "rd"
            refine ifF (by simp [e2]) ?_
            walk_at "rd"
            refine ⟨.inl ⟨rfl, _, SqL.of gr2.el⟩, ?_⟩
            walk_at "rd"
            intro tp htp
            have gr3 := gr2.step (Step.new (o := .tup [.int (a + (i : Int)), .int (a + (i : Int))]) gr2.st.vw htp)
            walk_at "rd"
            have len3 := gr3.len
            rw [← List.map_append, List.length_map] at len3
            refine ⟨l, _, .ref tp, rfl, rfl, gr3.el, by rw [sizeLine_eq]; omega, ?_⟩
            have gr4 := gr3.add (Dp.mk_pair (a := a + (i : Int)) (b := a + (i : Int)) (SqT.of upd_same))
            have e4 : pDs (I ++ [x] ++ [(a + (i : Int), a + (i : Int))]) = List.map pD I ++ List.map pD [x] ++ [pD (a + (i : Int), a + (i : Int))] := by rw [pDs, List.map_append, List.map_append]; rfl
            rw [← e4] at gr4
            exact .go ⟨_, _, _, rfl, gr4⟩
    · intro σ H1 hm
      obtain ⟨v, G1, acc, rfl, gr⟩ := hm.out
      walk_at "rd"
      rw [show a + (((b + 1 - a).toNat : Nat) : Int) - 1 = b by omega] at gr
      exact k l G1 H1 acc gr
end
end Toy
set_option Elab.async false
set_option linter.all false
set_option maxRecDepth 100000
set_option maxHeartbeats 4000000
namespace Toy
open PySem L2 XR
local macro_rules | `(tactic| walk_at "ne") => `(tactic| first | assumption | (apply Ne.symm; assumption) | exact XR.ne_fresh (by assumption) (by walk_at "hp") | exact Ne.symm (XR.ne_fresh (by assumption) (by walk_at "hp")))
local macro_rules | `(tactic| walk_at "hp") => `(tactic| first | assumption | exact upd_same | (refine Eq.trans (upd_ne ?_) ?_; (walk_at "ne"); walk_at "hp"))
local macro_rules | `(tactic| walk_at "sq") => `(tactic| first | walk_at "hp" | exact SqL.of (by walk_at "hp") | exact SqT.of (by walk_at "hp") | exact XR.SqT.same (by assumption) (by assumption) | exact XR.SqL.same (by assumption) (by assumption))
local macro_rules | `(tactic| walk_at "br") => `(tactic| (refine ite2 ?_ ?_ <;> intro hbr <;> (try simp only [decide_eq_true_eq, decide_eq_false_iff_not, V.int.injEq, V.bl.injEq, V.str.injEq, Bool.not_eq_true, Bool.not_eq_eq_eq_not, Bool.not_true, Bool.not_false, ne_eq, Int.reduceToNat, Int.reducePow, Int.reduceMul, Int.reduceAdd, Int.reduceSub, reduceCtorEq, not_true_eq_false, not_false_eq_true, Int.not_lt, Int.not_le] at hbr)))
local macro_rules | `(tactic| walk_at "side") => `(tactic| first
  | exact ⟨by decide, by decide, by decide⟩
  | exact .inl ⟨by decide, by decide⟩
  | exact .inr ⟨by decide, by decide⟩
  | exact XR.divw (by first | decide | omega) (by first | decide | omega)
  | (show (_ : Int) = _; first | rfl | omega)
  | (show (0 : Int) < _; first | decide | assumption | omega)
  | exact .inl ⟨by omega, by omega⟩
  | exact .inr ⟨by omega, by omega⟩
  | exact .inl (XR.cmul_mod (by decide))
  | exact XR.log_lt (by omega) (by omega)
  | decide
  | (rw [sizeLine_eq]; simp; done)
  | (show 2 ≤ sizeLine; decide) | (show 3 ≤ sizeLine; decide) | (show 4 ≤ sizeLine; decide) | (show 5 ≤ sizeLine; decide) | (show 6 ≤ sizeLine; decide) | (show 7 ≤ sizeLine; decide) | (show 1 ≤ sizeLine; decide) | (show 8 ≤ sizeLine; decide) | (show 0 ≤ sizeLine; decide))
local macro_rules | `(tactic| walk_at "rd1") => `(tactic| first
  | refine ⟨_, rfl, ?_⟩
  | refine ⟨_, _, rfl, rfl, ?_⟩
  | refine ⟨_, _, _, _, rfl, rfl, (by walk_at "sq"), rfl, ?_⟩
  | refine ⟨_, _, _, _, rfl, rfl, (by walk_at "hp"), (by walk_at "hp"), (by walk_at "side"), ?_⟩
  | refine ⟨_, _, rfl, .inl (by walk_at "sq"), ?_⟩
  | refine ⟨_, _, rfl, .inl ⟨(by walk_at "sq"), ?_⟩⟩
  | refine ⟨_, _, rfl, .inr (by walk_at "sq"), ?_⟩
  | refine ⟨_, _, _, _, _, rfl, (by walk_at "hp"), (by walk_at "cls"), (by walk_at "noat"), rfl, ?_⟩
  | refine ⟨_, _, _, _, rfl, rfl, (by walk_at "sq"), (by first | assumption | exact XR.at0 | exact XR.at1), ?_⟩
  | refine ⟨rfl, ?_⟩
  | refine And.intro (by walk_at "side") ?_
  | refine .inl ⟨_, rfl, ?_⟩
  | refine And.intro ⟨_, (by walk_at "sq")⟩ ?_
  | refine ⟨_, _, rfl, (by walk_at "sq"), ?_⟩
  | refine ⟨_, _, rfl, ?_⟩
  | refine .inr ⟨_, rfl, (by walk_at "side"), ?_⟩
  | refine ⟨_, _, _, rfl, (by walk_at "hp"), ?_⟩
  | refine iteT ?_
  | refine iteF ?_)
local macro_rules | `(tactic| walk_at "rd") => `(tactic| repeat (walk_at "rd1"))
local macro_rules | `(tactic| walk_at "nn") => `(tactic| (simp only [Int.reduceToNat, Int.reducePow, Int.reduceMul, Int.reduceAdd, Int.reduceSub, Int.reduceNeg]))
local macro_rules | `(tactic| walk_at "dr") => `(tactic| repeat (first | refine And.intro (by first | assumption | walk_at "pre") ?_ | refine And.intro (by first | decide | omega) ?_))
local macro_rules | `(tactic| walk_at "cls") => `(tactic| first | exact T_cl_Stay (by assumption))
local macro_rules | `(tactic| walk_at "noat") => `(tactic| first | exact Txt.no_Stay_come (by assumption) | exact Txt.no_Stay_go (by assumption))
local macro_rules | `(tactic| walk_at "pre") => `(tactic| first | assumption | exact BoxAt.new (by walk_at "pre") (by assumption) | exact BoxAt.same (by walk_at "pre") (by assumption))
section
variable {P : Program} {w : World} {K : PySem.W.Frag} {mg : Str → Option Value} {base : Heap} {D : Ad}
/-! ### what is placed how -/
/-- the whole numbers from a to b -/
def upto (a b : Int) : List Int := (List.range (b + 1 - a).toNat).map fun (j : Nat) => a + (j : Int)
theorem upto_len (a b : Int) : (upto a b).length = (b + 1 - a).toNat := by unfold upto; rw [List.length_map, List.length_range]
theorem upto_mem {a b z : Int} : z ∈ upto a b ↔ a ≤ z ∧ z ≤ b := by
  unfold upto
  rw [List.mem_map]
  constructor
  · rintro ⟨j, hj, rfl⟩
    have := List.mem_range.mp hj
    omega
  · rintro ⟨h1, h2⟩
    exact ⟨(z - a).toNat, List.mem_range.mpr (by omega), by omega⟩
theorem upto_succ {a b : Int} (h : a ≤ b + 1) : upto a (b + 1) = upto a b ++ [b + 1] := by
  unfold upto
  rw [show (b + 1 + 1 - a).toNat = (b + 1 - a).toNat + 1 by omega, List.range_succ, List.map_append]
  congr 1
  simp
  omega
theorem upto_nil {a : Int} : upto a (a - 1) = [] := by
  unfold upto
  rw [show (a - 1 + 1 - a).toNat = 0 by omega]
  rfl
/-- how many are in both -/
def cnt (a hi c d : Int) : Int := max 0 (min hi d - max a c + 1)
theorem cnt_step {a hi c d : Int} (h : a ≤ hi + 1) : cnt a (hi + 1) c d = cnt a hi c d + (if c ≤ hi + 1 ∧ hi + 1 ≤ d then 1 else 0) := by
  unfold cnt
  split <;> omega
theorem filt_len {a c d : Int} : ∀ n : Nat, (((upto a (a + (n : Int) - 1)).filter fun z => decide (c ≤ z ∧ z ≤ d)).length : Int) = cnt a (a + (n : Int) - 1) c d
  | 0 => by
    rw [show a + ((0 : Nat) : Int) - 1 = a - 1 by omega, upto_nil]
    unfold cnt
    simp
    omega
  | n + 1 => by
    have ih := filt_len (a := a) (c := c) (d := d) n
    have e : a + ((n + 1 : Nat) : Int) - 1 = (a + (n : Int) - 1) + 1 := by omega
    rw [e, upto_succ (by omega), List.filter_append, List.length_append, cnt_step (by omega)]
    by_cases h : c ≤ a + (n : Int) - 1 + 1 ∧ a + (n : Int) - 1 + 1 ≤ d
    · have f1 : [a + (n : Int) - 1 + 1].filter (fun z => decide (c ≤ z ∧ z ≤ d)) = [a + (n : Int) - 1 + 1] := List.filter_cons_of_pos (p := fun z => decide (c ≤ z ∧ z ≤ d)) (decide_eq_true h)
      rw [if_pos h, f1]
      simp only [List.length_singleton]
      omega
    · have f1 : [a + (n : Int) - 1 + 1].filter (fun z => decide (c ≤ z ∧ z ≤ d)) = [] := List.filter_cons_of_neg (p := fun z => decide (c ≤ z ∧ z ≤ d)) (by rw [decide_eq_true_eq]; exact h)
      rw [if_neg h, f1]
      simp only [List.length_nil]
      omega
/-- the stay of a row -/
def RowStay (D : Ad) (H : Hp) (S : List Int) (p : Addr) (a b : Int) : Prop := StayAt D H p (g S a) (g S (b + 1) - 1)
theorem S_le {S : List Int} (O : StOk S) {i j : Int} (h0 : 0 ≤ i) (hi : i ≤ 10) (h1 : 0 ≤ j) (hj : j ≤ 10) : g S i ≤ g S j ↔ i ≤ j := by
  constructor
  · intro h
    by_cases e : j < i
    · have := S_lt O.2 h1 e (by rw [O.1]; omega)
      omega
    · omega
  · intro h
    by_cases e : i = j
    · rw [e]; exact Int.le_refl _
    · exact Int.le_of_lt (S_lt O.2 h0 (by omega) (by rw [O.1]; omega))
theorem S_lt' {S : List Int} (O : StOk S) {i j : Int} (h0 : 0 ≤ i) (hi : i ≤ 10) (h1 : 0 ≤ j) (hj : j ≤ 10) : g S i < g S j ↔ i < j := by
  have := S_le O h1 hj h0 hi
  omega
def spPlaced (D : Ad) : Sp := fun vs H Q _ => ∃ (p q t u : Addr) (S : List Int) (a b c d : Int), vs = [.ref p, .ref q, .ref t, .ref u] ∧ RowStay D H S p a b ∧ RowStay D H S q c d ∧ SqT K H t [.int a, .int b] ∧ SqT K H u [.int c, .int d] ∧ StOk S ∧ RowOk a b ∧ RowOk c d ∧ Yes H Q
theorem sc__law_placed : FnScope ["_law_one", "_law_two", "_law_mine", "_law_other", "_law_left", "_law_right", "_law_both", "_law_inside", "_law_k"] ["_law_one", "_law_two", "_law_mine", "_law_other"] (defScope s__law_placed) := ⟨rfl, rfl, rfl, by decide +kernel, rfl, by decide +kernel, by decide +kernel⟩
theorem ok__law_placed (T : Txt K mg D) : FnOk P w K mg base CX0 5 D.a__law_placed D.d__law_placed ["_law_one", "_law_two", "_law_mine", "_law_other"] (spPlaced (K := K) D) := by
  have G__law_truth := ok__law_truth (P := P) (w := w) (base := base) T
  have G_Stay_crosses := ok_Stay_crosses (P := P) (w := w) (base := base) T
  have G_Stay_within := ok_Stay_within (P := P) (w := w) (base := base) T
  have G_Stay_meets := ok_Stay_meets (P := P) (w := w) (base := base) T
  refine T.F__law_placed.ok sc__law_placed (fun vs H Q E h => ?_) (fun cdv A outer s H vs Q E hr h => ?_)
  · obtain ⟨p, q, t, u, S, a, b, c, d, rfl, _⟩ := h
    rfl
  · obtain ⟨p, q, t, u, S, a, b, c, d, rfl, S1, S2, ht, hu, O, ⟨a1, a2, a3⟩, ⟨c1, c2, c3⟩, k⟩ := h
    refine ⟨_, (pss_cons (ps_setLc (i := 4) (own := [("_law_k", 8)]) (g := gName 8) (tt := tYes) (by rfl) sc__law_placed.nd rfl rfl (sw_true rfl rfl rfl (by decide +kernel)) (pi_range2 (by rfl) T.n_range (pa_cons (pe_ix ix_tup (pv 2) pe_int (fun _ _ => rfl)) (pa_cons (pe_op op_add (pe_ix ix_tup (pv 2) pe_int (fun _ _ => rfl)) pe_int) pa_nil))) (blkOk_by (own := [("_law_k", 8)]) (N := ["_law_one", "_law_two", "_law_mine", "_law_other", "_law_left", "_law_right", "_law_both", "_law_inside", "_law_k"]) (sc := defScope s__law_placed) (by decide +kernel)) (fun _ _ _ _ _ => (pg_name (i := 8) sc__law_placed.nd rfl (Or.inl rfl))) (fun _ _ _ _ _ => pts_nil) (fun _ _ _ _ _ => (pv 8)))
      (pss_cons (ps_set (i := 5) sc__law_placed.nd rfl (Or.inr rfl) (pe_lc (own := [("_law_k", 8)]) (g := gName 8) (tt := tYes) (by rfl) sc__law_placed.nd (pi_range2 (by rfl) T.n_range (pa_cons (pe_ix ix_tup (pv 3) pe_int (fun _ _ => rfl)) (pa_cons (pe_op op_add (pe_ix ix_tup (pv 3) pe_int (fun _ _ => rfl)) pe_int) pa_nil))) (blkOk_by (own := [("_law_k", 8)]) (N := ["_law_one", "_law_two", "_law_mine", "_law_other", "_law_left", "_law_right", "_law_both", "_law_inside", "_law_k"]) (sc := defScope s__law_placed) (by decide +kernel)) (fun _ _ _ _ _ => (pg_name (i := 8) sc__law_placed.nd rfl (Or.inl rfl))) (fun _ _ _ _ _ => pts_nil) (fun _ _ _ _ _ => (pv 8))))
      (pss_cons (ps_setLc (i := 6) (own := [("_law_k", 8)]) (g := gName 8) (by rfl) sc__law_placed.nd rfl rfl (sw_true rfl rfl rfl (by decide +kernel)) (XR.pi_sq (pv 4)) (blkOk_by (own := [("_law_k", 8)]) (N := ["_law_one", "_law_two", "_law_mine", "_law_other", "_law_left", "_law_right", "_law_both", "_law_inside", "_law_k"]) (sc := defScope s__law_placed) (by decide +kernel)) (fun _ _ _ _ _ => (pg_name (i := 8) sc__law_placed.nd rfl (Or.inl rfl))) (fun _ _ _ _ _ => (pts_one (pt_cmpR XR.op_in_seqb (pv 8) (pv 5) rfl))) (fun _ _ _ _ _ => (pv 8)))
      (pss_cons (ps_set (i := 7) sc__law_placed.nd rfl (Or.inl rfl) (pe_cmpR op_eq (pe_callB call_len_seq (by rfl) T.n_len (by decide +kernel) (pa_cons (pv 6) pa_nil)) (pe_callB call_len_seq (by rfl) T.n_len (by decide +kernel) (pa_cons (pv 4) pa_nil)) (nomark _)))
      (pss_cons (ps_if (PW.pt (pw_or (pt_not (pt_val (pe_call G__law_truth (hr.mono (by decide)) (by rfl) T.g__law_truth T.F__law_truth.kp T.b__law_truth .nil pass0 (pa_cons (pe_meth (pv 0) (T_cl_Stay T) (T_m_Stay_meets T) G_Stay_meets (hr.mono (by decide)) T.b_Stay_meets .nil pass0 (pa_cons (pv 1) pa_nil)) (pa_cons (pe_cmpR (op_neD hr.units) (pv 6) (pe_lst pa_nil) (nomark _)) pa_nil))))) (pw_or1 (pt_not (pt_val (pe_call G__law_truth (hr.mono (by decide)) (by rfl) T.g__law_truth T.F__law_truth.kp T.b__law_truth .nil pass0 (pa_cons (pe_meth (pv 0) (T_cl_Stay T) (T_m_Stay_within T) G_Stay_within (hr.mono (by decide)) T.b_Stay_within .nil pass0 (pa_cons (pv 1) pa_nil)) (pa_cons (pv 7) pa_nil))))))))
      (pss_one (ps_ret pe_bl))
      pss_nil)
      (pss_one (ps_ret (pe_call G__law_truth (hr.mono (by decide)) (by rfl) T.g__law_truth T.F__law_truth.kp T.b__law_truth .nil pass0 (pa_cons (pe_meth (pv 0) (T_cl_Stay T) (T_m_Stay_crosses T) G_Stay_crosses (hr.mono (by decide)) T.b_Stay_crosses .nil pass0 (pa_cons (pv 1) pa_nil)) (pa_cons (pe_and (pe_cmpR (op_neD hr.units) (pv 6) (pe_lst pa_nil) (nomark _)) (pe_and (pe_not (pv 7)) (pe_one (pe_cmpR op_ne (pe_callB call_len_seq (by rfl) T.n_len (by decide +kernel) (pa_cons (pv 6) pa_nil)) (pe_callB call_len_seq (by rfl) T.n_len (by decide +kernel) (pa_cons (pv 5) pa_nil)) (nomark _))))) pa_nil)))))))))), ?_⟩
    have z1 := S_le O (i := a) (j := d + 1) (by omega) (by omega) (by omega) (by omega)
    walk_at "rd"
    refine ⟨⟨by omega, by omega, by omega, by omega⟩, ?_⟩
    intro l1 hl1
    refine lc_range (fun i H' => LcI K H H l1 ((upto a (a + (i : Int) - 1)).map PyData.int) H') (by rw [show a + ((0 : Nat) : Int) - 1 = a - 1 by omega, upto_nil]; exact LcI.start (Same.refl _) hl1) ?_ ?_
    · rintro i H1 hi ⟨G1, acc, gr⟩
      walk_at "rd"
      rw [show a + ((i + 1 : Nat) : Int) - 1 = (a + (i : Int) - 1) + 1 by omega, upto_succ (by omega), List.map_append, show a + (i : Int) - 1 + 1 = a + (i : Int) by omega]
      exact gr.push (.int _) (by rw [List.length_map, upto_len, sizeLine_eq]; omega)
    · rintro H1 ⟨G1, acc1, gr1⟩
      rw [show a + (((b + 1 - a).toNat : Nat) : Int) - 1 = b by omega] at gr1
      have ea1 : acc1 = (upto a b).map V.int := DpAll.ints gr1.ds
      have hu1 := SqT.same hu gr1.st.hh
      walk_at "rd"
      refine ⟨⟨by omega, by omega, by omega, by omega⟩, ?_⟩
      intro l2 hl2
      refine lc_range (fun i H' => LcI K H1 H1 l2 ((upto c (c + (i : Int) - 1)).map PyData.int) H') (by rw [show c + ((0 : Nat) : Int) - 1 = c - 1 by omega, upto_nil]; exact LcI.start (Same.refl _) hl2) ?_ ?_
      · rintro i H2 hi ⟨G2, acc, gr⟩
        walk_at "rd"
        rw [show c + ((i + 1 : Nat) : Int) - 1 = (c + (i : Int) - 1) + 1 by omega, upto_succ (by omega), List.map_append, show c + (i : Int) - 1 + 1 = c + (i : Int) by omega]
        exact gr.push (.int _) (by rw [List.length_map, upto_len, sizeLine_eq]; omega)
      · rintro H2 ⟨G2, acc2, gr2⟩
        rw [show c + (((d + 1 - c).toNat : Nat) : Int) - 1 = d by omega] at gr2
        have ea2 : acc2 = (upto c d).map V.int := DpAll.ints gr2.ds
        have e1 : H2 l1 = some (.lst ((upto a b).map V.int)) := gr2.st.hh _ _ (ea1 ▸ gr1.el)
        have e2 : H2 l2 = some (.lst ((upto c d).map V.int)) := ea2 ▸ gr2.el
        have x2 : Same H H2 := gr1.st.hh.trans gr2.st.hh
        walk_at "rd"
        refine ⟨l1, _, H2, rfl, .inl (SqL.of e1), Same.refl _, fun J W l3 hl3 => ?_⟩
        refine lc_it W (fun i H' => LcI K H2 H2 l3 (((upto a (a + (i : Int) - 1)).filter fun z => decide (c ≤ z ∧ z ≤ d)).map PyData.int) H') (by rw [show a + ((0 : Nat) : Int) - 1 = a - 1 by omega, upto_nil]; exact LcI.start (Same.refl _) hl3) (fun i H' _ I => I.vw) ?_ ?_
        · rintro i x H3 _ hi ⟨G3, acc, gr⟩ ⟨rfl, hx⟩
          obtain ⟨z, hz, rfl⟩ := get_int hx
          have ez : z = a + (i : Int) := by
            unfold upto at hz
            rw [List.getElem?_map] at hz
            rw [List.length_map, upto_len] at hi
            rw [List.getElem?_range (by omega)] at hz
            exact (Option.some.inj hz).symm
          subst ez
          have e3 := gr.st.hh _ _ e2
          walk_at "rd"
          refine ⟨flat_ints _, ?_⟩
          rw [inV_ints, show a + ((i + 1 : Nat) : Int) - 1 = (a + (i : Int) - 1) + 1 by omega, upto_succ (by omega), List.filter_append]
          rw [show a + (i : Int) - 1 + 1 = a + (i : Int) by omega]
          have fl := List.length_filter_le (fun z => decide (c ≤ z ∧ z ≤ d)) (upto a (a + (i : Int) - 1))
          rw [upto_len] at fl
          rw [List.length_map, upto_len] at hi
          by_cases hm : c ≤ a + (i : Int) ∧ a + (i : Int) ≤ d
          · rw [decide_eq_true (upto_mem.mpr hm), List.filter_cons_of_pos (p := fun z => decide (c ≤ z ∧ z ≤ d)) (decide_eq_true hm), List.map_append]
            walk_at "rd"
            exact gr.push (.int _) (by rw [List.length_map, sizeLine_eq]; omega)
          · rw [decide_eq_false (fun z => hm (upto_mem.mp z)), List.filter_cons_of_neg (p := fun z => decide (c ≤ z ∧ z ≤ d)) (by rw [decide_eq_true_eq]; exact hm), List.filter_nil, List.append_nil]
            walk_at "rd"
            exact ⟨_, _, gr⟩
        · rintro H3 ⟨G3, acc3, gr3⟩
          rw [List.length_map, upto_len, show a + (((b + 1 - a).toNat : Nat) : Int) - 1 = b by omega] at gr3
          have hL := filt_len (a := a) (c := c) (d := d) (b + 1 - a).toNat
          rw [show a + (((b + 1 - a).toNat : Nat) : Int) - 1 = b by omega] at hL
          generalize hbo : (upto a b).filter (fun z => decide (c ≤ z ∧ z ≤ d)) = bo at *
          have ea3 : acc3 = bo.map V.int := DpAll.ints gr3.ds
          have f1 : H3 l1 = some (.lst ((upto a b).map V.int)) := gr3.st.hh _ _ e1
          have f2 : H3 l2 = some (.lst ((upto c d).map V.int)) := gr3.st.hh _ _ e2
          have f3 : H3 l3 = some (.lst (bo.map V.int)) := ea3 ▸ gr3.el
          have x3 : Same H H3 := x2.trans gr3.st.hh
          have ub := upto_len a b
          have ud := upto_len c d
          generalize upto a b = ua at *
          generalize upto c d = uc at *
          unfold cnt at hL
          have m1 := S_lt' O (i := a) (j := d + 1) (by omega) (by omega) (by omega) (by omega)
          have m2 := S_lt' O (i := c) (j := b + 1) (by omega) (by omega) (by omega) (by omega)
          have w1 := S_le O (i := c) (j := a) (by omega) (by omega) (by omega) (by omega)
          have w2 := S_le O (i := b + 1) (j := d + 1) (by omega) (by omega) (by omega) (by omega)
          have w3 := S_le O (i := a) (j := c) (by omega) (by omega) (by omega) (by omega)
          have w4 := S_le O (i := d + 1) (j := b + 1) (by omega) (by omega) (by omega) (by omega)
          have sh := shaped_ints bo
          have dp3 : ∀ H4, Same H3 H4 → Dp K H4 (.ref l3) (.list (bo.map PyData.int)) := fun H4 z => .lst (SqL.of (z _ _ f3)) (DpAll.of_ints bo)
          have emp : (bo.map PyData.int).isEmpty = decide (bo = []) := by cases bo <;> simp
          have bon : bo = [] ↔ bo.length = 0 := List.length_eq_zero_iff.symm
          obtain ⟨dx, hp3⟩ := S1.same x3
          obtain ⟨dy, hq3⟩ := S2.same x3
          walk_at "rd"
          refine ⟨p, q, _, _, _, _, rfl, ⟨dx, hp3⟩, ⟨dy, hq3⟩, ?_⟩
          walk_at "rd"
          intro e5 he5
          have x5 : Same H3 (L2.upd H3 e5 (.lst [])) := Same.add he5
          walk_at "rd"
          refine ⟨_, _, dp3 _ x5, .lst (SqL.of upd_same) .nil, sh, rfl, ?_⟩
          rw [eqv_empty, emp]
          walk_at "rd"
          refine ⟨by rw [← decide_not]; exact decide_eq_decide.mpr (by rw [bon]; omega), ?_⟩
          have hp4 := x5 _ _ hp3
          have hq4 := x5 _ _ hq3
          walk_at "rd"
          refine ⟨p, q, _, _, _, _, rfl, ⟨dx, hp4⟩, ⟨dy, hq4⟩, ?_⟩
          walk_at "rd"
          refine ⟨?_, ?_⟩
          · rw [Bool.eq_iff_iff]
            simp only [decide_eq_true_eq, V.int.injEq, List.length_map]
            omega
          walk_at "rd"
          refine ⟨p, q, _, _, _, _, rfl, ⟨dx, hp4⟩, ⟨dy, hq4⟩, ?_⟩
          walk_at "rd"
          intro e6 he6
          have x6 : Same H3 (L2.upd (L2.upd H3 e5 (.lst [])) e6 (.lst [])) := x5.trans (Same.add he6)
          have f36 := x6 _ _ f3
          have f26 := x6 _ _ f2
          walk_at "rd"
          refine ⟨_, _, dp3 _ x6, .lst (SqL.of upd_same) .nil, sh, rfl, ?_⟩
          rw [eqv_empty, emp]
          have fin := k _ (x3.trans x6)
          walk_at "rd"
          walk_at "br"
          · rename_i g1
            rw [bon] at g1
            walk_at "rd"
            walk_at "br"
            · rename_i g2
              rw [List.length_map, List.length_map] at g2
              walk_at "rd"
              refine ⟨?_, fin⟩
              rw [Bool.eq_iff_iff]
              simp only [decide_eq_true_eq, V.int.injEq, List.length_map, Bool.not_eq_true', decide_eq_false_iff_not]
              omega
            · rename_i g2
              rw [List.length_map, List.length_map] at g2
              walk_at "rd"
              refine ⟨?_, fin⟩
              rw [Bool.eq_iff_iff]
              simp only [decide_eq_true_eq, V.int.injEq, List.length_map, Bool.false_eq_true, iff_false]
              omega
          · rename_i g1
            have g1 := Decidable.not_not.mp g1
            walk_at "rd"
            refine ⟨?_, fin⟩
            rw [Bool.eq_iff_iff]
            rw [g1] at bon hL
            simp only [decide_eq_true_eq, Bool.false_eq_true, iff_false, List.length_nil] at *
            omega
def PairsL (K : PySem.W.Frag) (H : Hp) (l : Addr) (rs : List (Int × Int)) : Prop := ∃ ws, H l = some (.lst ws) ∧ DpAll K H ws (pDs rs)
theorem PairsL.same {K : PySem.W.Frag} {H H' : Hp} {l : Addr} {rs : List (Int × Int)} (h : PairsL K H l rs) (x : Same H H') : PairsL K H' l rs := let ⟨ws, a, b⟩ := h; ⟨ws, x _ _ a, DpAll.same x b⟩
def spStays (D : Ad) : Sp := fun vs H Q _ => ∃ (l ls lr : Addr) (vs' : List V) (S : List Int) (rs : List (Int × Int)), vs = [.ref l, .ref ls, .ref lr] ∧ H l = some (.lst vs') ∧ StaysAt D H vs' (rs.map (dayOf S)) ∧ H ls = some (.lst (S.map V.int)) ∧ PairsL K H lr rs ∧ S.length = 11 ∧ (∀ r ∈ rs, RowOk r.1 r.2) ∧ rs.length ≤ 2 ∧ Yes H Q
theorem sc__law_stays : FnScope ["_law_actual", "_law_starts_here", "_law_runs_here", "_law_k"] ["_law_actual", "_law_starts_here", "_law_runs_here"] (defScope s__law_stays) := ⟨rfl, rfl, rfl, by decide +kernel, rfl, by decide +kernel, by decide +kernel⟩
theorem ok__law_stays (T : Txt K mg D) : FnOk P w K mg base CX0 5 D.a__law_stays D.d__law_stays ["_law_actual", "_law_starts_here", "_law_runs_here"] (spStays (K := K) D) := by
  have G__law_is := ok__law_is (P := P) (w := w) (base := base) T
  have G__law_days := ok__law_days (P := P) (w := w) (base := base) T
  refine T.F__law_stays.ok sc__law_stays (fun vs H Q E h => ?_) (fun cdv A outer s H vs Q E hr h => ?_)
  · obtain ⟨l, ls, lr, vs', S, rs, rfl, _⟩ := h
    rfl
  · obtain ⟨l, ls, lr, vs', S, rs, rfl, hl, hst, hS, ⟨ws, hlr, hd⟩, hSl, ok, hlen, k⟩ := h
    refine ⟨_, (pss_cons (ps_if (PW.pt (pw_or (pt_not (pt_val (pe_callB call_isi (by rfl) T.n_isinstance (by decide +kernel) (pa_cons (pv 0) (pa_cons (pe_bltn (v := .ty "list") (u := .type "list") (by rfl) T.n_list (by decide +kernel) rfl) pa_nil))))) (pw_or1 (pt_cmpR op_ne (pe_callB call_len_seq (by rfl) T.n_len (by decide +kernel) (pa_cons (pv 0) pa_nil)) (pe_callB call_len_seq (by rfl) T.n_len (by decide +kernel) (pa_cons (pv 2) pa_nil)) (nomark _)))))
      (pss_one (ps_ret pe_bl))
      pss_nil)
      (pss_cons (ps_for PassesOwn.never rfl (pi_range1 (by rfl) T.n_range (pa_cons (pe_callB call_len_seq (by rfl) T.n_len (by decide +kernel) (pa_cons (pv 2) pa_nil)) pa_nil)) (pg_name (i := 3) sc__law_stays.nd rfl (Or.inl rfl))
      (pss_one (ps_if (pt_not (pt_val (pe_call G__law_is (hr.mono (by decide)) (by rfl) T.g__law_is T.F__law_is.kp T.b__law_is .nil pass0 (pa_cons (pe_ix ix_list (pv 0) (pv 3) (fun _ _ => rfl)) (pa_cons (pe_call G__law_days (hr.mono (by decide)) (by rfl) T.g__law_days T.F__law_days.kp T.b__law_days .nil pass0 (pa_cons (pv 1) (pa_cons (pe_ix ix_list (pv 2) (pv 3) (fun _ _ => rfl)) pa_nil))) pa_nil)))))
      (pss_one (ps_ret pe_bl))
      pss_nil)))
      (pss_one (ps_ret pe_bl)))), ?_⟩
    have n1 := Paired.length hst
    have n2 := XR.DpAll.length hd
    rw [List.length_map] at n1 n2
    walk_at "rd"
    refine ⟨_, _, _, _, true, rfl, .ty "list", .base (.lst hl), kit_ty (by decide +kernel), ?_⟩
    walk_at "rd"
    refine ifF (by simp [n1, n2]) ?_
    walk_at "rd"
    refine ⟨by omega, by omega, ?_⟩
    refine for_range (fun i σ H1 => Stop (∃ (v : Option V), σ = [some (.ref l), some (.ref ls), some (.ref lr), v] ∧ Same H H1)) (.go ⟨none, rfl, Same.refl H⟩) ?_ ?_
    · intro i σ H1 hi hm
      obtain ⟨v, rfl, x1⟩ := hm.out
      have hi2 : i < rs.length := by omega
      obtain ⟨p, ep, sp⟩ := StaysAt.get (i := i) (r := dayOf S rs[i]) hst (by rw [List.getElem?_map, List.getElem?_eq_getElem hi2]; rfl)
      obtain ⟨t, et, st, _⟩ := pairs_at (i := i) hd (List.getElem?_eq_getElem hi2)
      have a1 : atI vs' (0 + (i : Int)) = some (.ref p) := by rw [Int.zero_add]; exact atI_nat ep
      have a2 : atI ws (0 + (i : Int)) = some (.ref t) := by rw [Int.zero_add]; exact atI_nat et
      have O := ok rs[i] (List.getElem_mem hi2)
      have hl1 := x1 _ _ hl
      have hS1 := x1 _ _ hS
      have hr1 := x1 _ _ hlr
      walk_at "rd"
      refine ⟨ls, t, S, rs[i].1, rs[i].2, rfl, SqL.of hS1, SqT.same st x1, hSl, O.1, O.2.1, O.2.2, fun q hq => ?_⟩
      walk_at "rd"
      refine ⟨p, q, _, _, rfl, (sp.same x1).new hq, upd_same, ?_⟩
      walk_at "rd"
      exact .go ⟨_, rfl, x1.trans (Same.add hq)⟩
    · intro σ H1 hm
      obtain ⟨v, rfl, x1⟩ := hm.out
      walk_at "rd"
      exact k _ x1
theorem days_of_runs {S : List Int} (O : StOk S) {a b c d : Int} (h1 : RowOk a b) (h2 : RowOk c d) :
    psOf (g S a) (g S (b + 1) - 1) (g S c) (g S (d + 1) - 1) = (runsTo a c d b).map (dayOf S) := by
  obtain ⟨a1, a2, a3⟩ := h1
  obtain ⟨c1, c2, c3⟩ := h2
  have m1 := S_lt' O (i := a) (j := d + 1) (by omega) (by omega) (by omega) (by omega)
  have m2 := S_lt' O (i := c) (j := b + 1) (by omega) (by omega) (by omega) (by omega)
  have w3 := S_lt' O (i := a) (j := c) (by omega) (by omega) (by omega) (by omega)
  have w4 := S_lt' O (i := d + 1) (j := b + 1) (by omega) (by omega) (by omega) (by omega)
  unfold psOf runsTo
  rw [List.map_append]
  by_cases h : a ≤ d ∧ c ≤ b
  · rw [if_pos (show g S a ≤ g S (d + 1) - 1 ∧ g S c ≤ g S (b + 1) - 1 by omega)]
    congr 1
    · by_cases e : a < c
      · rw [if_pos (show g S a < g S c by omega), if_pos (show a < c ∧ a ≤ b by omega), show min b (c - 1) = c - 1 by omega]
        show _ = [(g S a, g S (c - 1 + 1) - 1)]
        rw [show c - 1 + 1 = c by omega]
      · rw [if_neg (show ¬ g S a < g S c by omega), if_neg (show ¬(a < c ∧ a ≤ b) by omega)]
        rfl
    · by_cases e : d < b
      · rw [if_pos (show g S (d + 1) - 1 < g S (b + 1) - 1 by omega), if_pos (show d < b ∧ a ≤ b by omega), show max a (d + 1) = d + 1 by omega]
        show [(g S (d + 1) - 1 + 1, _)] = [(g S (d + 1), _)]
        rw [show g S (d + 1) - 1 + 1 = g S (d + 1) by omega]
      · rw [if_neg (show ¬ g S (d + 1) - 1 < g S (b + 1) - 1 by omega), if_neg (show ¬(d < b ∧ a ≤ b) by omega)]
        rfl
  · rw [if_neg (show ¬(g S a ≤ g S (d + 1) - 1 ∧ g S c ≤ g S (b + 1) - 1) by omega)]
    by_cases e : a ≤ d
    · rw [if_pos (show a < c ∧ a ≤ b by omega), if_neg (show ¬(d < b ∧ a ≤ b) by omega), show min b (c - 1) = b by omega]
      rfl
    · rw [if_neg (show ¬(a < c ∧ a ≤ b) by omega), if_pos (show d < b ∧ a ≤ b by omega), show max a (d + 1) = a by omega]
      rfl
theorem runs_ok {a b c d : Int} (h1 : RowOk a b) (h2 : RowOk c d) : ∀ r ∈ runsTo a c d b, RowOk r.1 r.2 := by
  obtain ⟨a1, a2, a3⟩ := h1
  obtain ⟨c1, c2, c3⟩ := h2
  intro r hr
  unfold runsTo at hr
  rcases List.mem_append.mp hr with h | h
  · split at h
    · rw [List.mem_singleton.mp h]
      exact ⟨by show 0 ≤ a; omega, by show a ≤ min b (c - 1); omega, by show min b (c - 1) ≤ 9; omega⟩
    · cases h
  · split at h
    · rw [List.mem_singleton.mp h]
      exact ⟨by show 0 ≤ max a (d + 1); omega, by show max a (d + 1) ≤ b; omega, by show b ≤ 9; omega⟩
    · cases h
def spParted (D : Ad) : Sp := fun vs H Q _ => ∃ (p q ls t u : Addr) (S : List Int) (a b c d : Int), vs = [.ref p, .ref q, .ref ls, .ref t, .ref u] ∧ RowStay D H S p a b ∧ RowStay D H S q c d ∧ H ls = some (.lst (S.map V.int)) ∧ SqT K H t [.int a, .int b] ∧ SqT K H u [.int c, .int d] ∧ StOk S ∧ RowOk a b ∧ RowOk c d ∧ Yes H Q
theorem sc__law_parted : FnScope ["_law_one", "_law_two", "_law_starts_here", "_law_mine", "_law_other", "_law_runs_here", "_law_parts"] ["_law_one", "_law_two", "_law_starts_here", "_law_mine", "_law_other"] (defScope s__law_parted) := ⟨rfl, rfl, rfl, by decide +kernel, rfl, by decide +kernel, by decide +kernel⟩
theorem ok__law_parted (T : Txt K mg D) : FnOk P w K mg base CX0 7 D.a__law_parted D.d__law_parted ["_law_one", "_law_two", "_law_starts_here", "_law_mine", "_law_other"] (spParted (K := K) D) := by
  have G__law_stays := ok__law_stays (P := P) (w := w) (base := base) T
  have G_Stay_parts_without := ok_Stay_parts_without (P := P) (w := w) (base := base) T
  have G__law_runs := ok__law_runs (P := P) (w := w) (base := base) T
  refine T.F__law_parted.ok sc__law_parted (fun vs H Q E h => ?_) (fun cdv A outer s H vs Q E hr h => ?_)
  · obtain ⟨p, q, ls, t, u, S, a, b, c, d, rfl, _⟩ := h
    rfl
  · obtain ⟨p, q, ls, t, u, S, a, b, c, d, rfl, S1, S2, hS, ht, hu, O, o1, o2, k⟩ := h
    refine ⟨_, (pss_cons (ps_set (i := 5) sc__law_parted.nd rfl (Or.inl rfl) (pe_call G__law_runs (hr.mono (by decide)) (by rfl) T.g__law_runs T.F__law_runs.kp T.b__law_runs .nil pass0 (pa_cons (pv 3) (pa_cons (pv 4) pa_nil))))
      (pss_cons (ps_set (i := 6) sc__law_parted.nd rfl (Or.inl rfl) (pe_meth (pv 0) (T_cl_Stay T) (T_m_Stay_parts_without T) G_Stay_parts_without (hr.mono (by decide)) T.b_Stay_parts_without .nil pass0 (pa_cons (pv 1) pa_nil)))
      (pss_cons (ps_if (pt_not (pt_val (pe_call G__law_stays (hr.mono (by decide)) (by rfl) T.g__law_stays T.F__law_stays.kp T.b__law_stays .nil pass0 (pa_cons (pv 6) (pa_cons (pv 2) (pa_cons (pv 5) pa_nil))))))
      (pss_one (ps_ret pe_bl))
      pss_nil)
      (pss_cons (ps_expr (pe_bm0 PySem.F.plainAttrs_list PySem.F.slot_list_reverse PySem.F.type_list_reverse mt_reverse (pv 6)))
      (pss_cons (ps_expr (pe_bm PySem.F.plainAttrs_list PySem.F.slot_list_append PySem.F.type_list_append mt_append (pv 6) (pa_cons (pv 0) pa_nil)))
      (pss_one (ps_ret (pe_call G__law_stays (hr.mono (by decide)) (by rfl) T.g__law_stays T.F__law_stays.kp T.b__law_stays .nil pass0 (pa_cons (pe_meth (pv 0) (T_cl_Stay T) (T_m_Stay_parts_without T) G_Stay_parts_without (hr.mono (by decide)) T.b_Stay_parts_without .nil pass0 (pa_cons (pv 1) pa_nil)) (pa_cons (pv 2) (pa_cons (pv 5) pa_nil))))))))))), ?_⟩
    obtain ⟨a1, a2, a3⟩ := id o1
    obtain ⟨c1, c2, c3⟩ := id o2
    have la := S_lt' O (i := a) (j := b + 1) (by omega) (by omega) (by omega) (by omega)
    have lc := S_lt' O (i := c) (j := d + 1) (by omega) (by omega) (by omega) (by omega)
    have oa := o1.2.1
    have oc := o2.2.1
    have rok := runs_ok o1 o2
    have rl := runs_len a c d b
    have dr := days_of_runs O o1 o2
    walk_at "rd"
    refine ⟨t, u, a, b, c, d, rfl, ht, hu, o1, o2, fun lr G1 H1 acc gr => ?_⟩
    have x1 := gr.st.hh
    have P1 : PairsL K H1 lr (runsTo a c d b) := ⟨acc, gr.el, DpAll.same gr.st.vw gr.ds⟩
    obtain ⟨dx, hp1⟩ := S1.same x1
    walk_at "rd"
    refine ⟨p, q, _, _, _, _, rfl, ⟨dx, hp1⟩, S2.same x1, by omega, by omega, fun l H2 vs nl x2 el st => ?_⟩
    rw [dr] at st
    walk_at "rd"
    refine ⟨l, ls, lr, vs, S, _, rfl, el, st, x2 _ _ (x1 _ _ hS), P1.same x2, O.1, rok, rl, fun H3 x3 => ?_⟩
    have el3 := x3 _ _ el
    have x13 : Same H1 H3 := x2.trans x3
    have vl : vs.length ≤ 2 := by rw [Paired.length st, List.length_map]; exact rl
    walk_at "rd"
    refine ⟨.inl ⟨rfl, _, SqL.of el3⟩, ?_⟩
    refine ⟨l, vs, rfl, rfl, el3, ?_⟩
    have y4 : Same H1 (L2.upd H3 l (.lst vs.reverse)) := fun z o e => by rw [upd_ne (ne_of_none e nl)]; exact x13 _ _ e
    have e4 : (L2.upd H3 l (.lst vs.reverse)) l = some (.lst vs.reverse) := upd_same
    generalize L2.upd H3 l (.lst vs.reverse) = H4 at *
    walk_at "rd"
    refine ⟨.inl ⟨rfl, _, SqL.of e4⟩, ?_⟩
    walk_at "rd"
    refine ⟨l, _, .ref p, rfl, rfl, e4, by rw [List.length_reverse, sizeLine_eq]; omega, ?_⟩
    have y5 : Same H1 (L2.upd H4 l (.lst (vs.reverse ++ [.ref p]))) := fun z o e => by rw [upd_ne (ne_of_none e nl)]; exact y4 _ _ e
    generalize L2.upd H4 l (.lst (vs.reverse ++ [.ref p])) = H5 at *
    obtain ⟨dx5, hp5⟩ := S1.same (x1.trans y5)
    walk_at "rd"
    refine ⟨p, q, _, _, _, _, rfl, ⟨dx5, hp5⟩, S2.same (x1.trans y5), by omega, by omega, fun l6 H6 vs6 nl6 x6 el6 st6 => ?_⟩
    rw [dr] at st6
    walk_at "rd"
    exact ⟨l6, ls, lr, vs6, S, _, rfl, el6, st6, x6 _ _ (y5 _ _ (x1 _ _ hS)), P1.same (y5.trans x6), O.1, rok, rl, fun H7 x7 => k _ (x1.trans (y5.trans (x6.trans x7)))⟩
end
end Toy
set_option Elab.async false
set_option linter.all false
set_option maxRecDepth 100000
set_option maxHeartbeats 4000000
namespace Toy
open PySem L2 XR
local macro_rules | `(tactic| walk_at "ne") => `(tactic| first | assumption | (apply Ne.symm; assumption) | exact XR.ne_fresh (by assumption) (by walk_at "hp") | exact Ne.symm (XR.ne_fresh (by assumption) (by walk_at "hp")))
local macro_rules | `(tactic| walk_at "hp") => `(tactic| first | assumption | exact upd_same | (refine Eq.trans (upd_ne ?_) ?_; (walk_at "ne"); walk_at "hp"))
local macro_rules | `(tactic| walk_at "sq") => `(tactic| first | walk_at "hp" | exact SqL.of (by walk_at "hp") | exact SqT.of (by walk_at "hp") | exact XR.SqT.same (by assumption) (by assumption) | exact XR.SqL.same (by assumption) (by assumption))
local macro_rules | `(tactic| walk_at "br") => `(tactic| (refine ite2 ?_ ?_ <;> intro hbr <;> (try simp only [decide_eq_true_eq, decide_eq_false_iff_not, V.int.injEq, V.bl.injEq, V.str.injEq, Bool.not_eq_true, Bool.not_eq_eq_eq_not, Bool.not_true, Bool.not_false, ne_eq, Int.reduceToNat, Int.reducePow, Int.reduceMul, Int.reduceAdd, Int.reduceSub, reduceCtorEq, not_true_eq_false, not_false_eq_true, Int.not_lt, Int.not_le] at hbr)))
local macro_rules | `(tactic| walk_at "side") => `(tactic| first
  | exact ⟨by decide, by decide, by decide⟩
  | exact .inl ⟨by decide, by decide⟩
  | exact .inr ⟨by decide, by decide⟩
  | exact XR.divw (by first | decide | omega) (by first | decide | omega)
  | (show (_ : Int) = _; first | rfl | omega)
  | (show (0 : Int) < _; first | decide | assumption | omega)
  | exact .inl ⟨by omega, by omega⟩
  | exact .inr ⟨by omega, by omega⟩
  | exact .inl (XR.cmul_mod (by decide))
  | exact XR.log_lt (by omega) (by omega)
  | decide
  | (rw [sizeLine_eq]; simp; done)
  | (show 2 ≤ sizeLine; decide) | (show 3 ≤ sizeLine; decide) | (show 4 ≤ sizeLine; decide) | (show 5 ≤ sizeLine; decide) | (show 6 ≤ sizeLine; decide) | (show 7 ≤ sizeLine; decide) | (show 1 ≤ sizeLine; decide) | (show 8 ≤ sizeLine; decide) | (show 0 ≤ sizeLine; decide))
local macro_rules | `(tactic| walk_at "rd1") => `(tactic| first
  | refine ⟨_, rfl, ?_⟩
  | refine ⟨_, _, rfl, rfl, ?_⟩
  | refine ⟨_, _, _, _, rfl, rfl, (by walk_at "sq"), rfl, ?_⟩
  | refine ⟨_, _, _, _, rfl, rfl, (by walk_at "hp"), (by walk_at "hp"), (by walk_at "side"), ?_⟩
  | refine ⟨_, _, rfl, .inl (by walk_at "sq"), ?_⟩
  | refine ⟨_, _, rfl, .inl ⟨(by walk_at "sq"), ?_⟩⟩
  | refine ⟨_, _, rfl, .inr (by walk_at "sq"), ?_⟩
  | refine ⟨_, _, _, _, _, rfl, (by walk_at "hp"), (by walk_at "cls"), (by walk_at "noat"), rfl, ?_⟩
  | refine ⟨_, _, _, _, rfl, rfl, (by walk_at "sq"), (by first | assumption | exact XR.at0 | exact XR.at1), ?_⟩
  | refine ⟨rfl, ?_⟩
  | refine And.intro (by walk_at "side") ?_
  | refine .inl ⟨_, rfl, ?_⟩
  | refine And.intro ⟨_, (by walk_at "sq")⟩ ?_
  | refine ⟨_, _, rfl, (by walk_at "sq"), ?_⟩
  | refine ⟨_, _, rfl, ?_⟩
  | refine .inr ⟨_, rfl, (by walk_at "side"), ?_⟩
  | refine ⟨_, _, _, rfl, (by walk_at "hp"), ?_⟩
  | refine iteT ?_
  | refine iteF ?_)
local macro_rules | `(tactic| walk_at "rd") => `(tactic| repeat (walk_at "rd1"))
local macro_rules | `(tactic| walk_at "nn") => `(tactic| (simp only [Int.reduceToNat, Int.reducePow, Int.reduceMul, Int.reduceAdd, Int.reduceSub, Int.reduceNeg]))
local macro_rules | `(tactic| walk_at "dr") => `(tactic| repeat (first | refine And.intro (by first | assumption | walk_at "pre") ?_ | refine And.intro (by first | decide | omega) ?_))
local macro_rules | `(tactic| walk_at "cls") => `(tactic| first | exact T_cl_Stay (by assumption))
local macro_rules | `(tactic| walk_at "noat") => `(tactic| first | exact Txt.no_Stay_come (by assumption) | exact Txt.no_Stay_go (by assumption))
local macro_rules | `(tactic| walk_at "pre") => `(tactic| first | assumption | exact BoxAt.new (by walk_at "pre") (by assumption) | exact BoxAt.same (by walk_at "pre") (by assumption))
section
variable {P : Program} {w : World} {K : PySem.W.Frag} {mg : Str → Option Value} {base : Heap} {D : Ad}
def spListed : Sp := fun vs H Q _ => ∃ (b ls : Addr) (S : List Int), vs = [.ref b, .ref ls] ∧ BoxAt H b ∧ ls ≠ b ∧ H ls = some (.lst (S.map V.int)) ∧ S.length = 11 ∧ ∀ l H' ns, H l = none → l ≠ b → H' l = some (.lst (ns.map V.int)) → ns ≠ [] → ns.length ≤ 9 → BoxAt H' b → ExB b H H' → Q (.ref l) H'
theorem sc__law_listed : FnScope ["_law_box", "_law_starts_here", "_law_days_here", "_law_k", "_law_at", "_law_day", "_law_far_here"] ["_law_box", "_law_starts_here"] (defScope s__law_listed) := ⟨rfl, rfl, rfl, by decide +kernel, rfl, by decide +kernel, by decide +kernel⟩
theorem ok__law_listed (T : Txt K mg D) : FnOk P w K mg base CX0 3 D.a__law_listed D.d__law_listed ["_law_box", "_law_starts_here"] spListed := by
  have G__law_take := ok__law_take (P := P) (w := w) (base := base) T
  refine T.F__law_listed.ok sc__law_listed (fun vs H Q E h => ?_) (fun cdv A outer s H vs Q E hr h => ?_)
  · obtain ⟨b, ls, S, rfl, _⟩ := h
    rfl
  · obtain ⟨b, ls, S, rfl, B, nls, hS, hSl, k⟩ := h
    refine ⟨_, (pss_cons (ps_set (i := 2) sc__law_listed.nd rfl (Or.inl rfl) (pe_lst pa_nil))
      (pss_cons (ps_for PassesOwn.never rfl (pi_range1 (by rfl) T.n_range (pa_cons (pe_op op_add pe_int (pe_call G__law_take (hr.mono (by decide)) (by rfl) T.g__law_take T.F__law_take.kp T.b__law_take .nil pass0 (pa_cons (pv 0) (pa_cons pe_int pa_nil)))) pa_nil)) (pg_name (i := 3) sc__law_listed.nd rfl (Or.inl rfl))
      (pss_cons (ps_set (i := 4) sc__law_listed.nd rfl (Or.inl rfl) (pe_call G__law_take (hr.mono (by decide)) (by rfl) T.g__law_take T.F__law_take.kp T.b__law_take .nil pass0 (pa_cons (pv 0) (pa_cons pe_int pa_nil))))
      (pss_cons (ps_set (i := 5) sc__law_listed.nd rfl (Or.inl rfl) (pe_ix ix_list (pe_lst (pa_cons (pe_ix ix_list (pv 1) (pv 4) (fun _ _ => rfl)) (pa_cons (pe_op op_sub (pe_ix ix_list (pv 1) (pe_op op_add (pv 4) pe_int) (fun _ _ => rfl)) pe_int) pa_nil))) (pe_call G__law_take (hr.mono (by decide)) (by rfl) T.g__law_take T.F__law_take.kp T.b__law_take .nil pass0 (pa_cons (pv 0) (pa_cons pe_int pa_nil))) (fun _ _ => rfl)))
      (pss_cons (ps_set (i := 6) sc__law_listed.nd rfl (Or.inl rfl) (pe_call G__law_take (hr.mono (by decide)) (by rfl) T.g__law_take T.F__law_take.kp T.b__law_take .nil pass0 (pa_cons (pv 0) (pa_cons pe_int pa_nil))))
      (Evl.pss_cut (ps_if (pt_cmpR op_eq (pv 6) pe_int (nomark _))
      (pss_one (ps_set (i := 5) sc__law_listed.nd rfl (Or.inl rfl) (pe_op op_sub (pv 5) (pe_op op_pow pe_int pe_int))))
      pss_nil)
      (Evl.pss_cut (ps_if (pt_cmpR op_eq (pv 6) pe_int (nomark _))
      (pss_one (ps_set (i := 5) sc__law_listed.nd rfl (Or.inl rfl) (pe_op op_add (pv 5) (pe_op op_pow pe_int pe_int))))
      pss_nil)
      (pss_one (ps_expr (pe_bm PySem.F.plainAttrs_list PySem.F.slot_list_append PySem.F.type_list_append mt_append (pv 2) (pa_cons (pv 5) pa_nil))))))))))
      (pss_one (ps_ret (pv 2))))), ?_⟩
    walk_at "rd"
    intro l hl
    have nl : l ≠ b := BoxAt.ne B hl
    have B0 : BoxAt (L2.upd H l (.lst [])) b := B.new hl
    walk_at "rd"
    walk_at "dr"
    intro r1 H1 p1 q1 B1 x1 f1
    have F1 := f1 l (BoxFree.of B hl)
    have el1 : H1 l = some (.lst []) := x1 _ _ nl upd_same
    have y1 : ExB b H H1 := (ExB.refl.new hl).trans x1
    walk_at "rd"
    refine ⟨by omega, by omega, ?_⟩
    refine for_range (fun i σ H2 => Stop (∃ (v1 v2 v3 v4 : Option V) (ns : List Int), σ = [some (.ref b), some (.ref ls), some (.ref l), v1, v2, v3, v4] ∧ H2 l = some (.lst (ns.map V.int)) ∧ ns.length = i ∧ BoxFree H2 b l ∧ ExB b H H2)) (.go ⟨none, none, none, none, [], rfl, el1, rfl, F1, y1⟩) ?_ ?_
    · intro i σ H2 hi hm
      obtain ⟨v1, v2, v3, v4, ns, rfl, el, hlen, F, y⟩ := hm.out
      have B2 := F.at
      walk_at "rd"
      walk_at "dr"
      intro at_ H3 p3 q3 B3 x3 f3
      have e0 := S_at (S := S) (i := at_) p3 (by omega)
      have e1 := S_at (S := S) (i := at_ + 1) (by omega) (by omega)
      have y3 := y.trans x3
      have hS3 := y3 _ _ nls hS
      walk_at "rd"
      intro la hla
      walk_at "rd"
      walk_at "dr"
      intro r4 H4 p4 q4 B4 x4 f4
      obtain ⟨z, ea, _⟩ := ints_at (P := fun _ => True) [g S at_, g S (at_ + 1) - 1] p4 q4 (fun _ _ => trivial)
      refine ⟨_, _, _, _, rfl, rfl, SqL.of (x4 la _ (BoxAt.ne B3 hla) upd_same), ea, ?_⟩
      walk_at "rd"
      walk_at "dr"
      intro far H5 p5 q5 B5 x5 f5
      have F5 := f5 l (f4 l ((f3 l F).new hla))
      have y5 : ExB b H2 H5 := x3.trans ((ExB.refl.new hla).trans (x4.trans x5))
      have el5 := y5 _ _ nl el
      walk_at "rd"
      refine ⟨fun σ' H' => Stop (∃ z : Int, σ' = [some (.ref b), some (.ref ls), some (.ref l), some (.int (0 + (i : Int))), some (.int at_), some (.int z), some (.int far)] ∧ H' = H5), ?_, fun σ6 H6 hm => ?_⟩
      · walk_at "rd"
        walk_at "br"
        · walk_at "rd"
          exact .go ⟨_, rfl, rfl⟩
        · exact .go ⟨_, rfl, rfl⟩
      · obtain ⟨z, rfl, rfl⟩ := hm.out
        walk_at "rd"
        refine ⟨fun σ' H' => Stop (∃ z : Int, σ' = [some (.ref b), some (.ref ls), some (.ref l), some (.int (0 + (i : Int))), some (.int at_), some (.int z), some (.int far)] ∧ H' = H6), ?_, fun σ7 H7 hm => ?_⟩
        · walk_at "rd"
          walk_at "br"
          · walk_at "rd"
            exact .go ⟨_, rfl, rfl⟩
          · exact .go ⟨_, rfl, rfl⟩
        · obtain ⟨z, rfl, rfl⟩ := hm.out
          walk_at "rd"
          refine ⟨.inl ⟨rfl, _, SqL.of el5⟩, ?_⟩
          walk_at "rd"
          refine ⟨l, _, .int z, rfl, rfl, el5, by rw [List.length_map, sizeLine_eq]; omega, ?_⟩
          refine .go ⟨_, _, _, _, ns ++ [z], rfl, by rw [List.map_append]; exact upd_same, by rw [List.length_append, hlen]; rfl, F5.put, fun q o n e => ?_⟩
          rw [upd_ne (ne_of_none e hl)]
          exact (y.trans y5) _ _ n e
    · intro σ H2 hm
      obtain ⟨v1, v2, v3, v4, ns, rfl, el, hlen, F, y⟩ := hm.out
      walk_at "rd"
      exact k l H2 ns hl nl el (fun z => by rw [z] at hlen; simp at hlen; omega) (by omega) F.at y
def spAroundL : Sp := fun vs H Q _ => ∃ (l : Addr) (ns : List Int) (f : Bool), vs = [.ref l, .bl f] ∧ H l = some (.lst (ns.map V.int)) ∧ ns ≠ [] ∧ ns.length ≤ 9 ∧ Yes H Q
theorem sc__law_around : FnScope ["_law_days_here", "_law_as_tuple", "_law_due", "_law_handed"] ["_law_days_here", "_law_as_tuple"] (defScope s__law_around) := ⟨rfl, rfl, rfl, by decide +kernel, rfl, by decide +kernel, by decide +kernel⟩
theorem ok__law_around (T : Txt K mg D) : FnOk P w K mg base CX0 7 D.a__law_around D.d__law_around ["_law_days_here", "_law_as_tuple"] spAroundL := by
  have G__law_is := ok__law_is (P := P) (w := w) (base := base) T
  have G_Stay_around := ok_Stay_around (P := P) (w := w) (base := base) T
  refine T.F__law_around.ok sc__law_around (fun vs H Q E h => ?_) (fun cdv A outer s H vs Q E hr h => ?_)
  · obtain ⟨l, ns, f, rfl, _⟩ := h
    rfl
  · obtain ⟨l, ns, f, rfl, hl, hn, hlen, k⟩ := h
    refine ⟨_, (pss_cons (ps_set (i := 2) sc__law_around.nd rfl (Or.inl rfl) (pe_tup (pa_cons (pe_callB (XR.cr_minQ rfl) (by rfl) T.n_min (by decide +kernel) (pa_cons (pv 0) pa_nil)) (pa_cons (pe_callB (XR.cr_maxQ rfl) (by rfl) T.n_max (by decide +kernel) (pa_cons (pv 0) pa_nil)) pa_nil))))
      (pss_cons (ps_if (pt_val (pv 1))
      (pss_one (ps_ret (pe_call G__law_is (hr.mono (by decide)) (by rfl) T.g__law_is T.F__law_is.kp T.b__law_is .nil pass0 (pa_cons (XR.pe_stat (pe_glob (v := .ref D.c_Stay) (by rfl) T.g_Stay rfl) (T_s_Stay_around T) G_Stay_around (hr.mono (by decide)) T.F_Stay_around.kp T.b_Stay_around (fun σ => XR.at_of_passes (σ := σ) passL) (pa_cons (pe_callTy call_tuple_of (by rfl) T.n_tuple (by decide +kernel) (pa_cons (pv 0) pa_nil)) pa_nil)) (pa_cons (pv 2) pa_nil)))))
      pss_nil)
      (pss_cons (ps_set (i := 3) sc__law_around.nd rfl (Or.inl rfl) (pe_callTy call_list_of (by rfl) T.n_list (by decide +kernel) (pa_cons (pv 0) pa_nil)))
      (pss_one (ps_ret (pe_and (pe_call G__law_is (hr.mono (by decide)) (by rfl) T.g__law_is T.F__law_is.kp T.b__law_is .nil pass0 (pa_cons (XR.pe_stat (pe_glob (v := .ref D.c_Stay) (by rfl) T.g_Stay rfl) (T_s_Stay_around T) G_Stay_around (hr.mono (by decide)) T.F_Stay_around.kp T.b_Stay_around (fun σ => XR.at_of_passes (σ := σ) passL) (pa_cons (pv 3) pa_nil)) (pa_cons (pv 2) pa_nil))) (pe_one (pe_cmpR (op_eqD hr.units) (pv 3) (pv 0) (nomark _))))))))), ?_⟩
    have hpos : 0 < ns.length := List.length_pos_iff.mpr hn
    have hlA : SqA K H l (ns.map V.int) := .inl (SqL.of hl)
    walk_at "rd"
    refine ⟨hpos, fun m m1 m2 => ?_⟩
    walk_at "rd"
    refine ⟨hpos, fun M M1 M2 => ?_⟩
    walk_at "rd"
    intro t ht
    have hl1 : (L2.upd H t (.tup [.int m, .int M])) l = some (.lst (ns.map V.int)) := (Same.add ht) _ _ hl
    have et : (L2.upd H t (.tup [.int m, .int M])) t = some (.tup [.int m, .int M]) := upd_same
    have x1 : Same H (L2.upd H t (.tup [.int m, .int M])) := Same.add ht
    generalize L2.upd H t (.tup [.int m, .int M]) = H1 at *
    cases f with
    | true =>
      walk_at "rd"
      intro u hu
      walk_at "rd"
      refine ⟨fun z => (hn z).elim, fun _ m' M' p H2 a1 a2 a3 a4 np x2 sp => ?_⟩
      have q1 : m' = m := Int.le_antisymm (a2 _ m1) (m2 _ a1)
      have q2 : M' = M := Int.le_antisymm (M2 _ a3) (a4 _ M1)
      subst q1 q2
      have x3 : Same H1 H2 := (Same.add hu).trans x2
      walk_at "rd"
      refine ⟨p, t, _, _, rfl, sp, x3 _ _ et, ?_⟩
      walk_at "rd"
      exact k _ (x1.trans x3)
    | false =>
      walk_at "rd"
      intro u hu
      have eu : (L2.upd H1 u (.lst (ns.map V.int))) u = some (.lst (ns.map V.int)) := upd_same
      walk_at "rd"
      refine ⟨fun z => (hn z).elim, fun _ m' M' p H2 a1 a2 a3 a4 np x2 sp => ?_⟩
      have q1 : m' = m := Int.le_antisymm (a2 _ m1) (m2 _ a1)
      have q2 : M' = M := Int.le_antisymm (M2 _ a3) (a4 _ M1)
      subst q1 q2
      have x3 : Same H1 H2 := (Same.add hu).trans x2
      have eu2 := x2 _ _ eu
      have el2 := x3 _ _ hl1
      walk_at "rd"
      refine ⟨p, t, _, _, rfl, sp, x3 _ _ et, ?_⟩
      walk_at "rd"
      refine ⟨_, _, .lst (SqL.of eu2) (DpAll.of_ints ns), .lst (SqL.of el2) (DpAll.of_ints ns), shaped_ints ns, shaped_ints ns, ?_⟩
      rw [eqv_ints]
      exact k _ (x1.trans x3)
def spNoDays : Sp := fun vs H Q _ => ∃ (l : Addr), vs = [.ref l] ∧ SqA K H l [] ∧ Yes H Q
theorem sc__law_no_days : FnScope ["_law_days_here", "e"] ["_law_days_here"] (defScope s__law_no_days) := ⟨rfl, rfl, rfl, by decide +kernel, rfl, by decide +kernel, by decide +kernel⟩
theorem ok__law_no_days (T : Txt K mg D) : FnOk P w K mg base CX0 7 D.a__law_no_days D.d__law_no_days ["_law_days_here"] (spNoDays (K := K)) := by
  have G_Stay_around := ok_Stay_around (P := P) (w := w) (base := base) T
  refine T.F__law_no_days.ok sc__law_no_days (fun vs H Q E h => ?_) (fun cdv A outer s H vs Q E hr h => ?_)
  · obtain ⟨l, rfl, _⟩ := h
    rfl
  · obtain ⟨l, rfl, hl, k⟩ := h
    refine ⟨_, (pss_cons (ps_try_as (i := 1) (Wout := fun _ _ _ _ => False) rfl rfl sc__law_no_days.nd rfl rfl ⟨rfl, by decide, Or.inl T.g_NoDays⟩ takes0 (fun W pn xe tk _ => (pss_one (ps_expr (XR.pe_stat (pe_glob (v := .ref D.c_Stay) (by rfl) T.g_Stay rfl) (T_s_Stay_around T) G_Stay_around (hr.mono (by decide)) T.F_Stay_around.kp T.b_Stay_around (fun σ => passAt tk σ) (pa_cons (pv 0) pa_nil))))) (fun a oe cls d pn hz hf => XR.cong_ts (by exact (pss_cons (ps_if (pt_val (pe_callB (id := "isinstance") (XR.call_isATs hz hf) (by rfl) T.n_isinstance (by decide +kernel) (pa_cons (pv 1) (pa_cons (pe_tup (pa_cons (pe_glob (v := .ref D.c_UnknownError) (by rfl) T.g_UnknownError rfl) (pa_cons (pe_glob (v := .ref D.c_TextError) (by rfl) T.g_TextError rfl) (pa_cons (pe_glob (v := .ref D.c_ImpossibleError) (by rfl) T.g_ImpossibleError rfl) (pa_cons (pe_glob (v := .ref D.c_EmptyStay) (by rfl) T.g_EmptyStay rfl) pa_nil))))) pa_nil))))
      (pss_one (ps_ret pe_bl))
      pss_nil)
      (pss_one (ps_ret (pe_and (pe_callB (id := "isinstance") (XR.call_isAs hz hf) (by rfl) T.n_isinstance (by decide +kernel) (pa_cons (pv 1) (pa_cons (pe_glob (v := .ref D.c_ArchiveError) (by rfl) T.g_ArchiveError rfl) pa_nil))) (pe_one (pe_callB (id := "isinstance") (XR.call_isAs hz hf) (by rfl) T.n_isinstance (by decide +kernel) (pa_cons (pv 1) (pa_cons (pe_bltn (v := .ty "ValueError") (u := .type "ValueError") (by rfl) T.n_ValueError (by decide +kernel) rfl) pa_nil))))))))) (by rfl)))
      (pss_one (ps_ret pe_bl))), ?_⟩
    have hlA : SqA K H l (([] : List Int).map V.int) := hl
    walk_at "rd"
    refine ⟨fun _ => ?_, fun z => (z rfl).elim⟩
    refine ⟨true, T.m_nn, fun _ ea hea => ?_, fun h => by cases h⟩
    walk_at "rd"
    intro tp htp
    walk_at "rd"
    refine .inr ⟨_, tp, _, _, false, rfl, rfl, T_as_NoDays T, rfl, upd_same, .cons (.own _) (.cons (.own _) (.cons (.own _) (.cons (.own _) .nil))), XR.kitAny_4 T.z_U T.z_T T.z_I T.z_E, ?_⟩
    walk_at "rd"
    refine .inr ⟨_, _, _, true, rfl, rfl, T_as_NoDays T, rfl, .own _, T.z_A, ?_⟩
    walk_at "rd"
    refine .inr ⟨_, _, _, true, rfl, rfl, T_as_NoDays T, rfl, .ty _, T.z_V, ?_⟩
    exact k _ (Same.add htp)
theorem sc__law_caught : FnScope ["e"] [] (defScope s__law_caught) := ⟨rfl, rfl, rfl, by decide +kernel, rfl, by decide +kernel, by decide +kernel⟩
theorem ok__law_caught (T : Txt K mg D) : FnOk P w K mg base CX0 7 D.a__law_caught D.d__law_caught [] (fun vs H Q _ => vs = [] ∧ Yes H Q) := by
  have G_Stay_around := ok_Stay_around (P := P) (w := w) (base := base) T
  refine T.F__law_caught.ok sc__law_caught (fun vs H Q E h => ?_) (fun cdv A outer s H vs Q E hr h => ?_)
  · obtain ⟨rfl, _⟩ := h
    rfl
  · obtain ⟨rfl, k⟩ := h
    refine ⟨_, (pss_cons (ps_try_as (i := 0) (Wout := fun _ _ _ _ => False) rfl rfl sc__law_caught.nd rfl rfl ⟨rfl, by decide, Or.inl T.g_ArchiveError⟩ takes0 (fun W pn xe tk _ => (pss_one (ps_expr (XR.pe_stat (pe_glob (v := .ref D.c_Stay) (by rfl) T.g_Stay rfl) (T_s_Stay_around T) G_Stay_around (hr.mono (by decide)) T.F_Stay_around.kp T.b_Stay_around (fun σ => passAt tk σ) (pa_cons (pe_lst pa_nil) pa_nil))))) (fun a oe cls d pn hz hf => XR.cong_ts (by exact (pss_one (ps_ret (pe_callB (id := "isinstance") (XR.call_isAs hz hf) (by rfl) T.n_isinstance (by decide +kernel) (pa_cons (pv 0) (pa_cons (pe_glob (v := .ref D.c_NoDays) (by rfl) T.g_NoDays rfl) pa_nil)))))) (by rfl)))
      (pss_one (ps_ret pe_bl))), ?_⟩
    walk_at "rd"
    intro l hl
    walk_at "rd"
    refine ⟨l, [], rfl, .inl (SqL.of upd_same), fun _ => ?_, fun z => (z rfl).elim⟩
    refine ⟨true, T.m_na, fun _ ea hea => ?_, fun h => by cases h⟩
    walk_at "rd"
    refine .inr ⟨_, _, _, true, rfl, rfl, T_as_NoDays T, rfl, .own _, T.z_N, ?_⟩
    walk_at "rd"
    exact k _ (Same.add hl)
end
end Toy
set_option Elab.async false
set_option linter.all false
set_option maxRecDepth 100000
set_option maxHeartbeats 4000000
namespace Toy
open PySem L2 XR
local macro_rules | `(tactic| walk_at "ne") => `(tactic| first | assumption | (apply Ne.symm; assumption) | exact XR.ne_fresh (by assumption) (by walk_at "hp") | exact Ne.symm (XR.ne_fresh (by assumption) (by walk_at "hp")))
local macro_rules | `(tactic| walk_at "hp") => `(tactic| first | assumption | exact upd_same | (refine Eq.trans (upd_ne ?_) ?_; (walk_at "ne"); walk_at "hp"))
local macro_rules | `(tactic| walk_at "sq") => `(tactic| first | walk_at "hp" | exact SqL.of (by walk_at "hp") | exact SqT.of (by walk_at "hp") | exact XR.SqT.same (by assumption) (by assumption) | exact XR.SqL.same (by assumption) (by assumption))
local macro_rules | `(tactic| walk_at "br") => `(tactic| (refine ite2 ?_ ?_ <;> intro hbr <;> (try simp only [decide_eq_true_eq, decide_eq_false_iff_not, V.int.injEq, V.bl.injEq, V.str.injEq, Bool.not_eq_true, Bool.not_eq_eq_eq_not, Bool.not_true, Bool.not_false, ne_eq, Int.reduceToNat, Int.reducePow, Int.reduceMul, Int.reduceAdd, Int.reduceSub, reduceCtorEq, not_true_eq_false, not_false_eq_true, Int.not_lt, Int.not_le] at hbr)))
local macro_rules | `(tactic| walk_at "side") => `(tactic| first
  | exact ⟨by decide, by decide, by decide⟩
  | exact .inl ⟨by decide, by decide⟩
  | exact .inr ⟨by decide, by decide⟩
  | exact XR.divw (by first | decide | omega) (by first | decide | omega)
  | (show (_ : Int) = _; first | rfl | omega)
  | (show (0 : Int) < _; first | decide | assumption | omega)
  | exact .inl ⟨by omega, by omega⟩
  | exact .inr ⟨by omega, by omega⟩
  | exact .inl (XR.cmul_mod (by decide))
  | exact XR.log_lt (by omega) (by omega)
  | decide
  | (rw [sizeLine_eq]; simp; done)
  | (show 2 ≤ sizeLine; decide) | (show 3 ≤ sizeLine; decide) | (show 4 ≤ sizeLine; decide) | (show 5 ≤ sizeLine; decide) | (show 6 ≤ sizeLine; decide) | (show 7 ≤ sizeLine; decide) | (show 1 ≤ sizeLine; decide) | (show 8 ≤ sizeLine; decide) | (show 0 ≤ sizeLine; decide))
local macro_rules | `(tactic| walk_at "rd1") => `(tactic| first
  | refine ⟨_, rfl, ?_⟩
  | refine ⟨_, _, rfl, rfl, ?_⟩
  | refine ⟨_, _, _, _, rfl, rfl, (by walk_at "sq"), rfl, ?_⟩
  | refine ⟨_, _, _, _, rfl, rfl, (by walk_at "hp"), (by walk_at "hp"), (by walk_at "side"), ?_⟩
  | refine ⟨_, _, rfl, .inl (by walk_at "sq"), ?_⟩
  | refine ⟨_, _, rfl, .inl ⟨(by walk_at "sq"), ?_⟩⟩
  | refine ⟨_, _, rfl, .inr (by walk_at "sq"), ?_⟩
  | refine ⟨_, _, _, _, _, rfl, (by walk_at "hp"), (by walk_at "cls"), (by walk_at "noat"), rfl, ?_⟩
  | refine ⟨_, _, _, _, rfl, rfl, (by walk_at "sq"), (by first | assumption | exact XR.at0 | exact XR.at1), ?_⟩
  | refine ⟨rfl, ?_⟩
  | refine And.intro (by walk_at "side") ?_
  | refine .inl ⟨_, rfl, ?_⟩
  | refine And.intro ⟨_, (by walk_at "sq")⟩ ?_
  | refine ⟨_, _, rfl, (by walk_at "sq"), ?_⟩
  | refine ⟨_, _, rfl, ?_⟩
  | refine .inr ⟨_, rfl, (by walk_at "side"), ?_⟩
  | refine ⟨_, _, _, rfl, (by walk_at "hp"), ?_⟩
  | refine iteT ?_
  | refine iteF ?_)
local macro_rules | `(tactic| walk_at "rd") => `(tactic| repeat (walk_at "rd1"))
local macro_rules | `(tactic| walk_at "nn") => `(tactic| (simp only [Int.reduceToNat, Int.reducePow, Int.reduceMul, Int.reduceAdd, Int.reduceSub, Int.reduceNeg]))
local macro_rules | `(tactic| walk_at "dr") => `(tactic| repeat (first | refine And.intro (by first | assumption | walk_at "pre") ?_ | refine And.intro (by first | decide | omega) ?_))
local macro_rules | `(tactic| walk_at "cls") => `(tactic| first | exact T_cl_Stay (by assumption))
local macro_rules | `(tactic| walk_at "noat") => `(tactic| first | exact Txt.no_Stay_come (by assumption) | exact Txt.no_Stay_go (by assumption))
local macro_rules | `(tactic| walk_at "pre") => `(tactic| first | assumption | exact BoxAt.new (by walk_at "pre") (by assumption) | exact BoxAt.same (by walk_at "pre") (by assumption))
section
variable {P : Program} {w : World} {K : PySem.W.Frag} {mg : Str → Option Value} {base : Heap} {D : Ad}
def spLaw (K : PySem.W.Frag) : Sp := fun vs H Q _ => ∃ (a : Addr) (ns : List Int), vs = [.ref a] ∧ SqL K H a (ns.map V.int) ∧ ns.length ≤ 63 ∧ ∀ H', Q (.bl true) H'
theorem sc_law : FnScope ["_law_script", "_law_box", "_law_starts_here", "_law_mine", "_law_other", "_law_first", "_law_second", "_law_one", "_law_two", "_law_days_here"] ["_law_script"] (defScope s_law) := ⟨rfl, rfl, rfl, by decide +kernel, rfl, by decide +kernel, by decide +kernel⟩
theorem ok_law (T : Txt K mg D) : FnOk P w K mg base CX0 9 D.a_law D.d_law ["_law_script"] (spLaw K) := by
  have G__law_is := ok__law_is (P := P) (w := w) (base := base) T
  have G__law_caught := ok__law_caught (P := P) (w := w) (base := base) T
  have G__law_no_days := ok__law_no_days (P := P) (w := w) (base := base) T
  have G__law_around := ok__law_around (P := P) (w := w) (base := base) T
  have G__law_take := ok__law_take (P := P) (w := w) (base := base) T
  have G__law_listed := ok__law_listed (P := P) (w := w) (base := base) T
  have G_Stay_parts_without := ok_Stay_parts_without (P := P) (w := w) (base := base) T
  have G_Stay_init := ok_Stay_init (P := P) (w := w) (base := base) T
  have G__law_parted := ok__law_parted (P := P) (w := w) (base := base) T
  have G__law_placed := ok__law_placed (P := P) (w := w) (base := base) T
  have G__law_days := ok__law_days (P := P) (w := w) (base := base) T
  have G__law_row := ok__law_row (P := P) (w := w) (base := base) T
  have G__law_starts := ok__law_starts (P := P) (w := w) (base := base) T
  have G__law_draws := ok__law_draws (P := P) (w := w) (base := base) T
  refine T.F_law.ok sc_law (fun vs H Q E h => ?_) (fun cdv A outer s H vs Q E hr h => ?_)
  · obtain ⟨a, ns, rfl, _⟩ := h
    rfl
  · obtain ⟨a, ns, rfl, hS, hl, k⟩ := h
    refine ⟨_, (pss_cons (ps_set (i := 1) sc_law.nd rfl (Or.inl rfl) (pe_call G__law_draws (hr.mono (by decide)) (by rfl) T.g__law_draws T.F__law_draws.kp T.b__law_draws .nil pass0 (pa_cons (pv 0) pa_nil)))
      (pss_cons (ps_set (i := 2) sc_law.nd rfl (Or.inl rfl) (pe_call G__law_starts (hr.mono (by decide)) (by rfl) T.g__law_starts T.F__law_starts.kp T.b__law_starts .nil pass0 (pa_cons (pv 1) pa_nil)))
      (pss_cons (ps_set (i := 3) sc_law.nd rfl (Or.inl rfl) (pe_call G__law_row (hr.mono (by decide)) (by rfl) T.g__law_row T.F__law_row.kp T.b__law_row .nil pass0 (pa_cons (pv 1) pa_nil)))
      (pss_cons (ps_set (i := 4) sc_law.nd rfl (Or.inl rfl) (pe_call G__law_row (hr.mono (by decide)) (by rfl) T.g__law_row T.F__law_row.kp T.b__law_row .nil pass0 (pa_cons (pv 1) pa_nil)))
      (Evl.pss_cut (ps_if (pt_cmpR op_eq (pe_call G__law_take (hr.mono (by decide)) (by rfl) T.g__law_take T.F__law_take.kp T.b__law_take .nil pass0 (pa_cons (pv 1) (pa_cons pe_int pa_nil))) pe_int (nomark _))
      (pss_one (ps_set (i := 4) sc_law.nd rfl (Or.inl rfl) (pv 3)))
      pss_nil)
      (pss_cons (ps_set (i := 5) sc_law.nd rfl (Or.inl rfl) (pe_call G__law_days (hr.mono (by decide)) (by rfl) T.g__law_days T.F__law_days.kp T.b__law_days .nil pass0 (pa_cons (pv 2) (pa_cons (pv 3) pa_nil))))
      (pss_cons (ps_set (i := 6) sc_law.nd rfl (Or.inl rfl) (pe_call G__law_days (hr.mono (by decide)) (by rfl) T.g__law_days T.F__law_days.kp T.b__law_days .nil pass0 (pa_cons (pv 2) (pa_cons (pv 4) pa_nil))))
      (pss_cons (ps_set (i := 7) sc_law.nd rfl (Or.inl rfl) (pe_make (T_mk_Stay T) G_Stay_init (hr.mono (by decide)) (by rfl) T.g_Stay T.b_Stay_init .nil passL (pa_cons (pe_ix ix_tup (pv 5) pe_int (fun _ _ => rfl)) (pa_cons (pe_ix ix_tup (pv 5) pe_int (fun _ _ => rfl)) pa_nil))))
      (pss_cons (ps_set (i := 8) sc_law.nd rfl (Or.inl rfl) (pe_make (T_mk_Stay T) G_Stay_init (hr.mono (by decide)) (by rfl) T.g_Stay T.b_Stay_init .nil passL (pa_cons (pe_ix ix_tup (pv 6) pe_int (fun _ _ => rfl)) (pa_cons (pe_ix ix_tup (pv 6) pe_int (fun _ _ => rfl)) pa_nil))))
      (pss_cons (ps_if (PW.pt (pw_or (pt_not (pt_val (pe_call G__law_placed (hr.mono (by decide)) (by rfl) T.g__law_placed T.F__law_placed.kp T.b__law_placed .nil pass0 (pa_cons (pv 7) (pa_cons (pv 8) (pa_cons (pv 3) (pa_cons (pv 4) pa_nil))))))) (pw_or1 (pt_not (pt_val (pe_call G__law_placed (hr.mono (by decide)) (by rfl) T.g__law_placed T.F__law_placed.kp T.b__law_placed .nil pass0 (pa_cons (pv 8) (pa_cons (pv 7) (pa_cons (pv 4) (pa_cons (pv 3) pa_nil))))))))))
      (pss_one (ps_ret pe_bl))
      pss_nil)
      (pss_cons (ps_if (pt_not (pt_val (pe_call G__law_placed (hr.mono (by decide)) (by rfl) T.g__law_placed T.F__law_placed.kp T.b__law_placed .nil pass0 (pa_cons (pv 7) (pa_cons (pe_make (T_mk_Stay T) G_Stay_init (hr.mono (by decide)) (by rfl) T.g_Stay T.b_Stay_init .nil passL (pa_cons (pe_ix ix_tup (pv 5) pe_int (fun _ _ => rfl)) (pa_cons (pe_ix ix_tup (pv 5) pe_int (fun _ _ => rfl)) pa_nil))) (pa_cons (pv 3) (pa_cons (pv 3) pa_nil)))))))
      (pss_one (ps_ret pe_bl))
      pss_nil)
      (pss_cons (ps_if (PW.pt (pw_or (pt_not (pt_val (pe_call G__law_parted (hr.mono (by decide)) (by rfl) T.g__law_parted T.F__law_parted.kp T.b__law_parted .nil pass0 (pa_cons (pv 7) (pa_cons (pv 8) (pa_cons (pv 2) (pa_cons (pv 3) (pa_cons (pv 4) pa_nil)))))))) (pw_or1 (pt_not (pt_val (pe_call G__law_parted (hr.mono (by decide)) (by rfl) T.g__law_parted T.F__law_parted.kp T.b__law_parted .nil pass0 (pa_cons (pv 8) (pa_cons (pv 7) (pa_cons (pv 2) (pa_cons (pv 4) (pa_cons (pv 3) pa_nil)))))))))))
      (pss_one (ps_ret pe_bl))
      pss_nil)
      (pss_cons (ps_if (pt_cmpR (op_neD hr.units) (pe_meth (pv 7) (T_cl_Stay T) (T_m_Stay_parts_without T) G_Stay_parts_without (hr.mono (by decide)) T.b_Stay_parts_without .nil pass0 (pa_cons (pe_make (T_mk_Stay T) G_Stay_init (hr.mono (by decide)) (by rfl) T.g_Stay T.b_Stay_init .nil passL (pa_cons (pe_ix ix_tup (pv 5) pe_int (fun _ _ => rfl)) (pa_cons (pe_ix ix_tup (pv 5) pe_int (fun _ _ => rfl)) pa_nil))) pa_nil)) (pe_lst pa_nil) (nomark _))
      (pss_one (ps_ret pe_bl))
      pss_nil)
      (pss_cons (ps_set (i := 9) sc_law.nd rfl (Or.inl rfl) (pe_call G__law_listed (hr.mono (by decide)) (by rfl) T.g__law_listed T.F__law_listed.kp T.b__law_listed .nil pass0 (pa_cons (pv 1) (pa_cons (pv 2) pa_nil))))
      (pss_cons (ps_if (pt_not (pt_val (pe_call G__law_around (hr.mono (by decide)) (by rfl) T.g__law_around T.F__law_around.kp T.b__law_around .nil pass0 (pa_cons (pv 9) (pa_cons (pe_cmpR op_eq (pe_call G__law_take (hr.mono (by decide)) (by rfl) T.g__law_take T.F__law_take.kp T.b__law_take .nil pass0 (pa_cons (pv 1) (pa_cons pe_int pa_nil))) pe_int (nomark _)) pa_nil)))))
      (pss_one (ps_ret pe_bl))
      pss_nil)
      (pss_cons (ps_if (pt_not (pt_val (pe_call G__law_around (hr.mono (by decide)) (by rfl) T.g__law_around T.F__law_around.kp T.b__law_around .nil pass0 (pa_cons (pe_lst (pa_cons (pe_ix ix_tup (pv 5) pe_int (fun _ _ => rfl)) (pa_cons (pe_ix ix_tup (pv 6) pe_int (fun _ _ => rfl)) (pa_cons (pe_ix ix_tup (pv 5) pe_int (fun _ _ => rfl)) (pa_cons (pe_ix ix_tup (pv 6) pe_int (fun _ _ => rfl)) pa_nil))))) (pa_cons pe_bl pa_nil)))))
      (pss_one (ps_ret pe_bl))
      pss_nil)
      (pss_cons (ps_if (PW.pt (pw_or (pt_not (pt_val (pe_call G__law_no_days (hr.mono (by decide)) (by rfl) T.g__law_no_days T.F__law_no_days.kp T.b__law_no_days .nil pass0 (pa_cons (pe_lst pa_nil) pa_nil)))) (pw_or (pt_not (pt_val (pe_call G__law_no_days (hr.mono (by decide)) (by rfl) T.g__law_no_days T.F__law_no_days.kp T.b__law_no_days .nil pass0 (pa_cons (pe_tup pa_nil) pa_nil)))) (pw_or1 (pt_not (pt_val (pe_call0 G__law_caught (hr.mono (by decide)) (by rfl) T.g__law_caught T.F__law_caught.kp T.b__law_caught .nil pass0)))))))
      (pss_one (ps_ret pe_bl))
      pss_nil)
      (pss_one (ps_ret (pe_and (pe_call G__law_is (hr.mono (by decide)) (by rfl) T.g__law_is T.F__law_is.kp T.b__law_is .nil pass0 (pa_cons (pv 7) (pa_cons (pv 5) pa_nil))) (pe_one (pe_call G__law_is (hr.mono (by decide)) (by rfl) T.g__law_is T.F__law_is.kp T.b__law_is .nil pass0 (pa_cons (pv 8) (pa_cons (pv 6) pa_nil)))))))))))))))))))))))), ?_⟩
    walk_at "rd"
    refine ⟨hl, fun b H1 nb x1 B1 => ?_⟩
    walk_at "rd"
    refine ⟨B1, fun ls H2 S nls lsb el2 O B2 x2 => ?_⟩
    walk_at "rd"
    refine ⟨B2, fun t H3 r1 r2 a1 a2 a3 nt tb et B3 x3 => ?_⟩
    walk_at "rd"
    refine ⟨B3, fun u H4 s1 s2 c1 c2 c3 nu ub eu B4 x4 => ?_⟩
    walk_at "rd"
    have el3 := x3 _ _ lsb el2
    have el4 := x4 _ _ lsb el3
    have et4 : TupAt H4 t r1 r2 := x4 _ _ tb et
    refine ⟨fun σ' H' => Stop (∃ (o : Addr) (c d : Int), σ' = [some (.ref a), some (.ref b), some (.ref ls), some (.ref t), some (.ref o), none, none, none, none, none] ∧ o ≠ b ∧ TupAt H' o c d ∧ RowOk c d ∧ TupAt H' t r1 r2 ∧ H' ls = some (.lst (S.map V.int)) ∧ BoxAt H' b), ?_, fun σ5 H5 hm => ?_⟩
    · walk_at "rd"
      walk_at "dr"
      intro r5 H5 p5 q5 B5 x5 _
      walk_at "rd"
      walk_at "br"
      · walk_at "rd"
        exact .go ⟨t, r1, r2, rfl, tb, x5 _ _ tb et4, ⟨a1, a2, a3⟩, x5 _ _ tb et4, x5 _ _ lsb el4, B5⟩
      · exact .go ⟨u, s1, s2, rfl, ub, x5 _ _ ub eu, ⟨c1, c2, c3⟩, x5 _ _ tb et4, x5 _ _ lsb el4, B5⟩
    · obtain ⟨o, c, d, rfl, ob, eo, oc, et5, el5, B5⟩ := hm.out
      have oa : RowOk r1 r2 := ⟨a1, a2, a3⟩
      have la := S_lt' O (i := r1) (j := r2 + 1) (by omega) (by omega) (by omega) (by omega)
      have lc := S_lt' O (i := c) (j := d + 1) oc.1 (by have := oc.2; omega) (by have := oc.1; have := oc.2; omega) (by have := oc.2; omega)
      have oc2 := oc.2.1
      walk_at "rd"
      refine ⟨ls, t, S, r1, r2, rfl, SqL.of el5, SqT.of et5, O.1, a1, a2, a3, fun f1 n1 => ?_⟩
      have y1 : Same H5 (L2.upd H5 f1 (.tup [.int (g S r1), .int (g S (r2 + 1) - 1)])) := Same.add n1
      have e1 : (L2.upd H5 f1 (.tup [.int (g S r1), .int (g S (r2 + 1) - 1)])) f1 = some (.tup [.int (g S r1), .int (g S (r2 + 1) - 1)]) := upd_same
      have nf1 := B5.ne n1
      generalize L2.upd H5 f1 (.tup [.int (g S r1), .int (g S (r2 + 1) - 1)]) = H6 at *
      walk_at "rd"
      refine ⟨ls, o, S, c, d, rfl, SqL.of (y1 _ _ el5), SqT.of (y1 _ _ eo), O.1, oc.1, oc.2.1, oc.2.2, fun f2 n2 => ?_⟩
      have y2 : Same H6 (L2.upd H6 f2 (.tup [.int (g S c), .int (g S (d + 1) - 1)])) := Same.add n2
      have e2 : (L2.upd H6 f2 (.tup [.int (g S c), .int (g S (d + 1) - 1)])) f2 = some (.tup [.int (g S c), .int (g S (d + 1) - 1)]) := upd_same
      have e1' := y2 _ _ e1
      have nf2 := (B5.same y1).ne n2
      have y12 := y1.trans y2
      generalize L2.upd H6 f2 (.tup [.int (g S c), .int (g S (d + 1) - 1)]) = H7 at *
      walk_at "rd"
      intro p dp np nd ne
      refine mk2 np nd ne (fun h => by omega) fun _ H8 x8 s8 => ⟨rfl, ?_⟩
      have e28 := x8 _ _ e2
      walk_at "rd"
      intro q dq nq ndq neq
      refine mk2 nq ndq neq (fun h => by omega) fun _ H9 x9 s9 => ⟨rfl, ?_⟩
      have X9 : Same H5 H9 := y12.trans (x8.trans x9)
      have P9 : RowStay D H9 S p r1 r2 := s8.same x9
      have Q9 : RowStay D H9 S q c d := s9
      have T9 := X9 _ _ et5
      have O9 := X9 _ _ eo
      walk_at "rd"
      refine ⟨p, q, t, o, S, r1, r2, c, d, rfl, P9, Q9, SqT.of T9, SqT.of O9, O, oa, oc, fun H10 x10 => ?_⟩
      walk_at "rd"
      refine ⟨q, p, o, t, S, c, d, r1, r2, rfl, Q9.same x10, P9.same x10, SqT.of (x10 _ _ O9), SqT.of (x10 _ _ T9), O, oc, oa, fun H11 x11 => ?_⟩
      have X11 := x10.trans x11
      have F11 := X11 _ _ (x9 _ _ (x8 _ _ e1'))
      walk_at "rd"
      intro p2 dp2 np2 ndp2 ne2
      refine mk2 np2 ndp2 ne2 (fun h => by omega) fun _ H12 x12 s12 => ⟨rfl, ?_⟩
      have X12 := X11.trans x12
      walk_at "rd"
      refine ⟨p, p2, t, t, S, r1, r2, r1, r2, rfl, P9.same X12, s12, SqT.of (X12 _ _ T9), SqT.of (X12 _ _ T9), O, oa, oa, fun H13 x13 => ?_⟩
      have X13 := X12.trans x13
      walk_at "rd"
      refine ⟨p, q, ls, t, o, S, r1, r2, c, d, rfl, P9.same X13, Q9.same X13, X13 _ _ (X9 _ _ el5), SqT.of (X13 _ _ T9), SqT.of (X13 _ _ O9), O, oa, oc, fun H14 x14 => ?_⟩
      have X14 := X13.trans x14
      walk_at "rd"
      refine ⟨q, p, ls, o, t, S, c, d, r1, r2, rfl, Q9.same X14, P9.same X14, X14 _ _ (X9 _ _ el5), SqT.of (X14 _ _ O9), SqT.of (X14 _ _ T9), O, oc, oa, fun H15 x15 => ?_⟩
      have X15 := X14.trans x15
      have F15 := X15 _ _ (x9 _ _ (x8 _ _ e1'))
      obtain ⟨dpx, hp15⟩ := P9.same X15
      walk_at "rd"
      intro p3 dp3 np3 ndp3 ne3
      refine mk2 np3 ndp3 ne3 (fun h => by omega) fun _ H16 x16 s16 => ⟨rfl, ?_⟩
      have X16 := X15.trans x16
      obtain ⟨dpx, hp16⟩ := P9.same X16
      walk_at "rd"
      refine ⟨p, p3, _, _, _, _, rfl, ⟨dpx, hp16⟩, s16, by omega, by omega, fun l17 H17 vs17 n17 x17 e17 s17 => ?_⟩
      have ps0 : psOf (g S r1) (g S (r2 + 1) - 1) (g S r1) (g S (r2 + 1) - 1) = [] := by
        unfold psOf
        rw [if_pos (by omega), if_neg (by omega), if_neg (by omega)]
        rfl
      rw [ps0] at s17
      cases s17
      walk_at "rd"
      intro e18 he18
      have x18 : Same H17 (L2.upd H17 e18 (.lst [])) := Same.add he18
      walk_at "rd"
      refine ⟨_, _, .lst (SqL.of (x18 _ _ e17)) .nil, .lst (SqL.of upd_same) .nil, rfl, rfl, ?_⟩
      have X18 : Same H9 (L2.upd H17 e18 (.lst [])) := X16.trans (x17.trans x18)
      have B18 := (B5.same X9).same X18
      have L18 := X18 _ _ (X9 _ _ el5)
      have F18 := X18 _ _ (x9 _ _ (x8 _ _ e1'))
      have S18 := X18 _ _ (x9 _ _ e28)
      have P18 := P9.same X18
      have Q18 := Q9.same X18
      have npb : p ≠ b := ((B5.same y12)).ne np
      have nqb : q ≠ b := ((B5.same y12).same x8).ne nq
      generalize L2.upd H17 e18 (.lst []) = H18 at *
      have ev : PyData.eqv (.list []) (.list []) = true := rfl
      rw [ev]
      walk_at "rd"
      refine ⟨b, ls, S, rfl, B18, lsb, L18, O.1, fun l19 H19 ns n19 l19b e19 hns hlen B19 x19 => ?_⟩
      walk_at "rd"
      walk_at "dr"
      intro r20 H20 p20 q20 B20 x20 _
      have e20 := x20 _ _ l19b e19
      have X20 := x19.trans x20
      have P20 := StayAt.exb P18 npb X20
      have Q20 := StayAt.exb Q18 nqb X20
      have F20 := X20 _ _ nf1 F18
      have S20 := X20 _ _ nf2 S18
      walk_at "rd"
      refine ⟨hns, hlen, fun H21 x21 => ?_⟩
      have F21 := x21 _ _ F20
      have S21 := x21 _ _ S20
      walk_at "rd"
      intro l22 n22
      have x22 : Same H21 (L2.upd H21 l22 (.lst [.int (g S r1), .int (g S (d + 1) - 1), .int (g S (r2 + 1) - 1), .int (g S c)])) := Same.add n22
      walk_at "rd"
      refine ⟨l22, [g S r1, g S (d + 1) - 1, g S (r2 + 1) - 1, g S c], false, rfl, upd_same, by simp, by simp, fun H23 x23 => ?_⟩
      have X23 := x21.trans (x22.trans x23)
      walk_at "rd"
      intro l24 n24
      walk_at "rd"
      refine ⟨.inl (SqL.of upd_same), fun H25 x25 => ?_⟩
      have X25 := X23.trans ((Same.add n24).trans x25)
      walk_at "rd"
      intro l26 n26
      walk_at "rd"
      refine ⟨.inr (SqT.of upd_same), fun H27 x27 => ?_⟩
      have X27 := X25.trans ((Same.add n26).trans x27)
      walk_at "rd"
      first | refine ⟨rfl, fun H28 x28 => ?_⟩ | intro H28 x28
      have X28 := X27.trans x28
      walk_at "rd"
      refine ⟨p, f1, _, _, rfl, P20.same X28, X28 _ _ F20, ?_⟩
      walk_at "rd"
      refine ⟨q, f2, _, _, rfl, Q20.same X28, X28 _ _ S20, ?_⟩
      exact k _
end
end Toy
set_option Elab.async false
set_option linter.all false
set_option maxRecDepth 100000
set_option maxHeartbeats 4000000
namespace Toy
open PySem L2 XR
section
theorem all_mk {l : PySem.W.OpenLaw} {w : World} {K : PySem.W.Frag} {h : Heap} {mg : Str → Option Value} {fa : Addr} (X : K.In h) (G : h.Ns mainGlobals mg) (hfa : mg "law" = some (.ref fa))
    {x_EmptyStay_init x_NoCommonDay_init x_Stay_init x_Stay___eq__ x_Stay___str__ x_Stay___contains__ x_Stay___add__ x_Stay___sub__ x_Stay___and__ x_Stay___or__ x_Stay_meets x_Stay_within x_Stay_crosses x_Stay_parts_without x_Stay_around x__law_draws x__law_take x__law_far x__law_number x__law_is x__law_starts x__law_row x__law_days x__law_runs x__law_truth x__law_placed x__law_stays x__law_parted x__law_listed x__law_around x__law_no_days x__law_caught x_law x_ArchiveError x_UnknownError x_TextError x_ImpossibleError x_EmptyStay x_NoCommonDay x_NoDays x_Stay q_Stay_around : Addr}
    {od_EmptyStay_init an_EmptyStay_init : Option Addr} {sl_EmptyStay_init : Array (Option Value)} {oc_EmptyStay_init kV_EmptyStay_init dc_EmptyStay_init pm_EmptyStay_init cd_EmptyStay_init ct_EmptyStay_init : Value}
    {od_NoCommonDay_init an_NoCommonDay_init : Option Addr} {sl_NoCommonDay_init : Array (Option Value)} {oc_NoCommonDay_init kV_NoCommonDay_init dc_NoCommonDay_init pm_NoCommonDay_init cd_NoCommonDay_init ct_NoCommonDay_init : Value}
    {od_Stay_init an_Stay_init : Option Addr} {sl_Stay_init : Array (Option Value)} {oc_Stay_init kV_Stay_init dc_Stay_init pm_Stay_init cd_Stay_init ct_Stay_init : Value}
    {od_Stay___eq__ an_Stay___eq__ : Option Addr} {sl_Stay___eq__ : Array (Option Value)} {oc_Stay___eq__ kV_Stay___eq__ dc_Stay___eq__ pm_Stay___eq__ cd_Stay___eq__ ct_Stay___eq__ : Value}
    {od_Stay___str__ an_Stay___str__ : Option Addr} {sl_Stay___str__ : Array (Option Value)} {oc_Stay___str__ kV_Stay___str__ dc_Stay___str__ pm_Stay___str__ cd_Stay___str__ ct_Stay___str__ : Value}
    {od_Stay___contains__ an_Stay___contains__ : Option Addr} {sl_Stay___contains__ : Array (Option Value)} {oc_Stay___contains__ kV_Stay___contains__ dc_Stay___contains__ pm_Stay___contains__ cd_Stay___contains__ ct_Stay___contains__ : Value}
    {od_Stay___add__ an_Stay___add__ : Option Addr} {sl_Stay___add__ : Array (Option Value)} {oc_Stay___add__ kV_Stay___add__ dc_Stay___add__ pm_Stay___add__ cd_Stay___add__ ct_Stay___add__ : Value}
    {od_Stay___sub__ an_Stay___sub__ : Option Addr} {sl_Stay___sub__ : Array (Option Value)} {oc_Stay___sub__ kV_Stay___sub__ dc_Stay___sub__ pm_Stay___sub__ cd_Stay___sub__ ct_Stay___sub__ : Value}
    {od_Stay___and__ an_Stay___and__ : Option Addr} {sl_Stay___and__ : Array (Option Value)} {oc_Stay___and__ kV_Stay___and__ dc_Stay___and__ pm_Stay___and__ cd_Stay___and__ ct_Stay___and__ : Value}
    {od_Stay___or__ an_Stay___or__ : Option Addr} {sl_Stay___or__ : Array (Option Value)} {oc_Stay___or__ kV_Stay___or__ dc_Stay___or__ pm_Stay___or__ cd_Stay___or__ ct_Stay___or__ : Value}
    {od_Stay_meets an_Stay_meets : Option Addr} {sl_Stay_meets : Array (Option Value)} {oc_Stay_meets kV_Stay_meets dc_Stay_meets pm_Stay_meets cd_Stay_meets ct_Stay_meets : Value}
    {od_Stay_within an_Stay_within : Option Addr} {sl_Stay_within : Array (Option Value)} {oc_Stay_within kV_Stay_within dc_Stay_within pm_Stay_within cd_Stay_within ct_Stay_within : Value}
    {od_Stay_crosses an_Stay_crosses : Option Addr} {sl_Stay_crosses : Array (Option Value)} {oc_Stay_crosses kV_Stay_crosses dc_Stay_crosses pm_Stay_crosses cd_Stay_crosses ct_Stay_crosses : Value}
    {od_Stay_parts_without an_Stay_parts_without : Option Addr} {sl_Stay_parts_without : Array (Option Value)} {oc_Stay_parts_without kV_Stay_parts_without dc_Stay_parts_without pm_Stay_parts_without cd_Stay_parts_without ct_Stay_parts_without : Value}
    {od_Stay_around an_Stay_around : Option Addr} {sl_Stay_around : Array (Option Value)} {oc_Stay_around kV_Stay_around dc_Stay_around pm_Stay_around cd_Stay_around ct_Stay_around : Value}
    {rest_Stay_around : List Value}
    {od__law_draws an__law_draws : Option Addr} {sl__law_draws : Array (Option Value)} {oc__law_draws kV__law_draws dc__law_draws pm__law_draws cd__law_draws ct__law_draws : Value}
    {od__law_take an__law_take : Option Addr} {sl__law_take : Array (Option Value)} {oc__law_take kV__law_take dc__law_take pm__law_take cd__law_take ct__law_take : Value}
    {od__law_far an__law_far : Option Addr} {sl__law_far : Array (Option Value)} {oc__law_far kV__law_far dc__law_far pm__law_far cd__law_far ct__law_far : Value}
    {od__law_number an__law_number : Option Addr} {sl__law_number : Array (Option Value)} {oc__law_number kV__law_number dc__law_number pm__law_number cd__law_number ct__law_number : Value}
    {od__law_is an__law_is : Option Addr} {sl__law_is : Array (Option Value)} {oc__law_is kV__law_is dc__law_is pm__law_is cd__law_is ct__law_is : Value}
    {od__law_starts an__law_starts : Option Addr} {sl__law_starts : Array (Option Value)} {oc__law_starts kV__law_starts dc__law_starts pm__law_starts cd__law_starts ct__law_starts : Value}
    {od__law_row an__law_row : Option Addr} {sl__law_row : Array (Option Value)} {oc__law_row kV__law_row dc__law_row pm__law_row cd__law_row ct__law_row : Value}
    {od__law_days an__law_days : Option Addr} {sl__law_days : Array (Option Value)} {oc__law_days kV__law_days dc__law_days pm__law_days cd__law_days ct__law_days : Value}
    {od__law_runs an__law_runs : Option Addr} {sl__law_runs : Array (Option Value)} {oc__law_runs kV__law_runs dc__law_runs pm__law_runs cd__law_runs ct__law_runs : Value}
    {od__law_truth an__law_truth : Option Addr} {sl__law_truth : Array (Option Value)} {oc__law_truth kV__law_truth dc__law_truth pm__law_truth cd__law_truth ct__law_truth : Value}
    {od__law_placed an__law_placed : Option Addr} {sl__law_placed : Array (Option Value)} {oc__law_placed kV__law_placed dc__law_placed pm__law_placed cd__law_placed ct__law_placed : Value}
    {od__law_stays an__law_stays : Option Addr} {sl__law_stays : Array (Option Value)} {oc__law_stays kV__law_stays dc__law_stays pm__law_stays cd__law_stays ct__law_stays : Value}
    {od__law_parted an__law_parted : Option Addr} {sl__law_parted : Array (Option Value)} {oc__law_parted kV__law_parted dc__law_parted pm__law_parted cd__law_parted ct__law_parted : Value}
    {od__law_listed an__law_listed : Option Addr} {sl__law_listed : Array (Option Value)} {oc__law_listed kV__law_listed dc__law_listed pm__law_listed cd__law_listed ct__law_listed : Value}
    {od__law_around an__law_around : Option Addr} {sl__law_around : Array (Option Value)} {oc__law_around kV__law_around dc__law_around pm__law_around cd__law_around ct__law_around : Value}
    {od__law_no_days an__law_no_days : Option Addr} {sl__law_no_days : Array (Option Value)} {oc__law_no_days kV__law_no_days dc__law_no_days pm__law_no_days cd__law_no_days ct__law_no_days : Value}
    {od__law_caught an__law_caught : Option Addr} {sl__law_caught : Array (Option Value)} {oc__law_caught kV__law_caught dc__law_caught pm__law_caught cd__law_caught ct__law_caught : Value}
    {od_law an_law : Option Addr} {sl_law : Array (Option Value)} {oc_law kV_law dc_law pm_law cd_law ct_law : Value}
    {nm_EmptyStay q_EmptyStay : Str} {N_EmptyStay : Addr} {bs_EmptyStay bm_EmptyStay : List Value} {sn_EmptyStay : List Str} {sub_EmptyStay : List Value} {ab_EmptyStay : Bool} {col_EmptyStay : Option Bool} {dd_EmptyStay : Option Addr} {m0_EmptyStay m1_EmptyStay m2_EmptyStay m3_EmptyStay m5_EmptyStay : Option Value}
    (hC_ArchiveError : PySem.W.nsIn K mainGlobals "ArchiveError" = some (some (.ref x_ArchiveError)))
    (hK_ArchiveError : PySem.W.keepIn K (.ref x_ArchiveError) = true)
    (hC_UnknownError : PySem.W.nsIn K mainGlobals "UnknownError" = some (some (.ref x_UnknownError)))
    (hK_UnknownError : PySem.W.keepIn K (.ref x_UnknownError) = true)
    (hC_TextError : PySem.W.nsIn K mainGlobals "TextError" = some (some (.ref x_TextError)))
    (hK_TextError : PySem.W.keepIn K (.ref x_TextError) = true)
    (hC_ImpossibleError : PySem.W.nsIn K mainGlobals "ImpossibleError" = some (some (.ref x_ImpossibleError)))
    (hK_ImpossibleError : PySem.W.keepIn K (.ref x_ImpossibleError) = true)
    (hC_EmptyStay : PySem.W.nsIn K mainGlobals "EmptyStay" = some (some (.ref x_EmptyStay)))
    (hK_EmptyStay : PySem.W.keepIn K (.ref x_EmptyStay) = true)
    (hC_NoCommonDay : PySem.W.nsIn K mainGlobals "NoCommonDay" = some (some (.ref x_NoCommonDay)))
    (hK_NoCommonDay : PySem.W.keepIn K (.ref x_NoCommonDay) = true)
    (hC_NoDays : PySem.W.nsIn K mainGlobals "NoDays" = some (some (.ref x_NoDays)))
    (hK_NoDays : PySem.W.keepIn K (.ref x_NoDays) = true)
    (hC_Stay : PySem.W.nsIn K mainGlobals "Stay" = some (some (.ref x_Stay)))
    (hK_Stay : PySem.W.keepIn K (.ref x_Stay) = true)
    (ha_EmptyStay_init : PySem.W.findIn K (.ref x_EmptyStay) "__init__" = some (some (.ref x_EmptyStay_init)))
    (hi_EmptyStay_init : PySem.W.isFn K (.ref x_EmptyStay_init) = true)
    (hl_EmptyStay_init : K.lookup x_EmptyStay_init = some ⟨oc_EmptyStay_init, od_EmptyStay_init, .func (PySem.W.fnOf "__init__" "EmptyStay.__init__" (defArgs s_EmptyStay_init) (defBody s_EmptyStay_init) (defScope s_EmptyStay_init) .none kV_EmptyStay_init dc_EmptyStay_init pm_EmptyStay_init an_EmptyStay_init cd_EmptyStay_init ct_EmptyStay_init), sl_EmptyStay_init⟩)
    (hc_EmptyStay_init : PySem.W.codeIn K cd_EmptyStay_init "EmptyStay.__init__" = true)
    (hk_EmptyStay_init : PySem.W.keepIn K (.ref x_EmptyStay_init) = true)
    (ha_NoCommonDay_init : PySem.W.findIn K (.ref x_NoCommonDay) "__init__" = some (some (.ref x_NoCommonDay_init)))
    (hi_NoCommonDay_init : PySem.W.isFn K (.ref x_NoCommonDay_init) = true)
    (hl_NoCommonDay_init : K.lookup x_NoCommonDay_init = some ⟨oc_NoCommonDay_init, od_NoCommonDay_init, .func (PySem.W.fnOf "__init__" "NoCommonDay.__init__" (defArgs s_NoCommonDay_init) (defBody s_NoCommonDay_init) (defScope s_NoCommonDay_init) .none kV_NoCommonDay_init dc_NoCommonDay_init pm_NoCommonDay_init an_NoCommonDay_init cd_NoCommonDay_init ct_NoCommonDay_init), sl_NoCommonDay_init⟩)
    (hc_NoCommonDay_init : PySem.W.codeIn K cd_NoCommonDay_init "NoCommonDay.__init__" = true)
    (hk_NoCommonDay_init : PySem.W.keepIn K (.ref x_NoCommonDay_init) = true)
    (ha_Stay_init : PySem.W.findIn K (.ref x_Stay) "__init__" = some (some (.ref x_Stay_init)))
    (hi_Stay_init : PySem.W.isFn K (.ref x_Stay_init) = true)
    (hl_Stay_init : K.lookup x_Stay_init = some ⟨oc_Stay_init, od_Stay_init, .func (PySem.W.fnOf "__init__" "Stay.__init__" (defArgs s_Stay_init) (defBody s_Stay_init) (defScope s_Stay_init) .none kV_Stay_init dc_Stay_init pm_Stay_init an_Stay_init cd_Stay_init ct_Stay_init), sl_Stay_init⟩)
    (hc_Stay_init : PySem.W.codeIn K cd_Stay_init "Stay.__init__" = true)
    (hk_Stay_init : PySem.W.keepIn K (.ref x_Stay_init) = true)
    (ha_Stay___eq__ : PySem.W.findIn K (.ref x_Stay) "__eq__" = some (some (.ref x_Stay___eq__)))
    (hi_Stay___eq__ : PySem.W.isFn K (.ref x_Stay___eq__) = true)
    (hl_Stay___eq__ : K.lookup x_Stay___eq__ = some ⟨oc_Stay___eq__, od_Stay___eq__, .func (PySem.W.fnOf "__eq__" "Stay.__eq__" (defArgs s_Stay___eq__) (defBody s_Stay___eq__) (defScope s_Stay___eq__) .none kV_Stay___eq__ dc_Stay___eq__ pm_Stay___eq__ an_Stay___eq__ cd_Stay___eq__ ct_Stay___eq__), sl_Stay___eq__⟩)
    (hc_Stay___eq__ : PySem.W.codeIn K cd_Stay___eq__ "Stay.__eq__" = true)
    (hk_Stay___eq__ : PySem.W.keepIn K (.ref x_Stay___eq__) = true)
    (ha_Stay___str__ : PySem.W.findIn K (.ref x_Stay) "__str__" = some (some (.ref x_Stay___str__)))
    (hi_Stay___str__ : PySem.W.isFn K (.ref x_Stay___str__) = true)
    (hl_Stay___str__ : K.lookup x_Stay___str__ = some ⟨oc_Stay___str__, od_Stay___str__, .func (PySem.W.fnOf "__str__" "Stay.__str__" (defArgs s_Stay___str__) (defBody s_Stay___str__) (defScope s_Stay___str__) .none kV_Stay___str__ dc_Stay___str__ pm_Stay___str__ an_Stay___str__ cd_Stay___str__ ct_Stay___str__), sl_Stay___str__⟩)
    (hc_Stay___str__ : PySem.W.codeIn K cd_Stay___str__ "Stay.__str__" = true)
    (hk_Stay___str__ : PySem.W.keepIn K (.ref x_Stay___str__) = true)
    (ha_Stay___contains__ : PySem.W.findIn K (.ref x_Stay) "__contains__" = some (some (.ref x_Stay___contains__)))
    (hi_Stay___contains__ : PySem.W.isFn K (.ref x_Stay___contains__) = true)
    (hl_Stay___contains__ : K.lookup x_Stay___contains__ = some ⟨oc_Stay___contains__, od_Stay___contains__, .func (PySem.W.fnOf "__contains__" "Stay.__contains__" (defArgs s_Stay___contains__) (defBody s_Stay___contains__) (defScope s_Stay___contains__) .none kV_Stay___contains__ dc_Stay___contains__ pm_Stay___contains__ an_Stay___contains__ cd_Stay___contains__ ct_Stay___contains__), sl_Stay___contains__⟩)
    (hc_Stay___contains__ : PySem.W.codeIn K cd_Stay___contains__ "Stay.__contains__" = true)
    (hk_Stay___contains__ : PySem.W.keepIn K (.ref x_Stay___contains__) = true)
    (ha_Stay___add__ : PySem.W.findIn K (.ref x_Stay) "__add__" = some (some (.ref x_Stay___add__)))
    (hi_Stay___add__ : PySem.W.isFn K (.ref x_Stay___add__) = true)
    (hl_Stay___add__ : K.lookup x_Stay___add__ = some ⟨oc_Stay___add__, od_Stay___add__, .func (PySem.W.fnOf "__add__" "Stay.__add__" (defArgs s_Stay___add__) (defBody s_Stay___add__) (defScope s_Stay___add__) .none kV_Stay___add__ dc_Stay___add__ pm_Stay___add__ an_Stay___add__ cd_Stay___add__ ct_Stay___add__), sl_Stay___add__⟩)
    (hc_Stay___add__ : PySem.W.codeIn K cd_Stay___add__ "Stay.__add__" = true)
    (hk_Stay___add__ : PySem.W.keepIn K (.ref x_Stay___add__) = true)
    (ha_Stay___sub__ : PySem.W.findIn K (.ref x_Stay) "__sub__" = some (some (.ref x_Stay___sub__)))
    (hi_Stay___sub__ : PySem.W.isFn K (.ref x_Stay___sub__) = true)
    (hl_Stay___sub__ : K.lookup x_Stay___sub__ = some ⟨oc_Stay___sub__, od_Stay___sub__, .func (PySem.W.fnOf "__sub__" "Stay.__sub__" (defArgs s_Stay___sub__) (defBody s_Stay___sub__) (defScope s_Stay___sub__) .none kV_Stay___sub__ dc_Stay___sub__ pm_Stay___sub__ an_Stay___sub__ cd_Stay___sub__ ct_Stay___sub__), sl_Stay___sub__⟩)
    (hc_Stay___sub__ : PySem.W.codeIn K cd_Stay___sub__ "Stay.__sub__" = true)
    (hk_Stay___sub__ : PySem.W.keepIn K (.ref x_Stay___sub__) = true)
    (ha_Stay___and__ : PySem.W.findIn K (.ref x_Stay) "__and__" = some (some (.ref x_Stay___and__)))
    (hi_Stay___and__ : PySem.W.isFn K (.ref x_Stay___and__) = true)
    (hl_Stay___and__ : K.lookup x_Stay___and__ = some ⟨oc_Stay___and__, od_Stay___and__, .func (PySem.W.fnOf "__and__" "Stay.__and__" (defArgs s_Stay___and__) (defBody s_Stay___and__) (defScope s_Stay___and__) .none kV_Stay___and__ dc_Stay___and__ pm_Stay___and__ an_Stay___and__ cd_Stay___and__ ct_Stay___and__), sl_Stay___and__⟩)
    (hc_Stay___and__ : PySem.W.codeIn K cd_Stay___and__ "Stay.__and__" = true)
    (hk_Stay___and__ : PySem.W.keepIn K (.ref x_Stay___and__) = true)
    (ha_Stay___or__ : PySem.W.findIn K (.ref x_Stay) "__or__" = some (some (.ref x_Stay___or__)))
    (hi_Stay___or__ : PySem.W.isFn K (.ref x_Stay___or__) = true)
    (hl_Stay___or__ : K.lookup x_Stay___or__ = some ⟨oc_Stay___or__, od_Stay___or__, .func (PySem.W.fnOf "__or__" "Stay.__or__" (defArgs s_Stay___or__) (defBody s_Stay___or__) (defScope s_Stay___or__) .none kV_Stay___or__ dc_Stay___or__ pm_Stay___or__ an_Stay___or__ cd_Stay___or__ ct_Stay___or__), sl_Stay___or__⟩)
    (hc_Stay___or__ : PySem.W.codeIn K cd_Stay___or__ "Stay.__or__" = true)
    (hk_Stay___or__ : PySem.W.keepIn K (.ref x_Stay___or__) = true)
    (ha_Stay_meets : PySem.W.findIn K (.ref x_Stay) "meets" = some (some (.ref x_Stay_meets)))
    (hi_Stay_meets : PySem.W.isFn K (.ref x_Stay_meets) = true)
    (hl_Stay_meets : K.lookup x_Stay_meets = some ⟨oc_Stay_meets, od_Stay_meets, .func (PySem.W.fnOf "meets" "Stay.meets" (defArgs s_Stay_meets) (defBody s_Stay_meets) (defScope s_Stay_meets) .none kV_Stay_meets dc_Stay_meets pm_Stay_meets an_Stay_meets cd_Stay_meets ct_Stay_meets), sl_Stay_meets⟩)
    (hc_Stay_meets : PySem.W.codeIn K cd_Stay_meets "Stay.meets" = true)
    (hk_Stay_meets : PySem.W.keepIn K (.ref x_Stay_meets) = true)
    (ha_Stay_within : PySem.W.findIn K (.ref x_Stay) "within" = some (some (.ref x_Stay_within)))
    (hi_Stay_within : PySem.W.isFn K (.ref x_Stay_within) = true)
    (hl_Stay_within : K.lookup x_Stay_within = some ⟨oc_Stay_within, od_Stay_within, .func (PySem.W.fnOf "within" "Stay.within" (defArgs s_Stay_within) (defBody s_Stay_within) (defScope s_Stay_within) .none kV_Stay_within dc_Stay_within pm_Stay_within an_Stay_within cd_Stay_within ct_Stay_within), sl_Stay_within⟩)
    (hc_Stay_within : PySem.W.codeIn K cd_Stay_within "Stay.within" = true)
    (hk_Stay_within : PySem.W.keepIn K (.ref x_Stay_within) = true)
    (ha_Stay_crosses : PySem.W.findIn K (.ref x_Stay) "crosses" = some (some (.ref x_Stay_crosses)))
    (hi_Stay_crosses : PySem.W.isFn K (.ref x_Stay_crosses) = true)
    (hl_Stay_crosses : K.lookup x_Stay_crosses = some ⟨oc_Stay_crosses, od_Stay_crosses, .func (PySem.W.fnOf "crosses" "Stay.crosses" (defArgs s_Stay_crosses) (defBody s_Stay_crosses) (defScope s_Stay_crosses) .none kV_Stay_crosses dc_Stay_crosses pm_Stay_crosses an_Stay_crosses cd_Stay_crosses ct_Stay_crosses), sl_Stay_crosses⟩)
    (hc_Stay_crosses : PySem.W.codeIn K cd_Stay_crosses "Stay.crosses" = true)
    (hk_Stay_crosses : PySem.W.keepIn K (.ref x_Stay_crosses) = true)
    (ha_Stay_parts_without : PySem.W.findIn K (.ref x_Stay) "parts_without" = some (some (.ref x_Stay_parts_without)))
    (hi_Stay_parts_without : PySem.W.isFn K (.ref x_Stay_parts_without) = true)
    (hl_Stay_parts_without : K.lookup x_Stay_parts_without = some ⟨oc_Stay_parts_without, od_Stay_parts_without, .func (PySem.W.fnOf "parts_without" "Stay.parts_without" (defArgs s_Stay_parts_without) (defBody s_Stay_parts_without) (defScope s_Stay_parts_without) .none kV_Stay_parts_without dc_Stay_parts_without pm_Stay_parts_without an_Stay_parts_without cd_Stay_parts_without ct_Stay_parts_without), sl_Stay_parts_without⟩)
    (hc_Stay_parts_without : PySem.W.codeIn K cd_Stay_parts_without "Stay.parts_without" = true)
    (hk_Stay_parts_without : PySem.W.keepIn K (.ref x_Stay_parts_without) = true)
    (ha_Stay_around : PySem.W.findCls K (.ref x_Stay) (.type "type") "around" = some (.get (.builtin "staticmethod.__get__") (.ref q_Stay_around) .none (.ref x_Stay)))
    (hr_Stay_around : PySem.W.recIn K q_Stay_around "staticmethod" = some (.ref x_Stay_around :: rest_Stay_around))
    (hl_Stay_around : K.lookup x_Stay_around = some ⟨oc_Stay_around, od_Stay_around, .func (PySem.W.fnOf "around" "Stay.around" (defArgs s_Stay_around) (defBody s_Stay_around) (defScope s_Stay_around) .none kV_Stay_around dc_Stay_around pm_Stay_around an_Stay_around cd_Stay_around ct_Stay_around), sl_Stay_around⟩)
    (hc_Stay_around : PySem.W.codeIn K cd_Stay_around "Stay.around" = true)
    (hk_Stay_around : PySem.W.keepIn K (.ref x_Stay_around) = true)
    (ha__law_draws : PySem.W.nsIn K mainGlobals "_law_draws" = some (some (.ref x__law_draws)))
    (hl__law_draws : K.lookup x__law_draws = some ⟨oc__law_draws, od__law_draws, .func (PySem.W.fnOf "_law_draws" "_law_draws" (defArgs s__law_draws) (defBody s__law_draws) (defScope s__law_draws) .none kV__law_draws dc__law_draws pm__law_draws an__law_draws cd__law_draws ct__law_draws), sl__law_draws⟩)
    (hc__law_draws : PySem.W.codeIn K cd__law_draws "_law_draws" = true)
    (hk__law_draws : PySem.W.keepIn K (.ref x__law_draws) = true)
    (ha__law_take : PySem.W.nsIn K mainGlobals "_law_take" = some (some (.ref x__law_take)))
    (hl__law_take : K.lookup x__law_take = some ⟨oc__law_take, od__law_take, .func (PySem.W.fnOf "_law_take" "_law_take" (defArgs s__law_take) (defBody s__law_take) (defScope s__law_take) .none kV__law_take dc__law_take pm__law_take an__law_take cd__law_take ct__law_take), sl__law_take⟩)
    (hc__law_take : PySem.W.codeIn K cd__law_take "_law_take" = true)
    (hk__law_take : PySem.W.keepIn K (.ref x__law_take) = true)
    (ha__law_far : PySem.W.nsIn K mainGlobals "_law_far" = some (some (.ref x__law_far)))
    (hl__law_far : K.lookup x__law_far = some ⟨oc__law_far, od__law_far, .func (PySem.W.fnOf "_law_far" "_law_far" (defArgs s__law_far) (defBody s__law_far) (defScope s__law_far) .none kV__law_far dc__law_far pm__law_far an__law_far cd__law_far ct__law_far), sl__law_far⟩)
    (hc__law_far : PySem.W.codeIn K cd__law_far "_law_far" = true)
    (hk__law_far : PySem.W.keepIn K (.ref x__law_far) = true)
    (ha__law_number : PySem.W.nsIn K mainGlobals "_law_number" = some (some (.ref x__law_number)))
    (hl__law_number : K.lookup x__law_number = some ⟨oc__law_number, od__law_number, .func (PySem.W.fnOf "_law_number" "_law_number" (defArgs s__law_number) (defBody s__law_number) (defScope s__law_number) .none kV__law_number dc__law_number pm__law_number an__law_number cd__law_number ct__law_number), sl__law_number⟩)
    (hc__law_number : PySem.W.codeIn K cd__law_number "_law_number" = true)
    (hk__law_number : PySem.W.keepIn K (.ref x__law_number) = true)
    (ha__law_is : PySem.W.nsIn K mainGlobals "_law_is" = some (some (.ref x__law_is)))
    (hl__law_is : K.lookup x__law_is = some ⟨oc__law_is, od__law_is, .func (PySem.W.fnOf "_law_is" "_law_is" (defArgs s__law_is) (defBody s__law_is) (defScope s__law_is) .none kV__law_is dc__law_is pm__law_is an__law_is cd__law_is ct__law_is), sl__law_is⟩)
    (hc__law_is : PySem.W.codeIn K cd__law_is "_law_is" = true)
    (hk__law_is : PySem.W.keepIn K (.ref x__law_is) = true)
    (ha__law_starts : PySem.W.nsIn K mainGlobals "_law_starts" = some (some (.ref x__law_starts)))
    (hl__law_starts : K.lookup x__law_starts = some ⟨oc__law_starts, od__law_starts, .func (PySem.W.fnOf "_law_starts" "_law_starts" (defArgs s__law_starts) (defBody s__law_starts) (defScope s__law_starts) .none kV__law_starts dc__law_starts pm__law_starts an__law_starts cd__law_starts ct__law_starts), sl__law_starts⟩)
    (hc__law_starts : PySem.W.codeIn K cd__law_starts "_law_starts" = true)
    (hk__law_starts : PySem.W.keepIn K (.ref x__law_starts) = true)
    (ha__law_row : PySem.W.nsIn K mainGlobals "_law_row" = some (some (.ref x__law_row)))
    (hl__law_row : K.lookup x__law_row = some ⟨oc__law_row, od__law_row, .func (PySem.W.fnOf "_law_row" "_law_row" (defArgs s__law_row) (defBody s__law_row) (defScope s__law_row) .none kV__law_row dc__law_row pm__law_row an__law_row cd__law_row ct__law_row), sl__law_row⟩)
    (hc__law_row : PySem.W.codeIn K cd__law_row "_law_row" = true)
    (hk__law_row : PySem.W.keepIn K (.ref x__law_row) = true)
    (ha__law_days : PySem.W.nsIn K mainGlobals "_law_days" = some (some (.ref x__law_days)))
    (hl__law_days : K.lookup x__law_days = some ⟨oc__law_days, od__law_days, .func (PySem.W.fnOf "_law_days" "_law_days" (defArgs s__law_days) (defBody s__law_days) (defScope s__law_days) .none kV__law_days dc__law_days pm__law_days an__law_days cd__law_days ct__law_days), sl__law_days⟩)
    (hc__law_days : PySem.W.codeIn K cd__law_days "_law_days" = true)
    (hk__law_days : PySem.W.keepIn K (.ref x__law_days) = true)
    (ha__law_runs : PySem.W.nsIn K mainGlobals "_law_runs" = some (some (.ref x__law_runs)))
    (hl__law_runs : K.lookup x__law_runs = some ⟨oc__law_runs, od__law_runs, .func (PySem.W.fnOf "_law_runs" "_law_runs" (defArgs s__law_runs) (defBody s__law_runs) (defScope s__law_runs) .none kV__law_runs dc__law_runs pm__law_runs an__law_runs cd__law_runs ct__law_runs), sl__law_runs⟩)
    (hc__law_runs : PySem.W.codeIn K cd__law_runs "_law_runs" = true)
    (hk__law_runs : PySem.W.keepIn K (.ref x__law_runs) = true)
    (ha__law_truth : PySem.W.nsIn K mainGlobals "_law_truth" = some (some (.ref x__law_truth)))
    (hl__law_truth : K.lookup x__law_truth = some ⟨oc__law_truth, od__law_truth, .func (PySem.W.fnOf "_law_truth" "_law_truth" (defArgs s__law_truth) (defBody s__law_truth) (defScope s__law_truth) .none kV__law_truth dc__law_truth pm__law_truth an__law_truth cd__law_truth ct__law_truth), sl__law_truth⟩)
    (hc__law_truth : PySem.W.codeIn K cd__law_truth "_law_truth" = true)
    (hk__law_truth : PySem.W.keepIn K (.ref x__law_truth) = true)
    (ha__law_placed : PySem.W.nsIn K mainGlobals "_law_placed" = some (some (.ref x__law_placed)))
    (hl__law_placed : K.lookup x__law_placed = some ⟨oc__law_placed, od__law_placed, .func (PySem.W.fnOf "_law_placed" "_law_placed" (defArgs s__law_placed) (defBody s__law_placed) (defScope s__law_placed) .none kV__law_placed dc__law_placed pm__law_placed an__law_placed cd__law_placed ct__law_placed), sl__law_placed⟩)
    (hc__law_placed : PySem.W.codeIn K cd__law_placed "_law_placed" = true)
    (hk__law_placed : PySem.W.keepIn K (.ref x__law_placed) = true)
    (ha__law_stays : PySem.W.nsIn K mainGlobals "_law_stays" = some (some (.ref x__law_stays)))
    (hl__law_stays : K.lookup x__law_stays = some ⟨oc__law_stays, od__law_stays, .func (PySem.W.fnOf "_law_stays" "_law_stays" (defArgs s__law_stays) (defBody s__law_stays) (defScope s__law_stays) .none kV__law_stays dc__law_stays pm__law_stays an__law_stays cd__law_stays ct__law_stays), sl__law_stays⟩)
    (hc__law_stays : PySem.W.codeIn K cd__law_stays "_law_stays" = true)
    (hk__law_stays : PySem.W.keepIn K (.ref x__law_stays) = true)
    (ha__law_parted : PySem.W.nsIn K mainGlobals "_law_parted" = some (some (.ref x__law_parted)))
    (hl__law_parted : K.lookup x__law_parted = some ⟨oc__law_parted, od__law_parted, .func (PySem.W.fnOf "_law_parted" "_law_parted" (defArgs s__law_parted) (defBody s__law_parted) (defScope s__law_parted) .none kV__law_parted dc__law_parted pm__law_parted an__law_parted cd__law_parted ct__law_parted), sl__law_parted⟩)
    (hc__law_parted : PySem.W.codeIn K cd__law_parted "_law_parted" = true)
    (hk__law_parted : PySem.W.keepIn K (.ref x__law_parted) = true)
    (ha__law_listed : PySem.W.nsIn K mainGlobals "_law_listed" = some (some (.ref x__law_listed)))
    (hl__law_listed : K.lookup x__law_listed = some ⟨oc__law_listed, od__law_listed, .func (PySem.W.fnOf "_law_listed" "_law_listed" (defArgs s__law_listed) (defBody s__law_listed) (defScope s__law_listed) .none kV__law_listed dc__law_listed pm__law_listed an__law_listed cd__law_listed ct__law_listed), sl__law_listed⟩)
    (hc__law_listed : PySem.W.codeIn K cd__law_listed "_law_listed" = true)
    (hk__law_listed : PySem.W.keepIn K (.ref x__law_listed) = true)
    (ha__law_around : PySem.W.nsIn K mainGlobals "_law_around" = some (some (.ref x__law_around)))
    (hl__law_around : K.lookup x__law_around = some ⟨oc__law_around, od__law_around, .func (PySem.W.fnOf "_law_around" "_law_around" (defArgs s__law_around) (defBody s__law_around) (defScope s__law_around) .none kV__law_around dc__law_around pm__law_around an__law_around cd__law_around ct__law_around), sl__law_around⟩)
    (hc__law_around : PySem.W.codeIn K cd__law_around "_law_around" = true)
    (hk__law_around : PySem.W.keepIn K (.ref x__law_around) = true)
    (ha__law_no_days : PySem.W.nsIn K mainGlobals "_law_no_days" = some (some (.ref x__law_no_days)))
    (hl__law_no_days : K.lookup x__law_no_days = some ⟨oc__law_no_days, od__law_no_days, .func (PySem.W.fnOf "_law_no_days" "_law_no_days" (defArgs s__law_no_days) (defBody s__law_no_days) (defScope s__law_no_days) .none kV__law_no_days dc__law_no_days pm__law_no_days an__law_no_days cd__law_no_days ct__law_no_days), sl__law_no_days⟩)
    (hc__law_no_days : PySem.W.codeIn K cd__law_no_days "_law_no_days" = true)
    (hk__law_no_days : PySem.W.keepIn K (.ref x__law_no_days) = true)
    (ha__law_caught : PySem.W.nsIn K mainGlobals "_law_caught" = some (some (.ref x__law_caught)))
    (hl__law_caught : K.lookup x__law_caught = some ⟨oc__law_caught, od__law_caught, .func (PySem.W.fnOf "_law_caught" "_law_caught" (defArgs s__law_caught) (defBody s__law_caught) (defScope s__law_caught) .none kV__law_caught dc__law_caught pm__law_caught an__law_caught cd__law_caught ct__law_caught), sl__law_caught⟩)
    (hc__law_caught : PySem.W.codeIn K cd__law_caught "_law_caught" = true)
    (hk__law_caught : PySem.W.keepIn K (.ref x__law_caught) = true)
    (ha_law : PySem.W.nsIn K mainGlobals "law" = some (some (.ref x_law)))
    (hl_law : K.lookup x_law = some ⟨oc_law, od_law, .func (PySem.W.fnOf "law" "law" (defArgs s_law) (defBody s_law) (defScope s_law) .none kV_law dc_law pm_law an_law cd_law ct_law), sl_law⟩)
    (hc_law : PySem.W.codeIn K cd_law "law" = true)
    (hk_law : PySem.W.keepIn K (.ref x_law) = true)
    (hn_ValueError : PySem.W.nsIn K mainGlobals "ValueError" = some none)
    (hn_bool : PySem.W.nsIn K mainGlobals "bool" = some none)
    (hn_int : PySem.W.nsIn K mainGlobals "int" = some none)
    (hn_isinstance : PySem.W.nsIn K mainGlobals "isinstance" = some none)
    (hn_len : PySem.W.nsIn K mainGlobals "len" = some none)
    (hn_list : PySem.W.nsIn K mainGlobals "list" = some none)
    (hn_max : PySem.W.nsIn K mainGlobals "max" = some none)
    (hn_min : PySem.W.nsIn K mainGlobals "min" = some none)
    (hn_range : PySem.W.nsIn K mainGlobals "range" = some none)
    (hn_tuple : PySem.W.nsIn K mainGlobals "tuple" = some none)
    (ol_EmptyStay : K.lookup x_EmptyStay = some (excClassObj nm_EmptyStay q_EmptyStay x_EmptyStay N_EmptyStay bs_EmptyStay bm_EmptyStay true sn_EmptyStay sub_EmptyStay ab_EmptyStay col_EmptyStay dd_EmptyStay m0_EmptyStay m1_EmptyStay m2_EmptyStay m3_EmptyStay m5_EmptyStay "ValueError.__new__"))
    (or_EmptyStay : PySem.HandSPX.refsVE bm_EmptyStay = true)
    (hx_sr_Stay_around : PySem.W.readsIn K x_Stay (.type "type") = true)
    (hx_sg_Stay_around : PySem.W.specialIn K (.ref x_Stay) "__getattribute__" = some (some (.builtin "type.__getattribute__")))
    (hx_xsa_EmptyStay : PySem.W.findIn K (.ref x_EmptyStay) "__setattr__" = some (some (.builtin "object.__setattr__")))
    (hx_xga_EmptyStay : PySem.W.findIn K (.ref x_EmptyStay) "__getattribute__" = some (some (.builtin "BaseException.__getattribute__")))
    (hx_xgg_EmptyStay : PySem.W.findIn K (.ref x_EmptyStay) "__getattr__" = some none)
    (hx_xbe_EmptyStay : PySem.W.subIn K (.ref x_EmptyStay) (.type "BaseException") = some true)
    (hx_xty_EmptyStay : PySem.W.typeIn K (.ref x_EmptyStay) = some (.type "type"))
    (hx_xhd_EmptyStay : PySem.W.hasDictIn K x_EmptyStay = true)
    (hx_xca_EmptyStay : PySem.W.findIn K (.ref x_EmptyStay) "__class__" = some (some (.builtin "object.__class__")))
    (hx_xmo_EmptyStay : PySem.W.mroIn K x_EmptyStay (.type "object") = some true)
    (hx_xti_EmptyStay : PySem.W.typeIn K (.ref x_EmptyStay_init) = some (.type "function"))
    (hx_xq_NoDays : PySem.W.excIn K x_NoDays [.type "ValueError", .type "Exception", .type "BaseException", .type "object"] "ValueError.__new__" = true)
    (hx_xga_NoDays : PySem.W.findIn K (.ref x_NoDays) "__getattribute__" = some (some (.builtin "BaseException.__getattribute__")))
    (hx_xgg_NoDays : PySem.W.findIn K (.ref x_NoDays) "__getattr__" = some none)
    (hx_xbe_NoDays : PySem.W.subIn K (.ref x_NoDays) (.type "BaseException") = some true)
    (hx_xty_NoDays : PySem.W.typeIn K (.ref x_NoDays) = some (.type "type"))
    (hx_xhd_NoDays : PySem.W.hasDictIn K x_NoDays = true)
    (hx_xca_NoDays : PySem.W.findIn K (.ref x_NoDays) "__class__" = some (some (.builtin "object.__class__")))
    (hx_xmo_NoDays : PySem.W.mroIn K x_NoDays (.type "object") = some true)
    (hx_cn_ : PySem.W.specialIn K (.builtin "object.__class__") "__get__" = some (some (.builtin "getset_descriptor.__get__")))
    (hx_ct_ : PySem.W.takesIn K (.builtin "object.__class__") = some true)
    (hx_ymk_Stay : PySem.W.makesIn K x_Stay = true)
    (hx_ypg_Stay : PySem.W.plainGet K x_Stay Str.empty = true)
    (hx_yhd_Stay : PySem.W.hasDictIn K x_Stay = true)
    (hx_ypo_Stay : PySem.W.plainOver K x_Stay = true)
    (hx_ysa_Stay : PySem.W.findIn K (.ref x_Stay) "__setattr__" = some (some (.builtin "object.__setattr__")))
    (hx_ysf_Stay : PySem.W.selfFirst K x_Stay = true)
    (hx_yca_Stay : PySem.W.findIn K (.ref x_Stay) "__class__" = some (some (.builtin "object.__class__")))
    (hx_ymo_Stay : PySem.W.mroIn K x_Stay (.type "object") = some true)
    (hx_z_Stay : PySem.W.kitOne K (.ref x_Stay) (.ref x_Stay) = some true)
    (hx_z_U : PySem.W.kitOne K (.ref x_NoDays) (.ref x_UnknownError) = some false)
    (hx_z_T : PySem.W.kitOne K (.ref x_NoDays) (.ref x_TextError) = some false)
    (hx_z_I : PySem.W.kitOne K (.ref x_NoDays) (.ref x_ImpossibleError) = some false)
    (hx_z_E : PySem.W.kitOne K (.ref x_NoDays) (.ref x_EmptyStay) = some false)
    (hx_z_A : PySem.W.kitOne K (.ref x_NoDays) (.ref x_ArchiveError) = some true)
    (hx_z_V : PySem.W.kitOne K (.ref x_NoDays) (.type "ValueError") = some true)
    (hx_z_N : PySem.W.kitOne K (.ref x_NoDays) (.ref x_NoDays) = some true)
    (hx_m_nn : PySem.W.exmOne K (.ref x_NoDays) (.ref x_NoDays) = some true)
    (hx_m_na : PySem.W.exmOne K (.ref x_NoDays) (.ref x_ArchiveError) = some true)
    (hx_e_EmptyStay_come : PySem.W.findIn K (.ref x_EmptyStay) "come" = some none)
    (hx_e_EmptyStay_go : PySem.W.findIn K (.ref x_EmptyStay) "go" = some none)
    (hx_no_Stay_come : PySem.W.findIn K (.ref x_Stay) "come" = some none)
    (hx_no_Stay_go : PySem.W.findIn K (.ref x_Stay) "go" = some none) :
    ∃ fd : FuncData, (∀ (s : Shared) (v : Value), BindsTo s fd ⟨[v], []⟩ [("_law_script", v)]) ∧ ∀ base : Heap, K.In base → base.Ns mainGlobals mg → FnOk l.prog w K mg base CX0 9 fa fd ["_law_script"] (spLaw K) := by
  have e := hfa.symm.trans (PySem.W.mg_of X G ha_law)
  cases e
  have F_EmptyStay_init := fun_mk (st := s_EmptyStay_init) hl_EmptyStay_init hc_EmptyStay_init hk_EmptyStay_init
  have b_EmptyStay_init := F_EmptyStay_init.binds (ps := ["self", "come", "go"]) fun _ _ _ _ _ _ us hl => match us, hl with | [_, _, _], _ => rfl
  have F_NoCommonDay_init := fun_mk (st := s_NoCommonDay_init) hl_NoCommonDay_init hc_NoCommonDay_init hk_NoCommonDay_init
  have b_NoCommonDay_init := F_NoCommonDay_init.binds (ps := ["self", "gap"]) fun _ _ _ _ _ _ us hl => match us, hl with | [_, _], _ => rfl
  have F_Stay_init := fun_mk (st := s_Stay_init) hl_Stay_init hc_Stay_init hk_Stay_init
  have b_Stay_init := F_Stay_init.binds (ps := ["self", "come", "go"]) fun _ _ _ _ _ _ us hl => match us, hl with | [_, _, _], _ => rfl
  have F_Stay___eq__ := fun_mk (st := s_Stay___eq__) hl_Stay___eq__ hc_Stay___eq__ hk_Stay___eq__
  have b_Stay___eq__ := F_Stay___eq__.binds (ps := ["self", "other"]) fun _ _ _ _ _ _ us hl => match us, hl with | [_, _], _ => rfl
  have F_Stay___str__ := fun_mk (st := s_Stay___str__) hl_Stay___str__ hc_Stay___str__ hk_Stay___str__
  have b_Stay___str__ := F_Stay___str__.binds (ps := ["self"]) fun _ _ _ _ _ _ us hl => match us, hl with | [_], _ => rfl
  have F_Stay___contains__ := fun_mk (st := s_Stay___contains__) hl_Stay___contains__ hc_Stay___contains__ hk_Stay___contains__
  have b_Stay___contains__ := F_Stay___contains__.binds (ps := ["self", "day"]) fun _ _ _ _ _ _ us hl => match us, hl with | [_, _], _ => rfl
  have F_Stay___add__ := fun_mk (st := s_Stay___add__) hl_Stay___add__ hc_Stay___add__ hk_Stay___add__
  have b_Stay___add__ := F_Stay___add__.binds (ps := ["self", "many"]) fun _ _ _ _ _ _ us hl => match us, hl with | [_, _], _ => rfl
  have F_Stay___sub__ := fun_mk (st := s_Stay___sub__) hl_Stay___sub__ hc_Stay___sub__ hk_Stay___sub__
  have b_Stay___sub__ := F_Stay___sub__.binds (ps := ["self", "many"]) fun _ _ _ _ _ _ us hl => match us, hl with | [_, _], _ => rfl
  have F_Stay___and__ := fun_mk (st := s_Stay___and__) hl_Stay___and__ hc_Stay___and__ hk_Stay___and__
  have b_Stay___and__ := F_Stay___and__.binds (ps := ["self", "other"]) fun _ _ _ _ _ _ us hl => match us, hl with | [_, _], _ => rfl
  have F_Stay___or__ := fun_mk (st := s_Stay___or__) hl_Stay___or__ hc_Stay___or__ hk_Stay___or__
  have b_Stay___or__ := F_Stay___or__.binds (ps := ["self", "other"]) fun _ _ _ _ _ _ us hl => match us, hl with | [_, _], _ => rfl
  have F_Stay_meets := fun_mk (st := s_Stay_meets) hl_Stay_meets hc_Stay_meets hk_Stay_meets
  have b_Stay_meets := F_Stay_meets.binds (ps := ["self", "other"]) fun _ _ _ _ _ _ us hl => match us, hl with | [_, _], _ => rfl
  have F_Stay_within := fun_mk (st := s_Stay_within) hl_Stay_within hc_Stay_within hk_Stay_within
  have b_Stay_within := F_Stay_within.binds (ps := ["self", "other"]) fun _ _ _ _ _ _ us hl => match us, hl with | [_, _], _ => rfl
  have F_Stay_crosses := fun_mk (st := s_Stay_crosses) hl_Stay_crosses hc_Stay_crosses hk_Stay_crosses
  have b_Stay_crosses := F_Stay_crosses.binds (ps := ["self", "other"]) fun _ _ _ _ _ _ us hl => match us, hl with | [_, _], _ => rfl
  have F_Stay_parts_without := fun_mk (st := s_Stay_parts_without) hl_Stay_parts_without hc_Stay_parts_without hk_Stay_parts_without
  have b_Stay_parts_without := F_Stay_parts_without.binds (ps := ["self", "other"]) fun _ _ _ _ _ _ us hl => match us, hl with | [_, _], _ => rfl
  have F_Stay_around := fun_mk (st := s_Stay_around) hl_Stay_around hc_Stay_around hk_Stay_around
  have b_Stay_around := F_Stay_around.binds (ps := ["days"]) fun _ _ _ _ _ _ us hl => match us, hl with | [_], _ => rfl
  have F__law_draws := fun_mk (st := s__law_draws) hl__law_draws hc__law_draws hk__law_draws
  have b__law_draws := F__law_draws.binds (ps := ["_law_script"]) fun _ _ _ _ _ _ us hl => match us, hl with | [_], _ => rfl
  have F__law_take := fun_mk (st := s__law_take) hl__law_take hc__law_take hk__law_take
  have b__law_take := F__law_take.binds (ps := ["_law_box", "_law_limit"]) fun _ _ _ _ _ _ us hl => match us, hl with | [_, _], _ => rfl
  have F__law_far := fun_mk (st := s__law_far) hl__law_far hc__law_far hk__law_far
  have b__law_far := F__law_far.binds (ps := ["_law_box"]) fun _ _ _ _ _ _ us hl => match us, hl with | [_], _ => rfl
  have F__law_number := fun_mk (st := s__law_number) hl__law_number hc__law_number hk__law_number
  have b__law_number := F__law_number.binds (ps := ["_law_actual", "_law_due"]) fun _ _ _ _ _ _ us hl => match us, hl with | [_, _], _ => rfl
  have F__law_is := fun_mk (st := s__law_is) hl__law_is hc__law_is hk__law_is
  have b__law_is := F__law_is.binds (ps := ["_law_stay", "_law_days_here"]) fun _ _ _ _ _ _ us hl => match us, hl with | [_, _], _ => rfl
  have F__law_starts := fun_mk (st := s__law_starts) hl__law_starts hc__law_starts hk__law_starts
  have b__law_starts := F__law_starts.binds (ps := ["_law_box"]) fun _ _ _ _ _ _ us hl => match us, hl with | [_], _ => rfl
  have F__law_row := fun_mk (st := s__law_row) hl__law_row hc__law_row hk__law_row
  have b__law_row := F__law_row.binds (ps := ["_law_box"]) fun _ _ _ _ _ _ us hl => match us, hl with | [_], _ => rfl
  have F__law_days := fun_mk (st := s__law_days) hl__law_days hc__law_days hk__law_days
  have b__law_days := F__law_days.binds (ps := ["_law_starts_here", "_law_row_here"]) fun _ _ _ _ _ _ us hl => match us, hl with | [_, _], _ => rfl
  have F__law_runs := fun_mk (st := s__law_runs) hl__law_runs hc__law_runs hk__law_runs
  have b__law_runs := F__law_runs.binds (ps := ["_law_mine", "_law_other"]) fun _ _ _ _ _ _ us hl => match us, hl with | [_, _], _ => rfl
  have F__law_truth := fun_mk (st := s__law_truth) hl__law_truth hc__law_truth hk__law_truth
  have b__law_truth := F__law_truth.binds (ps := ["_law_actual", "_law_due"]) fun _ _ _ _ _ _ us hl => match us, hl with | [_, _], _ => rfl
  have F__law_placed := fun_mk (st := s__law_placed) hl__law_placed hc__law_placed hk__law_placed
  have b__law_placed := F__law_placed.binds (ps := ["_law_one", "_law_two", "_law_mine", "_law_other"]) fun _ _ _ _ _ _ us hl => match us, hl with | [_, _, _, _], _ => rfl
  have F__law_stays := fun_mk (st := s__law_stays) hl__law_stays hc__law_stays hk__law_stays
  have b__law_stays := F__law_stays.binds (ps := ["_law_actual", "_law_starts_here", "_law_runs_here"]) fun _ _ _ _ _ _ us hl => match us, hl with | [_, _, _], _ => rfl
  have F__law_parted := fun_mk (st := s__law_parted) hl__law_parted hc__law_parted hk__law_parted
  have b__law_parted := F__law_parted.binds (ps := ["_law_one", "_law_two", "_law_starts_here", "_law_mine", "_law_other"]) fun _ _ _ _ _ _ us hl => match us, hl with | [_, _, _, _, _], _ => rfl
  have F__law_listed := fun_mk (st := s__law_listed) hl__law_listed hc__law_listed hk__law_listed
  have b__law_listed := F__law_listed.binds (ps := ["_law_box", "_law_starts_here"]) fun _ _ _ _ _ _ us hl => match us, hl with | [_, _], _ => rfl
  have F__law_around := fun_mk (st := s__law_around) hl__law_around hc__law_around hk__law_around
  have b__law_around := F__law_around.binds (ps := ["_law_days_here", "_law_as_tuple"]) fun _ _ _ _ _ _ us hl => match us, hl with | [_, _], _ => rfl
  have F__law_no_days := fun_mk (st := s__law_no_days) hl__law_no_days hc__law_no_days hk__law_no_days
  have b__law_no_days := F__law_no_days.binds (ps := ["_law_days_here"]) fun _ _ _ _ _ _ us hl => match us, hl with | [_], _ => rfl
  have F__law_caught := fun_mk (st := s__law_caught) hl__law_caught hc__law_caught hk__law_caught
  have b__law_caught := F__law_caught.binds (ps := []) fun _ _ _ _ _ _ us hl => match us, hl with | [], _ => rfl
  have F_law := fun_mk (st := s_law) hl_law hc_law hk_law
  have b_law := F_law.binds (ps := ["_law_script"]) fun _ _ _ _ _ _ us hl => match us, hl with | [_], _ => rfl
  let D : Ad := {
    a_EmptyStay_init := x_EmptyStay_init, d_EmptyStay_init := PySem.W.fnOf "__init__" "EmptyStay.__init__" (defArgs s_EmptyStay_init) (defBody s_EmptyStay_init) (defScope s_EmptyStay_init) .none kV_EmptyStay_init dc_EmptyStay_init pm_EmptyStay_init an_EmptyStay_init cd_EmptyStay_init ct_EmptyStay_init,
    a_NoCommonDay_init := x_NoCommonDay_init, d_NoCommonDay_init := PySem.W.fnOf "__init__" "NoCommonDay.__init__" (defArgs s_NoCommonDay_init) (defBody s_NoCommonDay_init) (defScope s_NoCommonDay_init) .none kV_NoCommonDay_init dc_NoCommonDay_init pm_NoCommonDay_init an_NoCommonDay_init cd_NoCommonDay_init ct_NoCommonDay_init,
    a_Stay_init := x_Stay_init, d_Stay_init := PySem.W.fnOf "__init__" "Stay.__init__" (defArgs s_Stay_init) (defBody s_Stay_init) (defScope s_Stay_init) .none kV_Stay_init dc_Stay_init pm_Stay_init an_Stay_init cd_Stay_init ct_Stay_init,
    a_Stay___eq__ := x_Stay___eq__, d_Stay___eq__ := PySem.W.fnOf "__eq__" "Stay.__eq__" (defArgs s_Stay___eq__) (defBody s_Stay___eq__) (defScope s_Stay___eq__) .none kV_Stay___eq__ dc_Stay___eq__ pm_Stay___eq__ an_Stay___eq__ cd_Stay___eq__ ct_Stay___eq__,
    a_Stay___str__ := x_Stay___str__, d_Stay___str__ := PySem.W.fnOf "__str__" "Stay.__str__" (defArgs s_Stay___str__) (defBody s_Stay___str__) (defScope s_Stay___str__) .none kV_Stay___str__ dc_Stay___str__ pm_Stay___str__ an_Stay___str__ cd_Stay___str__ ct_Stay___str__,
    a_Stay___contains__ := x_Stay___contains__, d_Stay___contains__ := PySem.W.fnOf "__contains__" "Stay.__contains__" (defArgs s_Stay___contains__) (defBody s_Stay___contains__) (defScope s_Stay___contains__) .none kV_Stay___contains__ dc_Stay___contains__ pm_Stay___contains__ an_Stay___contains__ cd_Stay___contains__ ct_Stay___contains__,
    a_Stay___add__ := x_Stay___add__, d_Stay___add__ := PySem.W.fnOf "__add__" "Stay.__add__" (defArgs s_Stay___add__) (defBody s_Stay___add__) (defScope s_Stay___add__) .none kV_Stay___add__ dc_Stay___add__ pm_Stay___add__ an_Stay___add__ cd_Stay___add__ ct_Stay___add__,
    a_Stay___sub__ := x_Stay___sub__, d_Stay___sub__ := PySem.W.fnOf "__sub__" "Stay.__sub__" (defArgs s_Stay___sub__) (defBody s_Stay___sub__) (defScope s_Stay___sub__) .none kV_Stay___sub__ dc_Stay___sub__ pm_Stay___sub__ an_Stay___sub__ cd_Stay___sub__ ct_Stay___sub__,
    a_Stay___and__ := x_Stay___and__, d_Stay___and__ := PySem.W.fnOf "__and__" "Stay.__and__" (defArgs s_Stay___and__) (defBody s_Stay___and__) (defScope s_Stay___and__) .none kV_Stay___and__ dc_Stay___and__ pm_Stay___and__ an_Stay___and__ cd_Stay___and__ ct_Stay___and__,
    a_Stay___or__ := x_Stay___or__, d_Stay___or__ := PySem.W.fnOf "__or__" "Stay.__or__" (defArgs s_Stay___or__) (defBody s_Stay___or__) (defScope s_Stay___or__) .none kV_Stay___or__ dc_Stay___or__ pm_Stay___or__ an_Stay___or__ cd_Stay___or__ ct_Stay___or__,
    a_Stay_meets := x_Stay_meets, d_Stay_meets := PySem.W.fnOf "meets" "Stay.meets" (defArgs s_Stay_meets) (defBody s_Stay_meets) (defScope s_Stay_meets) .none kV_Stay_meets dc_Stay_meets pm_Stay_meets an_Stay_meets cd_Stay_meets ct_Stay_meets,
    a_Stay_within := x_Stay_within, d_Stay_within := PySem.W.fnOf "within" "Stay.within" (defArgs s_Stay_within) (defBody s_Stay_within) (defScope s_Stay_within) .none kV_Stay_within dc_Stay_within pm_Stay_within an_Stay_within cd_Stay_within ct_Stay_within,
    a_Stay_crosses := x_Stay_crosses, d_Stay_crosses := PySem.W.fnOf "crosses" "Stay.crosses" (defArgs s_Stay_crosses) (defBody s_Stay_crosses) (defScope s_Stay_crosses) .none kV_Stay_crosses dc_Stay_crosses pm_Stay_crosses an_Stay_crosses cd_Stay_crosses ct_Stay_crosses,
    a_Stay_parts_without := x_Stay_parts_without, d_Stay_parts_without := PySem.W.fnOf "parts_without" "Stay.parts_without" (defArgs s_Stay_parts_without) (defBody s_Stay_parts_without) (defScope s_Stay_parts_without) .none kV_Stay_parts_without dc_Stay_parts_without pm_Stay_parts_without an_Stay_parts_without cd_Stay_parts_without ct_Stay_parts_without,
    a_Stay_around := x_Stay_around, d_Stay_around := PySem.W.fnOf "around" "Stay.around" (defArgs s_Stay_around) (defBody s_Stay_around) (defScope s_Stay_around) .none kV_Stay_around dc_Stay_around pm_Stay_around an_Stay_around cd_Stay_around ct_Stay_around,
    a__law_draws := x__law_draws, d__law_draws := PySem.W.fnOf "_law_draws" "_law_draws" (defArgs s__law_draws) (defBody s__law_draws) (defScope s__law_draws) .none kV__law_draws dc__law_draws pm__law_draws an__law_draws cd__law_draws ct__law_draws,
    a__law_take := x__law_take, d__law_take := PySem.W.fnOf "_law_take" "_law_take" (defArgs s__law_take) (defBody s__law_take) (defScope s__law_take) .none kV__law_take dc__law_take pm__law_take an__law_take cd__law_take ct__law_take,
    a__law_far := x__law_far, d__law_far := PySem.W.fnOf "_law_far" "_law_far" (defArgs s__law_far) (defBody s__law_far) (defScope s__law_far) .none kV__law_far dc__law_far pm__law_far an__law_far cd__law_far ct__law_far,
    a__law_number := x__law_number, d__law_number := PySem.W.fnOf "_law_number" "_law_number" (defArgs s__law_number) (defBody s__law_number) (defScope s__law_number) .none kV__law_number dc__law_number pm__law_number an__law_number cd__law_number ct__law_number,
    a__law_is := x__law_is, d__law_is := PySem.W.fnOf "_law_is" "_law_is" (defArgs s__law_is) (defBody s__law_is) (defScope s__law_is) .none kV__law_is dc__law_is pm__law_is an__law_is cd__law_is ct__law_is,
    a__law_starts := x__law_starts, d__law_starts := PySem.W.fnOf "_law_starts" "_law_starts" (defArgs s__law_starts) (defBody s__law_starts) (defScope s__law_starts) .none kV__law_starts dc__law_starts pm__law_starts an__law_starts cd__law_starts ct__law_starts,
    a__law_row := x__law_row, d__law_row := PySem.W.fnOf "_law_row" "_law_row" (defArgs s__law_row) (defBody s__law_row) (defScope s__law_row) .none kV__law_row dc__law_row pm__law_row an__law_row cd__law_row ct__law_row,
    a__law_days := x__law_days, d__law_days := PySem.W.fnOf "_law_days" "_law_days" (defArgs s__law_days) (defBody s__law_days) (defScope s__law_days) .none kV__law_days dc__law_days pm__law_days an__law_days cd__law_days ct__law_days,
    a__law_runs := x__law_runs, d__law_runs := PySem.W.fnOf "_law_runs" "_law_runs" (defArgs s__law_runs) (defBody s__law_runs) (defScope s__law_runs) .none kV__law_runs dc__law_runs pm__law_runs an__law_runs cd__law_runs ct__law_runs,
    a__law_truth := x__law_truth, d__law_truth := PySem.W.fnOf "_law_truth" "_law_truth" (defArgs s__law_truth) (defBody s__law_truth) (defScope s__law_truth) .none kV__law_truth dc__law_truth pm__law_truth an__law_truth cd__law_truth ct__law_truth,
    a__law_placed := x__law_placed, d__law_placed := PySem.W.fnOf "_law_placed" "_law_placed" (defArgs s__law_placed) (defBody s__law_placed) (defScope s__law_placed) .none kV__law_placed dc__law_placed pm__law_placed an__law_placed cd__law_placed ct__law_placed,
    a__law_stays := x__law_stays, d__law_stays := PySem.W.fnOf "_law_stays" "_law_stays" (defArgs s__law_stays) (defBody s__law_stays) (defScope s__law_stays) .none kV__law_stays dc__law_stays pm__law_stays an__law_stays cd__law_stays ct__law_stays,
    a__law_parted := x__law_parted, d__law_parted := PySem.W.fnOf "_law_parted" "_law_parted" (defArgs s__law_parted) (defBody s__law_parted) (defScope s__law_parted) .none kV__law_parted dc__law_parted pm__law_parted an__law_parted cd__law_parted ct__law_parted,
    a__law_listed := x__law_listed, d__law_listed := PySem.W.fnOf "_law_listed" "_law_listed" (defArgs s__law_listed) (defBody s__law_listed) (defScope s__law_listed) .none kV__law_listed dc__law_listed pm__law_listed an__law_listed cd__law_listed ct__law_listed,
    a__law_around := x__law_around, d__law_around := PySem.W.fnOf "_law_around" "_law_around" (defArgs s__law_around) (defBody s__law_around) (defScope s__law_around) .none kV__law_around dc__law_around pm__law_around an__law_around cd__law_around ct__law_around,
    a__law_no_days := x__law_no_days, d__law_no_days := PySem.W.fnOf "_law_no_days" "_law_no_days" (defArgs s__law_no_days) (defBody s__law_no_days) (defScope s__law_no_days) .none kV__law_no_days dc__law_no_days pm__law_no_days an__law_no_days cd__law_no_days ct__law_no_days,
    a__law_caught := x__law_caught, d__law_caught := PySem.W.fnOf "_law_caught" "_law_caught" (defArgs s__law_caught) (defBody s__law_caught) (defScope s__law_caught) .none kV__law_caught dc__law_caught pm__law_caught an__law_caught cd__law_caught ct__law_caught,
    a_law := fa, d_law := PySem.W.fnOf "law" "law" (defArgs s_law) (defBody s_law) (defScope s_law) .none kV_law dc_law pm_law an_law cd_law ct_law,
    c_ArchiveError := x_ArchiveError,
    c_UnknownError := x_UnknownError,
    c_TextError := x_TextError,
    c_ImpossibleError := x_ImpossibleError,
    c_EmptyStay := x_EmptyStay,
    c_NoCommonDay := x_NoCommonDay,
    c_NoDays := x_NoDays,
    c_Stay := x_Stay,
    p_Stay_around := q_Stay_around }
  have T : Txt K mg D := { F_EmptyStay_init := F_EmptyStay_init, b_EmptyStay_init := b_EmptyStay_init, m_EmptyStay_init := ha_EmptyStay_init, i_EmptyStay_init := hi_EmptyStay_init, F_NoCommonDay_init := F_NoCommonDay_init, b_NoCommonDay_init := b_NoCommonDay_init, m_NoCommonDay_init := ha_NoCommonDay_init, i_NoCommonDay_init := hi_NoCommonDay_init, F_Stay_init := F_Stay_init, b_Stay_init := b_Stay_init, m_Stay_init := ha_Stay_init, i_Stay_init := hi_Stay_init, F_Stay___eq__ := F_Stay___eq__, b_Stay___eq__ := b_Stay___eq__, m_Stay___eq__ := ha_Stay___eq__, i_Stay___eq__ := hi_Stay___eq__, F_Stay___str__ := F_Stay___str__, b_Stay___str__ := b_Stay___str__, m_Stay___str__ := ha_Stay___str__, i_Stay___str__ := hi_Stay___str__, F_Stay___contains__ := F_Stay___contains__, b_Stay___contains__ := b_Stay___contains__, m_Stay___contains__ := ha_Stay___contains__, i_Stay___contains__ := hi_Stay___contains__, F_Stay___add__ := F_Stay___add__, b_Stay___add__ := b_Stay___add__, m_Stay___add__ := ha_Stay___add__, i_Stay___add__ := hi_Stay___add__, F_Stay___sub__ := F_Stay___sub__, b_Stay___sub__ := b_Stay___sub__, m_Stay___sub__ := ha_Stay___sub__, i_Stay___sub__ := hi_Stay___sub__, F_Stay___and__ := F_Stay___and__, b_Stay___and__ := b_Stay___and__, m_Stay___and__ := ha_Stay___and__, i_Stay___and__ := hi_Stay___and__, F_Stay___or__ := F_Stay___or__, b_Stay___or__ := b_Stay___or__, m_Stay___or__ := ha_Stay___or__, i_Stay___or__ := hi_Stay___or__, F_Stay_meets := F_Stay_meets, b_Stay_meets := b_Stay_meets, m_Stay_meets := ha_Stay_meets, i_Stay_meets := hi_Stay_meets, F_Stay_within := F_Stay_within, b_Stay_within := b_Stay_within, m_Stay_within := ha_Stay_within, i_Stay_within := hi_Stay_within, F_Stay_crosses := F_Stay_crosses, b_Stay_crosses := b_Stay_crosses, m_Stay_crosses := ha_Stay_crosses, i_Stay_crosses := hi_Stay_crosses, F_Stay_parts_without := F_Stay_parts_without, b_Stay_parts_without := b_Stay_parts_without, m_Stay_parts_without := ha_Stay_parts_without, i_Stay_parts_without := hi_Stay_parts_without, F_Stay_around := F_Stay_around, b_Stay_around := b_Stay_around, sr_Stay_around := hx_sr_Stay_around, sg_Stay_around := hx_sg_Stay_around, pa_Stay_around := ha_Stay_around, pr_Stay_around := ⟨_, hr_Stay_around⟩, F__law_draws := F__law_draws, b__law_draws := b__law_draws, g__law_draws := PySem.W.mg_of X G ha__law_draws, F__law_take := F__law_take, b__law_take := b__law_take, g__law_take := PySem.W.mg_of X G ha__law_take, F__law_far := F__law_far, b__law_far := b__law_far, g__law_far := PySem.W.mg_of X G ha__law_far, F__law_number := F__law_number, b__law_number := b__law_number, g__law_number := PySem.W.mg_of X G ha__law_number, F__law_is := F__law_is, b__law_is := b__law_is, g__law_is := PySem.W.mg_of X G ha__law_is, F__law_starts := F__law_starts, b__law_starts := b__law_starts, g__law_starts := PySem.W.mg_of X G ha__law_starts, F__law_row := F__law_row, b__law_row := b__law_row, g__law_row := PySem.W.mg_of X G ha__law_row, F__law_days := F__law_days, b__law_days := b__law_days, g__law_days := PySem.W.mg_of X G ha__law_days, F__law_runs := F__law_runs, b__law_runs := b__law_runs, g__law_runs := PySem.W.mg_of X G ha__law_runs, F__law_truth := F__law_truth, b__law_truth := b__law_truth, g__law_truth := PySem.W.mg_of X G ha__law_truth, F__law_placed := F__law_placed, b__law_placed := b__law_placed, g__law_placed := PySem.W.mg_of X G ha__law_placed, F__law_stays := F__law_stays, b__law_stays := b__law_stays, g__law_stays := PySem.W.mg_of X G ha__law_stays, F__law_parted := F__law_parted, b__law_parted := b__law_parted, g__law_parted := PySem.W.mg_of X G ha__law_parted, F__law_listed := F__law_listed, b__law_listed := b__law_listed, g__law_listed := PySem.W.mg_of X G ha__law_listed, F__law_around := F__law_around, b__law_around := b__law_around, g__law_around := PySem.W.mg_of X G ha__law_around, F__law_no_days := F__law_no_days, b__law_no_days := b__law_no_days, g__law_no_days := PySem.W.mg_of X G ha__law_no_days, F__law_caught := F__law_caught, b__law_caught := b__law_caught, g__law_caught := PySem.W.mg_of X G ha__law_caught, F_law := F_law, b_law := b_law, g_law := PySem.W.mg_of X G ha_law, g_ArchiveError := PySem.W.mg_of X G hC_ArchiveError, k_ArchiveError := hK_ArchiveError, g_UnknownError := PySem.W.mg_of X G hC_UnknownError, k_UnknownError := hK_UnknownError, g_TextError := PySem.W.mg_of X G hC_TextError, k_TextError := hK_TextError, g_ImpossibleError := PySem.W.mg_of X G hC_ImpossibleError, k_ImpossibleError := hK_ImpossibleError, g_EmptyStay := PySem.W.mg_of X G hC_EmptyStay, k_EmptyStay := hK_EmptyStay, g_NoCommonDay := PySem.W.mg_of X G hC_NoCommonDay, k_NoCommonDay := hK_NoCommonDay, g_NoDays := PySem.W.mg_of X G hC_NoDays, k_NoDays := hK_NoDays, g_Stay := PySem.W.mg_of X G hC_Stay, k_Stay := hK_Stay, n_ValueError := PySem.W.mg_none_of X G hn_ValueError, n_bool := PySem.W.mg_none_of X G hn_bool, n_int := PySem.W.mg_none_of X G hn_int, n_isinstance := PySem.W.mg_none_of X G hn_isinstance, n_len := PySem.W.mg_none_of X G hn_len, n_list := PySem.W.mg_none_of X G hn_list, n_max := PySem.W.mg_none_of X G hn_max, n_min := PySem.W.mg_none_of X G hn_min, n_range := PySem.W.mg_none_of X G hn_range, n_tuple := PySem.W.mg_none_of X G hn_tuple, oxl_EmptyStay := ⟨_, _, _, _, _, _, _, _, _, _, _, _, _, _, _, ol_EmptyStay, or_EmptyStay⟩, xsa_EmptyStay := hx_xsa_EmptyStay, xga_EmptyStay := hx_xga_EmptyStay, xgg_EmptyStay := hx_xgg_EmptyStay, xbe_EmptyStay := hx_xbe_EmptyStay, xty_EmptyStay := hx_xty_EmptyStay, xhd_EmptyStay := hx_xhd_EmptyStay, xca_EmptyStay := hx_xca_EmptyStay, xmo_EmptyStay := hx_xmo_EmptyStay, xti_EmptyStay := hx_xti_EmptyStay, xq_NoDays := hx_xq_NoDays, xga_NoDays := hx_xga_NoDays, xgg_NoDays := hx_xgg_NoDays, xbe_NoDays := hx_xbe_NoDays, xty_NoDays := hx_xty_NoDays, xhd_NoDays := hx_xhd_NoDays, xca_NoDays := hx_xca_NoDays, xmo_NoDays := hx_xmo_NoDays, cn_ := hx_cn_, ct_ := hx_ct_, ymk_Stay := hx_ymk_Stay, ypg_Stay := hx_ypg_Stay, yhd_Stay := hx_yhd_Stay, ypo_Stay := hx_ypo_Stay, ysa_Stay := hx_ysa_Stay, ysf_Stay := hx_ysf_Stay, yca_Stay := hx_yca_Stay, ymo_Stay := hx_ymo_Stay, z_Stay := hx_z_Stay, z_U := hx_z_U, z_T := hx_z_T, z_I := hx_z_I, z_E := hx_z_E, z_A := hx_z_A, z_V := hx_z_V, z_N := hx_z_N, m_nn := hx_m_nn, m_na := hx_m_na, e_EmptyStay_come := hx_e_EmptyStay_come, e_EmptyStay_go := hx_e_EmptyStay_go, no_Stay_come := hx_no_Stay_come, no_Stay_go := hx_no_Stay_go }
  exact ⟨D.d_law, fun s v => .of_eq rfl, fun base _ _ => ok_law (D := D) T⟩
end
theorem walk {l : PySem.W.OpenLaw} {q : Program} {loose : List Str} {XP : (Str → Option Value) → Heap → Prop} {YP : World → Heap → Prop} {d : DefRec} {K : Params → PySem.W.Frag} (hn : l.most = some 63) (hdf : d.params.defaults = [])
    (hY : ∀ (w : World) (h : Heap), YP w h → (K w.params).In h)
    (F : ∀ (w : World) (mg : Str → Option Value) (fa : Addr) (h : Heap), (K w.params).In h → h.Ns mainGlobals mg → mg d.name = some (.ref fa) →
      ∃ fd : FuncData, (∀ (s : Shared) (u : Value), BindsTo s fd ⟨[u], []⟩ [("_law_script", u)]) ∧ ∀ base : Heap, (K w.params).In base → base.Ns mainGlobals mg → FnOk l.prog w (K w.params) mg base CX0 9 fa fd ["_law_script"] (spLaw (K w.params))) :
    PySem.W.WalkO q loose XP YP l.row.toRowW d [] (fun f vs => PySem.call f vs) :=
  L2.walk_of (n := 63) (k := 9) (x := "_law_script") (CX := fun _ => CX0) (sp := fun w => spLaw (K w.params)) hn (by decide) hdf ⟨rfl, by decide, by decide⟩ hY F (fun _ _ a ns hl _ hS => ⟨a, ns, rfl, hS, hl, fun _ => rfl⟩) fun _ _ _ _ _ z => z
end Toy

open PySem PySem.W PyProof.Rows in
set_option maxRecDepth 100000 in
set_option maxHeartbeats 0 in
theorem PySem.Challenge.cw_fittingpasts_k17_stay_parts_holds : PySem.Challenge.rw_fittingpasts_k17_stay_parts.Holds := by
  w_on; o_law; k_head; (case hw => w_witness2)
  k_fill
  refine Toy.walk (l := PySem.Challenge.rw_fittingpasts_k17_stay_parts) rfl rfl (fun w h Y => PySem.W.kIn_of Y) ?F
  case F =>
    intro w mg fa h KX G hmg
    refine' Toy.all_mk KX G hmg ?hC_ArchiveError ?hK_ArchiveError ?hC_UnknownError ?hK_UnknownError ?hC_TextError ?hK_TextError ?hC_ImpossibleError ?hK_ImpossibleError ?hC_EmptyStay ?hK_EmptyStay ?hC_NoCommonDay ?hK_NoCommonDay ?hC_NoDays ?hK_NoDays ?hC_Stay ?hK_Stay ?ha_EmptyStay_init ?hi_EmptyStay_init ?hl_EmptyStay_init ?hc_EmptyStay_init ?hk_EmptyStay_init ?ha_NoCommonDay_init ?hi_NoCommonDay_init ?hl_NoCommonDay_init ?hc_NoCommonDay_init ?hk_NoCommonDay_init ?ha_Stay_init ?hi_Stay_init ?hl_Stay_init ?hc_Stay_init ?hk_Stay_init ?ha_Stay___eq__ ?hi_Stay___eq__ ?hl_Stay___eq__ ?hc_Stay___eq__ ?hk_Stay___eq__ ?ha_Stay___str__ ?hi_Stay___str__ ?hl_Stay___str__ ?hc_Stay___str__ ?hk_Stay___str__ ?ha_Stay___contains__ ?hi_Stay___contains__ ?hl_Stay___contains__ ?hc_Stay___contains__ ?hk_Stay___contains__ ?ha_Stay___add__ ?hi_Stay___add__ ?hl_Stay___add__ ?hc_Stay___add__ ?hk_Stay___add__ ?ha_Stay___sub__ ?hi_Stay___sub__ ?hl_Stay___sub__ ?hc_Stay___sub__ ?hk_Stay___sub__ ?ha_Stay___and__ ?hi_Stay___and__ ?hl_Stay___and__ ?hc_Stay___and__ ?hk_Stay___and__ ?ha_Stay___or__ ?hi_Stay___or__ ?hl_Stay___or__ ?hc_Stay___or__ ?hk_Stay___or__ ?ha_Stay_meets ?hi_Stay_meets ?hl_Stay_meets ?hc_Stay_meets ?hk_Stay_meets ?ha_Stay_within ?hi_Stay_within ?hl_Stay_within ?hc_Stay_within ?hk_Stay_within ?ha_Stay_crosses ?hi_Stay_crosses ?hl_Stay_crosses ?hc_Stay_crosses ?hk_Stay_crosses ?ha_Stay_parts_without ?hi_Stay_parts_without ?hl_Stay_parts_without ?hc_Stay_parts_without ?hk_Stay_parts_without ?ha_Stay_around ?hr_Stay_around ?hl_Stay_around ?hc_Stay_around ?hk_Stay_around ?ha__law_draws ?hl__law_draws ?hc__law_draws ?hk__law_draws ?ha__law_take ?hl__law_take ?hc__law_take ?hk__law_take ?ha__law_far ?hl__law_far ?hc__law_far ?hk__law_far ?ha__law_number ?hl__law_number ?hc__law_number ?hk__law_number ?ha__law_is ?hl__law_is ?hc__law_is ?hk__law_is ?ha__law_starts ?hl__law_starts ?hc__law_starts ?hk__law_starts ?ha__law_row ?hl__law_row ?hc__law_row ?hk__law_row ?ha__law_days ?hl__law_days ?hc__law_days ?hk__law_days ?ha__law_runs ?hl__law_runs ?hc__law_runs ?hk__law_runs ?ha__law_truth ?hl__law_truth ?hc__law_truth ?hk__law_truth ?ha__law_placed ?hl__law_placed ?hc__law_placed ?hk__law_placed ?ha__law_stays ?hl__law_stays ?hc__law_stays ?hk__law_stays ?ha__law_parted ?hl__law_parted ?hc__law_parted ?hk__law_parted ?ha__law_listed ?hl__law_listed ?hc__law_listed ?hk__law_listed ?ha__law_around ?hl__law_around ?hc__law_around ?hk__law_around ?ha__law_no_days ?hl__law_no_days ?hc__law_no_days ?hk__law_no_days ?ha__law_caught ?hl__law_caught ?hc__law_caught ?hk__law_caught ?ha_law ?hl_law ?hc_law ?hk_law ?hn_ValueError ?hn_bool ?hn_int ?hn_isinstance ?hn_len ?hn_list ?hn_max ?hn_min ?hn_range ?hn_tuple ?ol_EmptyStay ?or_EmptyStay ?hx_sr_Stay_around ?hx_sg_Stay_around ?hx_xsa_EmptyStay ?hx_xga_EmptyStay ?hx_xgg_EmptyStay ?hx_xbe_EmptyStay ?hx_xty_EmptyStay ?hx_xhd_EmptyStay ?hx_xca_EmptyStay ?hx_xmo_EmptyStay ?hx_xti_EmptyStay ?hx_xq_NoDays ?hx_xga_NoDays ?hx_xgg_NoDays ?hx_xbe_NoDays ?hx_xty_NoDays ?hx_xhd_NoDays ?hx_xca_NoDays ?hx_xmo_NoDays ?hx_cn_ ?hx_ct_ ?hx_ymk_Stay ?hx_ypg_Stay ?hx_yhd_Stay ?hx_ypo_Stay ?hx_ysa_Stay ?hx_ysf_Stay ?hx_yca_Stay ?hx_ymo_Stay ?hx_z_Stay ?hx_z_U ?hx_z_T ?hx_z_I ?hx_z_E ?hx_z_A ?hx_z_V ?hx_z_N ?hx_m_nn ?hx_m_na ?hx_e_EmptyStay_come ?hx_e_EmptyStay_go ?hx_no_Stay_come ?hx_no_Stay_go
    (case hC_ArchiveError => first | k_is | rfl | k_exc)
    (case hK_ArchiveError => first | k_is | rfl | k_exc)
    (case hC_UnknownError => first | k_is | rfl | k_exc)
    (case hK_UnknownError => first | k_is | rfl | k_exc)
    (case hC_TextError => first | k_is | rfl | k_exc)
    (case hK_TextError => first | k_is | rfl | k_exc)
    (case hC_ImpossibleError => first | k_is | rfl | k_exc)
    (case hK_ImpossibleError => first | k_is | rfl | k_exc)
    (case hC_EmptyStay => first | k_is | rfl | k_exc)
    (case hK_EmptyStay => first | k_is | rfl | k_exc)
    (case hC_NoCommonDay => first | k_is | rfl | k_exc)
    (case hK_NoCommonDay => first | k_is | rfl | k_exc)
    (case hC_NoDays => first | k_is | rfl | k_exc)
    (case hK_NoDays => first | k_is | rfl | k_exc)
    (case hC_Stay => first | k_is | rfl | k_exc)
    (case hK_Stay => first | k_is | rfl | k_exc)
    (case ha_EmptyStay_init => first | k_is | rfl | k_exc)
    (case hi_EmptyStay_init => first | k_is | rfl | k_exc)
    (case hl_EmptyStay_init => first | k_is | rfl | k_exc)
    (case hc_EmptyStay_init => first | k_is | rfl | k_exc)
    (case hk_EmptyStay_init => first | k_is | rfl | k_exc)
    (case ha_NoCommonDay_init => first | k_is | rfl | k_exc)
    (case hi_NoCommonDay_init => first | k_is | rfl | k_exc)
    (case hl_NoCommonDay_init => first | k_is | rfl | k_exc)
    (case hc_NoCommonDay_init => first | k_is | rfl | k_exc)
    (case hk_NoCommonDay_init => first | k_is | rfl | k_exc)
    (case ha_Stay_init => first | k_is | rfl | k_exc)
    (case hi_Stay_init => first | k_is | rfl | k_exc)
    (case hl_Stay_init => first | k_is | rfl | k_exc)
    (case hc_Stay_init => first | k_is | rfl | k_exc)
    (case hk_Stay_init => first | k_is | rfl | k_exc)
    (case ha_Stay___eq__ => first | k_is | rfl | k_exc)
    (case hi_Stay___eq__ => first | k_is | rfl | k_exc)
    (case hl_Stay___eq__ => first | k_is | rfl | k_exc)
    (case hc_Stay___eq__ => first | k_is | rfl | k_exc)
    (case hk_Stay___eq__ => first | k_is | rfl | k_exc)
    (case ha_Stay___str__ => first | k_is | rfl | k_exc)
    (case hi_Stay___str__ => first | k_is | rfl | k_exc)
    (case hl_Stay___str__ => first | k_is | rfl | k_exc)
    (case hc_Stay___str__ => first | k_is | rfl | k_exc)
    (case hk_Stay___str__ => first | k_is | rfl | k_exc)
    (case ha_Stay___contains__ => first | k_is | rfl | k_exc)
    (case hi_Stay___contains__ => first | k_is | rfl | k_exc)
    (case hl_Stay___contains__ => first | k_is | rfl | k_exc)
    (case hc_Stay___contains__ => first | k_is | rfl | k_exc)
    (case hk_Stay___contains__ => first | k_is | rfl | k_exc)
    (case ha_Stay___add__ => first | k_is | rfl | k_exc)
    (case hi_Stay___add__ => first | k_is | rfl | k_exc)
    (case hl_Stay___add__ => first | k_is | rfl | k_exc)
    (case hc_Stay___add__ => first | k_is | rfl | k_exc)
    (case hk_Stay___add__ => first | k_is | rfl | k_exc)
    (case ha_Stay___sub__ => first | k_is | rfl | k_exc)
    (case hi_Stay___sub__ => first | k_is | rfl | k_exc)
    (case hl_Stay___sub__ => first | k_is | rfl | k_exc)
    (case hc_Stay___sub__ => first | k_is | rfl | k_exc)
    (case hk_Stay___sub__ => first | k_is | rfl | k_exc)
    (case ha_Stay___and__ => first | k_is | rfl | k_exc)
    (case hi_Stay___and__ => first | k_is | rfl | k_exc)
    (case hl_Stay___and__ => first | k_is | rfl | k_exc)
    (case hc_Stay___and__ => first | k_is | rfl | k_exc)
    (case hk_Stay___and__ => first | k_is | rfl | k_exc)
    (case ha_Stay___or__ => first | k_is | rfl | k_exc)
    (case hi_Stay___or__ => first | k_is | rfl | k_exc)
    (case hl_Stay___or__ => first | k_is | rfl | k_exc)
    (case hc_Stay___or__ => first | k_is | rfl | k_exc)
    (case hk_Stay___or__ => first | k_is | rfl | k_exc)
    (case ha_Stay_meets => first | k_is | rfl | k_exc)
    (case hi_Stay_meets => first | k_is | rfl | k_exc)
    (case hl_Stay_meets => first | k_is | rfl | k_exc)
    (case hc_Stay_meets => first | k_is | rfl | k_exc)
    (case hk_Stay_meets => first | k_is | rfl | k_exc)
    (case ha_Stay_within => first | k_is | rfl | k_exc)
    (case hi_Stay_within => first | k_is | rfl | k_exc)
    (case hl_Stay_within => first | k_is | rfl | k_exc)
    (case hc_Stay_within => first | k_is | rfl | k_exc)
    (case hk_Stay_within => first | k_is | rfl | k_exc)
    (case ha_Stay_crosses => first | k_is | rfl | k_exc)
    (case hi_Stay_crosses => first | k_is | rfl | k_exc)
    (case hl_Stay_crosses => first | k_is | rfl | k_exc)
    (case hc_Stay_crosses => first | k_is | rfl | k_exc)
    (case hk_Stay_crosses => first | k_is | rfl | k_exc)
    (case ha_Stay_parts_without => first | k_is | rfl | k_exc)
    (case hi_Stay_parts_without => first | k_is | rfl | k_exc)
    (case hl_Stay_parts_without => first | k_is | rfl | k_exc)
    (case hc_Stay_parts_without => first | k_is | rfl | k_exc)
    (case hk_Stay_parts_without => first | k_is | rfl | k_exc)
    (case ha_Stay_around => first | k_is | rfl | k_exc)
    (case hr_Stay_around => first | k_is | rfl | k_exc)
    (case hl_Stay_around => first | k_is | rfl | k_exc)
    (case hc_Stay_around => first | k_is | rfl | k_exc)
    (case hk_Stay_around => first | k_is | rfl | k_exc)
    (case ha__law_draws => first | k_is | rfl | k_exc)
    (case hl__law_draws => first | k_is | rfl | k_exc)
    (case hc__law_draws => first | k_is | rfl | k_exc)
    (case hk__law_draws => first | k_is | rfl | k_exc)
    (case ha__law_take => first | k_is | rfl | k_exc)
    (case hl__law_take => first | k_is | rfl | k_exc)
    (case hc__law_take => first | k_is | rfl | k_exc)
    (case hk__law_take => first | k_is | rfl | k_exc)
    (case ha__law_far => first | k_is | rfl | k_exc)
    (case hl__law_far => first | k_is | rfl | k_exc)
    (case hc__law_far => first | k_is | rfl | k_exc)
    (case hk__law_far => first | k_is | rfl | k_exc)
    (case ha__law_number => first | k_is | rfl | k_exc)
    (case hl__law_number => first | k_is | rfl | k_exc)
    (case hc__law_number => first | k_is | rfl | k_exc)
    (case hk__law_number => first | k_is | rfl | k_exc)
    (case ha__law_is => first | k_is | rfl | k_exc)
    (case hl__law_is => first | k_is | rfl | k_exc)
    (case hc__law_is => first | k_is | rfl | k_exc)
    (case hk__law_is => first | k_is | rfl | k_exc)
    (case ha__law_starts => first | k_is | rfl | k_exc)
    (case hl__law_starts => first | k_is | rfl | k_exc)
    (case hc__law_starts => first | k_is | rfl | k_exc)
    (case hk__law_starts => first | k_is | rfl | k_exc)
    (case ha__law_row => first | k_is | rfl | k_exc)
    (case hl__law_row => first | k_is | rfl | k_exc)
    (case hc__law_row => first | k_is | rfl | k_exc)
    (case hk__law_row => first | k_is | rfl | k_exc)
    (case ha__law_days => first | k_is | rfl | k_exc)
    (case hl__law_days => first | k_is | rfl | k_exc)
    (case hc__law_days => first | k_is | rfl | k_exc)
    (case hk__law_days => first | k_is | rfl | k_exc)
    (case ha__law_runs => first | k_is | rfl | k_exc)
    (case hl__law_runs => first | k_is | rfl | k_exc)
    (case hc__law_runs => first | k_is | rfl | k_exc)
    (case hk__law_runs => first | k_is | rfl | k_exc)
    (case ha__law_truth => first | k_is | rfl | k_exc)
    (case hl__law_truth => first | k_is | rfl | k_exc)
    (case hc__law_truth => first | k_is | rfl | k_exc)
    (case hk__law_truth => first | k_is | rfl | k_exc)
    (case ha__law_placed => first | k_is | rfl | k_exc)
    (case hl__law_placed => first | k_is | rfl | k_exc)
    (case hc__law_placed => first | k_is | rfl | k_exc)
    (case hk__law_placed => first | k_is | rfl | k_exc)
    (case ha__law_stays => first | k_is | rfl | k_exc)
    (case hl__law_stays => first | k_is | rfl | k_exc)
    (case hc__law_stays => first | k_is | rfl | k_exc)
    (case hk__law_stays => first | k_is | rfl | k_exc)
    (case ha__law_parted => first | k_is | rfl | k_exc)
    (case hl__law_parted => first | k_is | rfl | k_exc)
    (case hc__law_parted => first | k_is | rfl | k_exc)
    (case hk__law_parted => first | k_is | rfl | k_exc)
    (case ha__law_listed => first | k_is | rfl | k_exc)
    (case hl__law_listed => first | k_is | rfl | k_exc)
    (case hc__law_listed => first | k_is | rfl | k_exc)
    (case hk__law_listed => first | k_is | rfl | k_exc)
    (case ha__law_around => first | k_is | rfl | k_exc)
    (case hl__law_around => first | k_is | rfl | k_exc)
    (case hc__law_around => first | k_is | rfl | k_exc)
    (case hk__law_around => first | k_is | rfl | k_exc)
    (case ha__law_no_days => first | k_is | rfl | k_exc)
    (case hl__law_no_days => first | k_is | rfl | k_exc)
    (case hc__law_no_days => first | k_is | rfl | k_exc)
    (case hk__law_no_days => first | k_is | rfl | k_exc)
    (case ha__law_caught => first | k_is | rfl | k_exc)
    (case hl__law_caught => first | k_is | rfl | k_exc)
    (case hc__law_caught => first | k_is | rfl | k_exc)
    (case hk__law_caught => first | k_is | rfl | k_exc)
    (case ha_law => first | k_is | rfl | k_exc)
    (case hl_law => first | k_is | rfl | k_exc)
    (case hc_law => first | k_is | rfl | k_exc)
    (case hk_law => first | k_is | rfl | k_exc)
    (case hn_ValueError => first | k_is | rfl | k_exc)
    (case hn_bool => first | k_is | rfl | k_exc)
    (case hn_int => first | k_is | rfl | k_exc)
    (case hn_isinstance => first | k_is | rfl | k_exc)
    (case hn_len => first | k_is | rfl | k_exc)
    (case hn_list => first | k_is | rfl | k_exc)
    (case hn_max => first | k_is | rfl | k_exc)
    (case hn_min => first | k_is | rfl | k_exc)
    (case hn_range => first | k_is | rfl | k_exc)
    (case hn_tuple => first | k_is | rfl | k_exc)
    (case ol_EmptyStay => first | k_is | rfl | k_exc)
    (case or_EmptyStay => decide +kernel)
    (case hx_sr_Stay_around => first | k_is | rfl | k_exc)
    (case hx_sg_Stay_around => first | k_is | rfl | k_exc)
    (case hx_xsa_EmptyStay => first | k_is | rfl | k_exc)
    (case hx_xga_EmptyStay => first | k_is | rfl | k_exc)
    (case hx_xgg_EmptyStay => first | k_is | rfl | k_exc)
    (case hx_xbe_EmptyStay => first | k_is | rfl | k_exc)
    (case hx_xty_EmptyStay => first | k_is | rfl | k_exc)
    (case hx_xhd_EmptyStay => first | k_is | rfl | k_exc)
    (case hx_xca_EmptyStay => first | k_is | rfl | k_exc)
    (case hx_xmo_EmptyStay => first | k_is | rfl | k_exc)
    (case hx_xti_EmptyStay => first | k_is | rfl | k_exc)
    (case hx_xq_NoDays => first | k_is | rfl | k_exc)
    (case hx_xga_NoDays => first | k_is | rfl | k_exc)
    (case hx_xgg_NoDays => first | k_is | rfl | k_exc)
    (case hx_xbe_NoDays => first | k_is | rfl | k_exc)
    (case hx_xty_NoDays => first | k_is | rfl | k_exc)
    (case hx_xhd_NoDays => first | k_is | rfl | k_exc)
    (case hx_xca_NoDays => first | k_is | rfl | k_exc)
    (case hx_xmo_NoDays => first | k_is | rfl | k_exc)
    (case hx_cn_ => first | k_is | rfl | k_exc)
    (case hx_ct_ => first | k_is | rfl | k_exc)
    (case hx_ymk_Stay => first | k_is | rfl | k_exc)
    (case hx_ypg_Stay => first | k_is | rfl | k_exc)
    (case hx_yhd_Stay => first | k_is | rfl | k_exc)
    (case hx_ypo_Stay => first | k_is | rfl | k_exc)
    (case hx_ysa_Stay => first | k_is | rfl | k_exc)
    (case hx_ysf_Stay => first | k_is | rfl | k_exc)
    (case hx_yca_Stay => first | k_is | rfl | k_exc)
    (case hx_ymo_Stay => first | k_is | rfl | k_exc)
    (case hx_z_Stay => first | k_is | rfl | k_exc)
    (case hx_z_U => first | k_is | rfl | k_exc)
    (case hx_z_T => first | k_is | rfl | k_exc)
    (case hx_z_I => first | k_is | rfl | k_exc)
    (case hx_z_E => first | k_is | rfl | k_exc)
    (case hx_z_A => first | k_is | rfl | k_exc)
    (case hx_z_V => first | k_is | rfl | k_exc)
    (case hx_z_N => first | k_is | rfl | k_exc)
    (case hx_m_nn => first | k_is | rfl | k_exc)
    (case hx_m_na => first | k_is | rfl | k_exc)
    (case hx_e_EmptyStay_come => first | k_is | rfl | k_exc)
    (case hx_e_EmptyStay_go => first | k_is | rfl | k_exc)
    (case hx_no_Stay_come => first | k_is | rfl | k_exc)
    (case hx_no_Stay_go => first | k_is | rfl | k_exc)
