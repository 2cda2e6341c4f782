import PyProof.Rows.All
import Wide.All
import OpenK.AllK
import Wide.FinOn
import HandS.ForExc
import HandS.Comp
import HandS.Wide
import HandS.IsInst
import HandS.Property
import HandS.FStr
import HandS.MakeKw
import HandS.MakeKwOnly
import HandS.ExcInit
import HandS.ExcField
import HandS.ExcIs
import HandS.HotCalls
import HandS.OwnEq
import HandS.Evl
import KE.KCallOwn
import PySem.Challenge.RW_fittingpasts_k16_stay_signs
set_option Elab.async false
set_option linter.all false
set_option maxRecDepth 100000
set_option maxHeartbeats 4000000
/-! own rules: operators that a class of the program defines -/
namespace XR
open PySem PySem.Spec PyProof.Rows L2
section
variable {X : Cx} {CX : CXT} {k : Nat} {C f : Addr} {fd : FuncData} {ps : List Str} {sp : Sp} {E : XK}
/-- the callee runs, somewhere below the body -/
theorem run_at {A : Around} {pins : List (Addr × Obj)} {σ : L2.St} {H : Hp} {s : Shared} {Q : VK} {us : List Value} {vs : List V} (F : FnOk X.prog X.w X.K X.mg X.base CX k f fd ps sp) (hr : Room k A) (hA : A.frames = X.A.frames) (hb : Binds X.K fd ps []) (hx : PassesAt CX X σ E)
    (I : Inv X pins σ H s) (r : Vals vs us) (h : sp vs H Q E) : wpAny (model X.prog X.w) A (call (.ref f) us) (EP X pins σ Q) X.xe s := by
  have hl : us.length = ps.length := by rw [← r.length]; exact F.len _ _ _ _ h
  have e0 : Env0 X.prog X.w X.K X.mg X.base A X.stack s H := by
    have e := I.env0
    exact ⟨by rw [hA]; exact e.frames, e.mod, e.bs, e.bsz, e.funs, e.frf, e.hok, e.bare⟩
  have b := hb s us I.kIn (by rw [List.append_nil]; exact hl)
  rw [List.append_nil] at b
  refine wpAny_call (codeAny_mono (F.run A X.stack s H ⟨us, []⟩ us vs Q E hr e0 b r h) fun r s' hq => ?_)
  cases r with
  | error e => exact hx pins H s e s' I hq
  | ok fl =>
    cases fl with
    | ret u => exact I.after hq
    | next => exact False.elim hq
    | brk => exact False.elim hq
    | cont => exact False.elim hq
/-- an instance of the class at C -/
theorem inst_at {pins : List (Addr × Obj)} {σ : L2.St} {H : Hp} {s : Shared} {a dx : Addr} {fs : List (Str × V)} (I : Inv X pins σ H s) (ha : H a = some (.ins C dx fs)) : ∃ od, PySem.W.InstAt s.heap a (PySem.W.instObj C dx) C (some od) := by
  obtain ⟨mA, J, _⟩ := ins_get I.hok ha
  obtain ⟨od, J, _⟩ := J.look
  exact ⟨od, J⟩
theorem back_of {pins : List (Addr × Obj)} {σ : L2.St} {Q : VK} {v : Value} {s' : Shared} (h : EP X pins σ Q v s') : PySem.W.CmpBack (EP X pins σ Q) v s' := by
  obtain ⟨x, H', I', r, q⟩ := h
  have keep : EP X pins σ Q v s' := ⟨x, H', I', r, q⟩
  cases x with
  | non =>
    obtain rfl : v = Value.none := r
    exact keep
  | bl _ =>
    obtain rfl : v = Value.bool _ := r
    exact keep
  | int _ =>
    obtain ⟨t, rfl⟩ := r
    exact keep
  | str _ =>
    obtain ⟨t, rfl⟩ := r
    exact keep
  | byt _ =>
    obtain ⟨t, rfl⟩ := r
    exact keep
  | flt _ =>
    obtain ⟨t, rfl⟩ := r
    exact keep
  | ref _ =>
    obtain rfl : v = Value.ref _ := r
    exact keep
  | ty _ =>
    obtain rfl : v = Value.type _ := r
    exact keep

/-! ### a op b -/
structure OwnB (K : PySem.W.Frag) (C f : Addr) (op : Operator) : Prop where
  sf : PySem.W.selfFirst K C = true
  hs : PySem.W.findIn K (.ref C) (PySem.dunder op.info.2) = some (some (.ref f))
  hf : PySem.W.isFn K (.ref f) = true
  hr : PySem.W.findIn K (.ref C) (PySem.dunderR op.info.2) = some none
/-- .. an int on the right -/
structure OwnBI (K : PySem.W.Frag) (C : Addr) (op : Operator) : Prop where
  h1 : ∃ fo, PySem.W.findIn K (.type "int") (PySem.dunder op.info.2) = some fo
  h2 : ∃ ro, PySem.W.findIn K (.type "int") (PySem.dunderR op.info.2) = some ro
  sub : PySem.W.subIn K (.type "int") (.ref C) = some false
/-- by the left one's own method: an int or an instance of the same class on the right -/
def rOwnI (C : Addr) (sp : Sp) (E : XK) : R2 := fun x y H Q => ∃ a dx fs i, x = .ref a ∧ y = .int i ∧ H a = some (.ins C dx fs) ∧ sp [.ref a, .int i] H Q E
def rOwnC (C : Addr) (sp : Sp) (E : XK) : R2 := fun x y H Q => ∃ a b dx dy fs gs, x = .ref a ∧ y = .ref b ∧ H a = some (.ins C dx fs) ∧ H b = some (.ins C dy gs) ∧ sp [.ref a, .ref b] H Q E
theorem ownI {op : Operator} {pins : List (Addr × Obj)} {s : Shared} {σ : L2.St} {H : Hp} {x y : V} {v u : Value} {Q : VK} (O : OwnB X.K C f op) (OI : OwnBI X.K C op) (F : FnOk X.prog X.w X.K X.mg X.base CX k f fd ps sp) (hr : Room k X.A) (hb : Binds X.K fd ps []) (hx : PassesAt CX X σ E)
    (I : Inv X pins σ H s) (rx : RelV x v) (ry : RelV y u) (hq : rOwnI C sp E x y H Q) : wpAny (model X.prog X.w) X.A (binaryOp op v u) (EP X pins σ Q) X.xe s := by
  obtain ⟨a, dx, fs, i, rfl, rfl, ha, q⟩ := hq
  cases rx
  obtain ⟨t, rfl⟩ := ry
  obtain ⟨od, J⟩ := inst_at I ha
  obtain ⟨m, hF⟩ := I.fr
  obtain ⟨fo, h1⟩ := OI.h1
  obtain ⟨ro, h2⟩ := OI.h2
  exact PySem.W.ksp_binT (T := "int") hF I.ok.mod.kin J rfl O.sf O.hs O.hf O.hr (.inl rfl) h1 h2 OI.sub
    (thn (run_at (vs := [.ref a, .int i]) F hr rfl hb hx I (.cons rfl (.cons ⟨t, rfl⟩ .nil)) q) fun _ _ z => back_of z)
theorem ownC {op : Operator} {pins : List (Addr × Obj)} {s : Shared} {σ : L2.St} {H : Hp} {x y : V} {v u : Value} {Q : VK} (O : OwnB X.K C f op) (F : FnOk X.prog X.w X.K X.mg X.base CX k f fd ps sp) (hr : Room k X.A) (hb : Binds X.K fd ps []) (hx : PassesAt CX X σ E)
    (I : Inv X pins σ H s) (rx : RelV x v) (ry : RelV y u) (hq : rOwnC C sp E x y H Q) : wpAny (model X.prog X.w) X.A (binaryOp op v u) (EP X pins σ Q) X.xe s := by
  obtain ⟨a, b, dx, dy, fs, gs, rfl, rfl, ha, hb', q⟩ := hq
  cases rx
  cases ry
  obtain ⟨od, J⟩ := inst_at I ha
  obtain ⟨od', J'⟩ := inst_at I hb'
  obtain ⟨m, hF⟩ := I.fr
  exact PySem.W.binop_K hF I.ok.mod.kin J J'.type O.sf O.hs O.hf
    (thn (run_at (vs := [.ref a, .ref b]) F hr rfl hb hx I (.cons rfl (.cons rfl .nil)) q) fun _ _ z => back_of z)
theorem at_of_passes {σ : L2.St} (hx : Passes CX X E) : PassesAt CX X σ E := fun pins H s e s' I c => hx pins σ H s e s' I c
theorem op_ownI {op : Operator} (O : OwnB X.K C f op) (OI : OwnBI X.K C op) (F : FnOk X.prog X.w X.K X.mg X.base CX k f fd ps sp) (hr : Room k X.A) (hb : Binds X.K fd ps []) (hx : Passes CX X E) : OpR X (binaryOp op) (rOwnI C sp E) :=
  fun pins s σ H x y v u Q I rx ry hq => ownI O OI F hr hb (at_of_passes hx) I rx ry hq
theorem op_ownC {op : Operator} (O : OwnB X.K C f op) (F : FnOk X.prog X.w X.K X.mg X.base CX k f fd ps sp) (hr : Room k X.A) (hb : Binds X.K fd ps []) (hx : Passes CX X E) : OpR X (binaryOp op) (rOwnC C sp E) :=
  fun pins s σ H x y v u Q I rx ry hq => ownC O F hr hb (at_of_passes hx) I rx ry hq
/-- .. in a try's body -/
def tOpS (r : L2.St → R2) (ta tb : TE) : TE := fun σ H Q => ta σ H fun x H1 => tb σ H1 fun y H2 => r σ x y H2 Q
theorem pe_opCS {op : Operator} {a b : Expr} {pos : Pos} {ta tb : TE} {ES : L2.St → XK} (O : OwnB X.K C f op) (F : FnOk X.prog X.w X.K X.mg X.base CX k f fd ps sp) (hr : Room k X.A) (hb : Binds X.K fd ps []) (hx : ∀ σ, PassesAt CX X σ (ES σ)) (ha : PE X a ta) (hb2 : PE X b tb) :
    PE X (.BinOp a op b pos) (tOpS (fun σ => rOwnC C sp (ES σ)) ta tb) := by
  refine ⟨fun pins s σ H Q I h => ?_⟩
  exact (wpAny_BinOp (binT ha hb2 I (R := fun x y H2 => rOwnC C sp (ES σ) x y H2 Q) (by exact h) fun v u s1 x y H1 I1 r1 r2 q => ownC O F hr hb (hx σ) I1 r1 r2 q))
/-! ### x in o, x not in o -/
structure OwnM (K : PySem.W.Frag) (C f : Addr) (name : Str) : Prop where
  hs : PySem.W.findIn K (.ref C) name = some (some (.ref f))
  hf : PySem.W.isFn K (.ref f) = true
def rInOwn (C : Addr) (sp : Sp) (E : XK) (neg : Bool) : R2 := fun x y H Q => ∃ a dx fs, y = .ref a ∧ H a = some (.ins C dx fs) ∧ sp [.ref a, x] H (fun v H' => ∃ b, v = .bl b ∧ Q (.bl (if neg then !b else b)) H') E
theorem op_in_own (O : OwnM X.K C f "__contains__") (F : FnOk X.prog X.w X.K X.mg X.base CX k f fd ps sp) (hr : Room k X.A) (hb : Binds X.K fd ps []) (hx : Passes CX X E) : OpR X (compareOp .In) (rInOwn C sp E false) := by
  intro pins s σ H x y v u Q I rx ry hq
  obtain ⟨a, dx, fs, rfl, ha, q⟩ := hq
  cases ry
  obtain ⟨od, J⟩ := inst_at I ha
  obtain ⟨m, hF⟩ := I.fr
  refine PySem.W.in_K hF I.ok.mod.kin J O.hs O.hf (thn (run_at (vs := [.ref a, x]) F hr rfl hb (at_of_passes hx) I (.cons rfl (.cons rx .nil)) q) fun r s' z => ?_)
  obtain ⟨w', H', I', rw', b, rfl, q2⟩ := z
  cases rw'
  exact wpAny_truthy_bool ⟨.bl b, H', I', rfl, q2⟩
theorem op_notIn_own (O : OwnM X.K C f "__contains__") (F : FnOk X.prog X.w X.K X.mg X.base CX k f fd ps sp) (hr : Room k X.A) (hb : Binds X.K fd ps []) (hx : Passes CX X E) : OpR X (compareOp .NotIn) (rInOwn C sp E true) := by
  intro pins s σ H x y v u Q I rx ry hq
  obtain ⟨a, dx, fs, rfl, ha, q⟩ := hq
  cases ry
  obtain ⟨od, J⟩ := inst_at I ha
  obtain ⟨m, hF⟩ := I.fr
  refine PySem.W.notIn_K hF I.ok.mod.kin J O.hs O.hf (thn (run_at (vs := [.ref a, x]) F hr rfl hb (at_of_passes hx) I (.cons rfl (.cons rx .nil)) q) fun r s' z => ?_)
  obtain ⟨w', H', I', rw', b, rfl, q2⟩ := z
  cases rw'
  exact wpAny_truthy_bool ⟨.bl (!b), H', I', rfl, q2⟩
/-! ### a == b, a != b by the class's __eq__ (no __ne__ of its own) -/
structure OwnE (K : PySem.W.Frag) (C f : Addr) : Prop where
  hs : PySem.W.findIn K (.ref C) "__eq__" = some (some (.ref f))
  hf : PySem.W.isFn K (.ref f) = true
  hn : PySem.W.findIn K (.ref C) "__ne__" = some (some (.builtin "object.__ne__"))
  ob : PySem.W.mroIn K C (.type "object") = some true
def rEqOwn (C : Addr) (sp : Sp) (E : XK) (neg : Bool) : R2 := fun x y H Q => ∃ a b dx dy fs gs, x = .ref a ∧ y = .ref b ∧ H a = some (.ins C dx fs) ∧ H b = some (.ins C dy gs) ∧ sp [.ref a, .ref b] H (fun v H' => ∃ c, v = .bl c ∧ Q (.bl (if neg then !c else c)) H') E
theorem op_eq_own (O : OwnE X.K C f) (F : FnOk X.prog X.w X.K X.mg X.base CX k f fd ps sp) (hr : Room k X.A) (hb : Binds X.K fd ps []) (hx : Passes CX X E) : OpR X (compareOp .Eq) (rEqOwn C sp E false) := by
  intro pins s σ H x y v u Q I rx ry hq
  obtain ⟨a, b, dx, dy, fs, gs, rfl, rfl, ha, hb', q⟩ := hq
  cases rx
  cases ry
  obtain ⟨od, J⟩ := inst_at I ha
  obtain ⟨od', J'⟩ := inst_at I hb'
  obtain ⟨m, hF⟩ := I.fr
  refine PySem.W.cmp_K (op := .Eq) (tb := .ref C) hr.units0 hF I.ok.mod.kin J J'.type (by simp [PySem.W.notFirst]) O.hs O.hf ?_
  refine thn (run_at (vs := [.ref a, .ref b]) F hr rfl hb (at_of_passes hx) I (.cons rfl (.cons rfl .nil)) q) fun _ _ z => ?_
  obtain ⟨w', H', I', rw', c, rfl, q2⟩ := z
  cases rw'
  exact (⟨.bl c, H', I', rfl, q2⟩ : EP X pins σ Q (.bool c) _)
theorem objNe_entry {prog : Program} {w : World} {A : Around} {E : Value → Shared → Prop} {K : PySem.W.Frag} {x C f : Addr} {ox : Obj} {od : Option Obj} {b : Value} {s : Shared} {Q : PySem.Fin → Shared → Prop} (hu : A.units < cLine) (Xk : K.In s.heap) (I : PySem.W.InstAt s.heap x ox C od)
    (hs : PySem.W.findIn K (.ref C) "__eq__" = some (some (.ref f))) (hf : PySem.W.isFn K (.ref f) = true)
    (h : wpAny (model prog w) A (call (.ref f) [.ref x, b]) (fun v s' => ∃ c, v = .bool c ∧ Q (.done (.ret (.bool (!c)))) s') E s) :
    wpAny (model prog w) A (Builtin.«object.__ne__» ⟨[.ref x, b], []⟩) Q E s := by
  unfold Builtin.«object.__ne__»
  refine wpAny_bind (wpAny_of_eq (a := ((Value.ref x : Value), [b])) (by first | rfl | (simp only [Builtin.slotArgs]; rfl)) ?_)
  refine wpAny_bind (wpAny_cRoomFor hu ?_)
  refine wpAny_bind (PySem.W.ifBound_K Xk I hs hf (thn h fun v s' z => ?_))
  obtain ⟨c, rfl, q⟩ := z
  exact wpAny_bind (wpAny_truthy_bool (wpAny_pure q))
theorem cmp_ne {prog : Program} {w : World} {A : Around} {E : Value → Shared → Prop} {K : PySem.W.Frag} {x C f : Addr} {ox : Obj} {od : Option Obj} {b : Value} {s : Shared} {Q : Value → Shared → Prop} (hu : A.units + 1 < cLine) (Xk : K.In s.heap) (I : PySem.W.InstAt s.heap x ox C od)
    (hb : PySem.W.Looks (model prog w) s.heap (typeOf b) (.ref C)) (hn : PySem.W.findIn K (.ref C) "__ne__" = some (some (.builtin "object.__ne__"))) (ob : PySem.W.mroIn K C (.type "object") = some true)
    (hs : PySem.W.findIn K (.ref C) "__eq__" = some (some (.ref f))) (hf : PySem.W.isFn K (.ref f) = true)
    (h : wpAny (model prog w) A.in1 (call (.ref f) [.ref x, b]) (fun v s' => ∃ c, v = .bool c ∧ Q (.bool (!c)) s') E s) :
    wpAny (model prog w) A (richCompare .NotEq (.ref x) b) Q E s := by
  have sub : PySem.W.Looks (model prog w) s.heap (isInstance (.ref x) (.type "object")) true := I.type.andThen (PySem.W.looks_mroIn Xk ob)
  have callN : wpAny (model prog w) A (call (.builtin "object.__ne__") [.ref x, b]) (fun v s' => ∃ c, v = .bool c ∧ Q v s') E s := by
    refine wpAny_call (codeAny_call_builtin PySem.F.cmp_object.ne.plain PySem.F.cmpEntry_ne ?_)
    refine @PySem.W.check_slot (model prog w) _ _ s "object.__ne__" "object" "__ne__" (.ref x) [b] [] _ PySem.F.cmpKind_ne PySem.F.cmpSplit_ne sub (PySem.F.cmpArgs_ne _ _) ?_
    refine objNe_entry (A := A.in1) (by show A.units + 1 < cLine; exact hu) Xk I hs hf (thn h fun v s' z => ?_)
    obtain ⟨c, rfl, q⟩ := z
    exact ⟨c, rfl, ⟨!c, rfl, q⟩⟩
  have L1 := PySem.W.looks_findIn (M := model prog w) Xk hn
  have one : wpAny (model prog w) A (tryCompare (.ref x) "__ne__" b) (fun r s' => ∃ v, r = some v ∧ Q v s') E s := by
    unfold tryCompare
    refine wpAny_bind ?_
    simp only [callSpecialIfBound?, bindSpecialIfBound?]
    refine wpAny_holding (wpAny_bind (wpAny_bind (wpAny_bind (I.type.here (L1.here ?_)))))
    simp only [PySem.F.cmp_object.ne.bind]
    refine wpAny_bind (wpAny_askSetting (wpAny_ite ?_))
    have go : wpAny (model prog w) A (do
        let r ← call (.builtin "object.__ne__") ([.ref x] ++ [b])
        pure (some r)) (fun a s' => wpAny (model prog w) A (match a with
          | some Value.notImplemented => pure none
          | none => pure none
          | some v => pure (some v)) (fun r s' => ∃ v, r = some v ∧ Q v s') E s') E s := by
      refine wpAny_bind (thn callN fun v s' z => ?_)
      obtain ⟨c, rfl, q⟩ := z
      exact wpAny_pure (wpAny_pure ⟨_, rfl, q⟩)
    split
    · exact wpAny_bind (wpAny_pure (wpAny_pure (by exact go)))
    · refine wpAny_tryCatch ?_
      exact wpAny_bind (wpAny_pure (wpAny_pure (by exact go)))
  have hu0 : A.units < cLine := Nat.lt_of_succ_lt hu
  unfold richCompare
  simp only [oneThing_ref]
  refine wpAny_holding (wpAny_bind (wpAny_cRoomFor hu0 ?_))
  refine wpAny_bind (I.type.here (wpAny_bind (hb.here ?_)))
  split
  · rename_i q
    simp at q
  · refine wpAny_bind (wpAny_pure ?_)
    simp only [Bool.false_eq_true, if_false]
    refine wpAny_bind (wpAny_mono one (fun r s' z => ?_) fun _ _ e => e)
    obtain ⟨v, rfl, hq⟩ := z
    exact wpAny_pure hq
theorem op_ne_own (O : OwnE X.K C f) (F : FnOk X.prog X.w X.K X.mg X.base CX k f fd ps sp) (hr : Room (k + 1) X.A) (hb : Binds X.K fd ps []) (hx : Passes CX X E) : OpR X (compareOp .NotEq) (rEqOwn C sp E true) := by
  intro pins s σ H x y v u Q I rx ry hq
  obtain ⟨a, b, dx, dy, fs, gs, rfl, rfl, ha, hb', q⟩ := hq
  cases rx
  cases ry
  obtain ⟨od, J⟩ := inst_at I ha
  obtain ⟨od', J'⟩ := inst_at I hb'
  refine cmp_ne (by have := hr.units; omega) I.kIn J J'.type O.hn O.ob O.hs O.hf ?_
  refine thn (run_at (A := X.A.in1) (vs := [.ref a, .ref b]) F hr.in1 rfl hb (at_of_passes hx) I (.cons rfl (.cons rfl .nil)) q) fun _ _ z => ?_
  obtain ⟨w', H', I', rw', c, rfl, q2⟩ := z
  cases rw'
  exact ⟨c, rfl, (⟨.bl (!c), H', I', rfl, q2⟩ : EP X pins σ Q (.bool (!c)) _)⟩
/-! ### str(o) by the class's __str__ -/
def rStrOwn (C : Addr) (sp : Sp) (E : XK) : List V → Hp → VK → Prop := fun vs H Q => ∃ a dx fs, vs = [.ref a] ∧ H a = some (.ins C dx fs) ∧ sp [.ref a] H (fun v H' => ∃ z, v = .str z ∧ Q v H') E
theorem call_str_own (O : OwnM X.K C f "__str__") (F : FnOk X.prog X.w X.K X.mg X.base CX k f fd ps sp) (hr : Room (k + 2) X.A) (hb : Binds X.K fd ps []) (hx : Passes CX X E) : CallR X (.type "str") (rStrOwn C sp E) := by
  intro pins s σ H xs us Q I r hq
  obtain ⟨a, dx, fs, rfl, ha, q⟩ := hq
  cases r with
  | cons rx rr =>
    cases rr
    cases rx
    obtain ⟨od, J⟩ := inst_at I ha
    have hr2 : Room k X.A.in1.in1 := hr.in1.in1
    refine PySem.W.kso_call hr2.units0 I.kIn J O.hs O.hf ?_
    refine thn (run_at (A := X.A.in1.in1) (vs := [.ref a]) F hr2 rfl hb (at_of_passes hx) I (.cons rfl .nil) q) fun _ _ z => ?_
    obtain ⟨w', H', I', rw', z, rfl, q2⟩ := z
    obtain ⟨t, rfl⟩ := rw'
    exact (⟨.str z, H', I', ⟨t, rfl⟩, q2⟩ : EP X pins σ Q (.str z t) _)
/-! ### -o -/
def rNegOwn (C : Addr) (sp : Sp) (E : XK) : V → Hp → VK → Prop := fun x H Q => ∃ a dx fs, x = .ref a ∧ H a = some (.ins C dx fs) ∧ sp [.ref a] H Q E
theorem un_neg_own (O : OwnM X.K C f "__neg__") (F : FnOk X.prog X.w X.K X.mg X.base CX k f fd ps sp) (hr : Room k X.A) (hb : Binds X.K fd ps []) (hx : Passes CX X E) : UnR X (unaryOp .USub) (rNegOwn C sp E) := by
  intro pins s σ H x v Q I rx hq
  obtain ⟨a, dx, fs, rfl, ha, q⟩ := hq
  cases rx
  obtain ⟨od, J⟩ := inst_at I ha
  obtain ⟨m, hF⟩ := I.fr
  exact PySem.W.ksp_neg hF I.ok.mod.kin J O.hs O.hf (run_at (vs := [.ref a]) F hr rfl hb (at_of_passes hx) I (.cons rfl .nil) q)
end
end XR
/-! ### isinstance of a caught error that has a dict of its own -/
namespace XR
open PySem PySem.Spec PySem.Calls PyProof.Rows PySem.W
section
variable {prog : Program} {w : World} {A : Around} {E : Value → Shared → Prop} {s : Shared} {K : Frag} {x D : Addr} {ox od : Obj}
/-- what a class of errors must say, so that isinstance reads its instances rightly (L2.ExcC's facts) -/
abbrev Asks (K : Frag) (D : Addr) : Prop := L2.ExcC K D
theorem excD_class {Q : Option Value → Shared → Prop} (c : Asks K D) (X : K.In s.heap)
    (I : InstAt s.heap x ox D (some od)) (h : Q (some (.ref D)) { s with toks := s.toks + 1 }) :
    wpAny (model prog w) A (getAttr? (.ref x) "__class__") Q E s := by
  have isC : (clsIn K D).isSome = true := by
    obtain ⟨cd, hc, _⟩ := any_some c.hd
    rw [hc] <;> rfl
  have fnd := looks_find (M := model prog w) X I (findObj_data isC c.ha c.hn c.ht)
  obtain ⟨hp, g, d, t, os⟩ := s
  have lt := I.type (M := model prog w)
  have la := looks_findIn (M := model prog w) X c.hg
  have lb := looks_findIn (M := model prog w) X c.hk
  have isB : Looks (model prog w) hp (isInstance (.ref x) (.type "BaseException")) true :=
    lt.andThen (looks_subIn X c.hs)
  have z0 : (false && onTheHeap (Value.builtin "BaseException.__getattribute__")) = false := by
    rfl
  have z2 : (Value.builtin "BaseException.__getattribute__" ==
      Value.builtin "object.__getattribute__") = false := by decide +kernel
  have z1 : (onTheHeap (Value.ref D) && (Value.builtin "BaseException.__getattribute__" ==
      Value.builtin "object.__getattribute__")) = false := by rw [z2, Bool.and_false]
  unfold getAttr? getAttrBy? getAttrBy
  refine wpAny_bind (wpAny_mkText ?_)
  refine wpAny_bind (wpAny_attempt ?_)
  refine wpAny_holding (wpAny_bind (lt.at ?_))
  refine wpAny_bind (la.at ?_)
  show wpAny _ _ (if (onTheHeap (Value.ref D) && (Value.builtin "BaseException.__getattribute__" ==
    Value.builtin "object.__getattribute__")) = true then _ else _) _ _ _
  rw [z1, if_neg (by decide)]
  unfold getAttrByItsOwn hookBefore
  refine wpAny_bind ?_
  rw [if_pos (by rfl : onTheHeap (Value.ref D) = true)]
  refine lb.at (wpAny_bind (wpAny_attempt ?_))
  refine wpAny_holding ?_
  unfold callGetattribute
  rw [z0, if_neg (by decide)]
  unfold boundAndCalled
  rw [PySem.F.excAttr_ValueError.ga.bind]
  refine wpAny_bind (wpAny_pure ?_)
  show wpAny _ _ (call (.builtin "BaseException.__getattribute__")
    [.ref x, .str "__class__" t]) _ _ _
  refine wpAny_call (codeAny_call_builtin PySem.F.excAttr_ValueError.ga.plain
    PySem.F.entry_bexc_ga ?_)
  refine @check_slot (model prog w) _ _ ⟨hp, g, d, t + 1, os⟩ "BaseException.__getattribute__" "BaseException"
    "__getattribute__" (.ref x) [.str "__class__" t] [] _ (by decide +kernel) (by decide +kernel) isB
    (PySem.F.args_bexc_ga _ _) ?_
  unfold Builtin.«object.__getattribute__»
  refine wpAny_bind (wpAny_of_eq (a := ((Value.ref x : Value), [Value.str "__class__" t]))
    (by first | rfl | (simp only [Builtin.slotArgs] <;> rfl)) ?_)
  refine wpAny_bind (wpAny_pure ?_)
  refine wpAny_bind (lt.at (wpAny_bind (fnd.at ?_)))
  show wpAny _ _ (holding [Value.builtin "object.__class__"]
    (call (.builtin "getset_descriptor.__get__") [.builtin "object.__class__", .ref x, .ref D]) >>= ret) _ _ _
  refine wpAny_bind (wpAny_holding ?_)
  refine wpAny_call (class_get (s := ⟨hp, g, d, t + 1, os⟩) (ox := ox) (od := some od) X I c.hm ?_)
  refine wpAny_pure ?_
  show wpAny _ _ (handedOut (.ref D)) _ _ _
  rw [handedOut_of (v := .ref D) (by rfl)]
  first
    | exact wpAny_pure (wpAny_bind (wpAny_pure (wpAny_pure h)))
    | exact wpAny_pure (wpAny_pure h)
    | exact wpAny_pure h
theorem kit_excD (c : Asks K D) : KitX K (.ref x) (.ref D) (fun h => InstAt h x ox D (some od)) where
  ty := fun _ _ _ i => i.type
  it := fun m h X' i => by
    obtain ⟨cd, hc, _⟩ := any_some c.hd
    unfold clsIn at hc
    split at hc
    next c' d' cd' sl' ho =>
      intro A' Q' E' s' k q
      unfold isType loadHead
      refine wpAny_bind (wpAny_loadPart (k _ _ (X' _ _ ho)) ?_)
      exact wpAny_pure q
    next => cases hc
  ne := fun h tp dd its n sl X' htp => by
    obtain ⟨cd, hc, _⟩ := any_some c.hd
    refine Bool.eq_false_iff.mpr fun q => ?_
    obtain rfl : D = tp := Value.ref.inj (beq_iff_eq.mp q)
    unfold clsIn at hc
    split at hc
    next c' d' cd' sl' ho => cases (X' _ _ ho).symm.trans htp
    next => cases hc
  ca := fun X' i q => excD_class c X' i q
end
end XR
namespace XR
open PySem PySem.Spec PyProof.Rows L2
/-! ### a caught error, pinned: isinstance, fields -/
section
variable {X : Cx} {a : Addr} {oe : Obj} {cls : Value} {d : Option Addr}
theorem pinned_inst {pins : List (Addr × Obj)} {s : Shared} {σ : L2.St} {H : Hp} {D dd : Addr} {fs : List (Str × V)}
    (hp : (a, oe) ∈ X.pn) (hz : Zc (.ref D) (some dd) oe) (hf : ∃ vs, oe.data = .fields vs) (I : Inv X pins σ H s)
    (e : H dd = some (.xd fs)) : ∃ od, PySem.W.InstAt s.heap a oe D (some od) ∧ ∃ mA : Str → Option Value,
      (∀ n, PySem.W.lookIn n od = some (mA n)) ∧ ∀ n, RelO (fs.lookup n) (mA n) := by
  have at_ := (I.pin (a, oe) (List.mem_append_left _ hp)).1
  obtain ⟨vs, hv⟩ := hf
  have ok : ObjOk X.prog X.w H s.heap dd (.xd fs) := I.hok dd _ e
  obtain ⟨mA, hns, rel⟩ := ok
  obtain ⟨od, ho, hl⟩ := lookIn_ns hns
  refine ⟨od, ⟨at_, hz.1, ?_, ?_⟩, mA, hl, rel⟩
  · unfold PySem.W.notCls
    rw [hv] <;> rfl
  · rw [hz.2]
    exact ho
def rIsP (K : PySem.W.Frag) (cls : Value) (d : Option Addr) (a : Addr) : List V → Hp → VK → Prop := fun xs H Q =>
  ∃ (D dd : Addr) (fs : List (Str × V)) (c : V) (cv : Value) (b : Bool), cls = .ref D ∧ d = some dd ∧ H dd = some (.xd fs) ∧
    Asks K D ∧ xs = [.ref a, c] ∧ ClsV c cv ∧ PySem.W.kitOne K (.ref D) cv = some b ∧ Q (.bl b) H
def rIsPT (K : PySem.W.Frag) (cls : Value) (d : Option Addr) (a : Addr) : List V → Hp → VK → Prop := fun xs H Q =>
  ∃ (D dd tp : Addr) (fs : List (Str × V)) (cs : List V) (us : List Value) (b : Bool), cls = .ref D ∧ d = some dd ∧ H dd = some (.xd fs) ∧
    Asks K D ∧ xs = [.ref a, .ref tp] ∧ H tp = some (.tup cs) ∧ Paired ClsV cs us ∧ PySem.W.kitAny K (.ref D) us = some b ∧ Q (.bl b) H
theorem call_isP (hp : (a, oe) ∈ X.pn) (hz : Zc cls d oe) (hf : ∃ vs, oe.data = .fields vs) :
    CallR X (.builtin "isinstance") (rIsP X.K cls d a) := by
  intro pins s σ H xs us Q I r h
  obtain ⟨D, dd, fs, c, cv, b, rfl, rfl, e, as, rfl, kc, ek, q⟩ := h
  obtain ⟨u1, u2, rfl, r1, r2⟩ := vals2 r
  obtain rfl : u1 = Value.ref a := r1
  obtain rfl := kc.eq r2
  obtain ⟨od, J, _⟩ := pinned_inst hp hz hf I e
  exact PySem.W.kia_one (kit_excD as) I.kIn J ek (fun z => nomatch z) fun tk => ⟨.bl b, H, I.tok tk, rfl, q⟩
theorem call_isPT (hp : (a, oe) ∈ X.pn) (hz : Zc cls d oe) (hf : ∃ vs, oe.data = .fields vs) :
    CallR X (.builtin "isinstance") (rIsPT X.K cls d a) := by
  intro pins s σ H xs us Q I r h
  obtain ⟨D, dd, tp, fs, cs, ws, b, rfl, rfl, e, as, rfl, hT, kc, ek, q⟩ := h
  obtain ⟨u1, u2, rfl, r1, r2⟩ := vals2 r
  obtain rfl : u1 = Value.ref a := r1
  obtain rfl : u2 = Value.ref tp := r2
  obtain ⟨od, J, _⟩ := pinned_inst hp hz hf I e
  have okT : ObjOk X.prog X.w H s.heap tp (.tup cs) := I.hok tp _ hT
  obtain ⟨_, its, rv, ⟨oc, od2, dt, sl⟩, h1, h2, n, h3⟩ := okT
  dsimp only at h2 h3
  subst h2 h3
  obtain rfl := ClsV.all kc rv
  exact PySem.W.kia_tup (kit_excD as) I.kIn J h1 ek (fun z => nomatch z) fun tk => ⟨.bl b, H, I.tok tk, rfl, q⟩
/-- e.n, e the pinned error -/
def tPf (K : PySem.W.Frag) (a : Addr) (cls : Value) (d : Option Addr) (n : Str) (te : TE) : TE := fun σ H Q => te σ H fun x H1 =>
  ∃ (D dd : Addr) (fs : List (Str × V)) (v : V), x = .ref a ∧ cls = .ref D ∧ d = some dd ∧ H1 dd = some (.xd fs) ∧ XfC K D ∧
    PySem.W.findIn K (.ref D) n = some none ∧ fs.lookup n = some v ∧ Q v H1
theorem pe_pf {e : Expr} {te : TE} {pos : Pos} {n : Str} (hp : (a, oe) ∈ X.pn) (hz : Zc cls d oe) (hf : ∃ vs, oe.data = .fields vs) (he : PE X e te)
    (hb : attributeBase e n X.env (eval e X.env) = eval e X.env := by rfl) : PE X (.Attribute e n pos) (tPf X.K a cls d n te) := by
  refine ⟨fun pins s σ H Q I h => attr_of hb (thn (he.run pins s σ H _ I h) fun u s1 z => ?_)⟩
  obtain ⟨x, H1, I1, rx, D, dd, fs, v, rfl, rfl, rfl, ea, xf, hno, l, q⟩ := z
  obtain rfl : u = Value.ref a := rx
  obtain ⟨od, J, mA, hl, rel⟩ := pinned_inst hp hz hf I1 ea
  have rn := rel n
  rw [l] at rn
  obtain ⟨u, hu, ru⟩ := RelO.some_of rn
  refine HandSPX.exc_get I1.kIn J xf.ga xf.gg xf.exC (PySem.W.findObj_own xf.hdC hno rfl ?_) (handed_of ru) ⟨v, H1, I1.tok _, ru, q⟩
  rw [hl, hu]
end
/-! ### a def called while an error is handled: it raises nothing itself -/
abbrev SpQ := Addr × Obj → Sp
structure FnQ (P : Program) (w : World) (K : PySem.W.Frag) (mg : Str → Option Value) (base : Heap) (k : Nat) (f : Addr) (fd : FuncData) (ps : List Str) (sp : SpQ) : Prop where
  len : ∀ p vs H Q E, sp p vs H Q E → vs.length = ps.length
  run : ∀ (A : Around) (outer : List Env) (s : Shared) (H : Hp) (args : Args) (us : List Value) (vs : List V) (Q : VK) (p : Addr × Obj),
    L2H.RoomH k A → L2H.PinOk outer H s p → Env0 P w K mg base A outer s H → BindsTo s fd args (ps.zip us) → Vals vs us → sp p vs H Q E0 →
    codeAny (model P w) A (.call (.ref f) args) (CR CX0 outer P w H s Q E0) s
section
variable {P : Program} {w : World} {K : PySem.W.Frag} {mg : Str → Option Value} {base : Heap}
theorem okQ {x qual : Str} {st : Stmt} {f : Addr} {fd : FuncData} {N ps : List Str} {k : Nat} {sp : SpQ} (F : Fun K x qual st f fd) (S : FnScope N ps (defScope st))
    (len : ∀ p vs H Q E, sp p vs H Q E → vs.length = ps.length)
    (body : ∀ (cdv : Value) (A : Around) (outer : List Env) (s : Shared) (H : Hp) (vs : List V) (Q : VK) (p : Addr × Obj),
      L2H.RoomH k (A.deeper (envOfC qual (defScope st) s.heap.objs.size f cdv)) → sp p vs H Q E0 →
      ∃ t, PSs (L2H.cxH CX0 P w K mg base N qual (defScope st) f cdv A outer s H E0 p).nox (defBody st) t ∧
        t { nx := fun _ H' => Q .non H', rt := Q } (start N vs) H) : FnQ P w K mg base (k + 1) f fd ps sp := by
  obtain ⟨oc, od, kV, doc, pm, an, cdv, ct, osl, rfl, lk, hcd⟩ := F.ex
  refine ⟨len, fun A outer s H args us vs Q p hr pin e0 hb r hsp => ?_⟩
  have hl := len _ _ _ _ _ hsp
  have old : ∀ b o, base.get? b = some o → s.heap.get? b = some o := fun b o e => (e0.bs b o e).1
  have KX : K.In s.heap := e0.mod.kin.keeps old
  have lim : s.heap.NoLimit := e0.mod.nolimit.keeps old
  have kinds : ∀ y ∈ ps.zip us, (defScope st).names.lookup y.1 = some .local ∨
      ((defScope st).names.lookup y.1 = some .cell ∧ ((cellsFrom (s.heap.objs.size + 1) (defScope st).names []).lookup y.1).isSome = true) := by
    rintro ⟨n, v⟩ hy
    refine (S.par n (List.of_mem_zip hy).1).imp (fun q => q) fun q => ⟨q, ?_⟩
    exact PySem.W.cellsFrom_some _ _ _ (.inl q)
  refine codeAny_call_function hr.depth (KX _ _ lk) rfl S.co S.gen rfl (PySem.W.codeRec_of KX hcd) (hb _ _ _ _ ?_)
  refine wpAny_newFunctionEnv_cells S.kind kinds fun env he s1 x => ?_
  subst he
  refine ⟨lim.keeps x.toInCall.keep, codeAny_func ?_⟩
  obtain ⟨t, ht, hq⟩ := body cdv A outer s H vs Q p (hr.deeper _) hsp
  have I := L2H.inv_startH (CX := CX0) (E := E0) (cd := cdv) (qual := qual) S pin e0 hl r x
  have run := (PSs.nox ht).run [] s1 (start N vs) H _ I hq
  have out : ∀ {σ' : L2.St} {H' : Hp} {v : V} {u : Value} {s' : Shared},
      Inv (L2H.cxH CX0 P w K mg base N qual (defScope st) f cdv A outer s H E0 p) [] σ' H' s' → RelV v u → Q v H' → CE outer P w H s Q u s' :=
    fun J rv q => ⟨_, _, J.os, J.bare, J.base, J.hok, rv, q⟩
  refine wpAny_mono run (fun fl s' z => ?_) fun _ _ z => z
  cases fl with
  | next =>
    obtain ⟨σ', H', J, q⟩ := z
    exact out (v := V.non) (u := Value.none) J rfl q
  | ret u =>
    obtain ⟨v, σ', H', J, rv, q⟩ := z
    exact out J rv q
  | brk => exact z.elim fun _ y => y.elim fun _ y => y.2.elim
  | cont => exact z.elim fun _ y => y.elim fun _ y => y.2.elim
end
section
variable {X : Cx} {k : Nat} {f : Addr} {fd : FuncData} {ps : List Str} {sp : SpQ} {x : Str} {q pos : Pos} {e : Expr} {es : List Expr} {t : TA} {p : Addr × Obj}
def tCallQ (sp : Sp) (t : TA) : TE := fun σ H Q => t σ H fun vs H1 => sp vs H1 Q E0
theorem pe_callQ (F : FnQ X.prog X.w X.K X.mg X.base k f fd ps sp) (hr : L2H.RoomH k X.A) (hp : p ∈ X.pn) (hg : Gl X x) (hm : X.mg x = some (.ref f))
    (hk : PySem.W.keepIn X.K (.ref f) = true) (hb : Binds X.K fd ps []) (ha : PA X (e :: es) t) (hdb : (x == ("__debug__" : Str)) = false := by decide)
    (he : starEach (e :: es) X.env = (false, eval e X.env) :: starEach es X.env := by rfl) (hpl : (backTo pos (starEach es X.env)).any (·.1) = false := by rfl) :
    PE X (.Call (.Name x q) (e :: es) [] pos) (tCallQ (sp p) t) := by
  refine ⟨fun pins s σ H Q I h => wpAny_Call_Name_kw (ld_glob I hg hm ?_ hdb)⟩
  refine PySem.W.callWith_K (h₀ := X.base) I.ok.mod.kin hk (thn (ha.run pos pins s σ H _ I h) fun us s1 z => ?_) he hpl
  obtain ⟨vs, H1, I1, r, hsp⟩ := z
  refine ⟨I1.kIn, ?_⟩
  have hl : us.length = ps.length := r.length.symm.trans (F.len _ _ _ _ _ hsp)
  have b := hb s1 us I1.kIn (by rw [List.append_nil]; exact hl)
  rw [List.append_nil] at b
  obtain ⟨p1, p2, p3, p4, p5⟩ := I1.pin p (List.mem_append_left _ hp)
  have pin : L2H.PinOk X.stack H1 s1 p := ⟨p1, p2, fun hm => (List.mem_cons.mp (I1.stkSub p.1 hm)).elim p3 p4, p5⟩
  refine wpAny_call (codeAny_mono (F.run X.A X.stack s1 H1 ⟨us, []⟩ us vs Q p hr pin I1.env0 b r hsp) fun r s' z => ?_)
  cases r with
  | error e => exact z.elim
  | ok fl =>
    cases fl with
    | ret u => exact I1.after z
    | next => exact z.elim
    | brk => exact z.elim
    | cont => exact z.elim
end
end XR
namespace XR
open PySem PySem.Spec PyProof.Rows L2
/-! ### C(e, ..) where __init__ may raise, the wish told at the caller's slots -/
section
variable {X : Cx} {CX : CXT} {k : Nat} {C f : Addr} {fd : FuncData} {ps : List Str} {sp : Sp} {E : L2.St → XK} {x : Str} {p pos : Pos} {e : Expr} {es : List Expr} {t : TA}
def tMakeS (C : Addr) (sp : Sp) (E : L2.St → XK) (t : TA) : TE := fun σ H Q => t σ H fun vs H1 => ∀ x dx, H1 x = none → H1 dx = none → dx ≠ x →
  sp (.ref x :: vs) (upd (upd H1 dx (.own x)) x (.ins C dx [])) (fun v H2 => v = .non ∧ Q (.ref x) H2) (E σ)
theorem pe_makeS (M : Mk X.K C f) (F : FnOk X.prog X.w X.K X.mg X.base CX k f fd ps sp) (hr : Room (k + 1) X.A) (hg : Gl X x) (hm : X.mg x = some (.ref C)) (hb : Binds X.K fd ps [])
    (hx : ∀ σ, PassesAt CX X σ (E σ)) (ha : PA X (e :: es) t) (hdb : (x == ("__debug__" : Str)) = false := by decide)
    (he : starEach (e :: es) X.env = (false, eval e X.env) :: starEach es X.env := by rfl) (hpl : (backTo pos (starEach es X.env)).any (·.1) = false := by rfl) :
    PE X (.Call (.Name x p) (e :: es) [] pos) (tMakeS C sp E t) := by
  refine ⟨fun pins s σ H Q I h => wpAny_Call_Name_kw (ld_glob I hg hm ?_ hdb)⟩
  refine PySem.W.callWith_K (h₀ := X.base) I.ok.mod.kin M.kp (thn (ha.run pos pins s σ H _ I h) fun us s1 z => ?_) he hpl
  obtain ⟨vs, H1, I1, r, q⟩ := z
  refine ⟨I1.kIn, ?_⟩
  have fr := I1.hok.fresh (a := s1.heap.objs.size) (Nat.le_refl _)
  have fr1 := I1.hok.fresh (a := s1.heap.objs.size + 1) (Nat.le_add_right _ 1)
  have hsp := q (s1.heap.objs.size + 1) s1.heap.objs.size fr1 fr (Nat.ne_of_lt (Nat.lt_succ_self _))
  have I2 := Inv.made (C := C) I1
  have r2 : Vals (V.ref (s1.heap.objs.size + 1) :: vs) (Value.ref (s1.heap.objs.size + 1) :: us) := .cons rfl r
  have hl : (Value.ref (s1.heap.objs.size + 1) :: us).length = ps.length := r2.length.symm.trans (F.len _ _ _ _ hsp)
  have b := hb _ (Value.ref (s1.heap.objs.size + 1) :: us) I2.kIn (by rw [List.append_nil]; exact hl)
  rw [List.append_nil] at b
  have run := F.run _ X.stack _ _ ⟨Value.ref (s1.heap.objs.size + 1) :: us, []⟩ _ _ _ (E σ) (hr.make C us []) (I2.env0.make C us []) b r2 hsp
  refine wpAny_call (make_map (f := f) I1.kIn M.makes M.init (beq_iff_eq.mp M.fn) (codeAny_mono run fun r s' z => ?_))
  cases r with
  | error er => exact hx σ pins _ _ er s' I2 z
  | ok fl =>
    cases fl with
    | ret u =>
      obtain ⟨v, H', I3, rv, ev, q3⟩ := I2.after z
      subst ev
      exact ⟨rv, .ref (s1.heap.objs.size + 1), H', I3, rfl, q3⟩
    | next => exact z.elim
    | brk => exact z.elim
    | cont => exact z.elim
end
end XR
set_option Elab.async false
set_option linter.all false
set_option maxRecDepth 100000
set_option maxHeartbeats 4000000
/-! common lemmas: lists of ints, heaps with one object that changes, errors made and raised -/
namespace XR
open PySem PySem.Spec PyProof.Rows L2
theorem divw {i j : Int} (h : 0 < j) (h2 : j < 2 ^ 63) : CDivW i j := wide_div (b := 63) h (by omega) (by decide) (by decide)
theorem cmul_mod {i j : Int} (h : 0 < j ∧ j < 2 ^ 64) : -(2 ^ 64) < i % j ∧ i % j < 2 ^ 64 := ⟨by have := Int.emod_nonneg i (b := j) (by omega); omega, by have := Int.emod_lt_of_pos i h.1; omega⟩
theorem log_lt {i : Int} (h1 : -(10 ^ 40) < i) (h2 : i < 10 ^ 40) : i.natAbs.log2 < 1920 := by
  have h : i.natAbs < 10 ^ 40 := by omega
  have h3 : (10 : Nat) ^ 40 < 2 ^ 1920 := by decide +kernel
  by_cases z : i.natAbs = 0
  · rw [z]; decide
  · exact (Nat.log2_lt z).mpr (Nat.lt_trans h h3)
/-- a word at which the reading stops (two makers, so that no anonymous one fits) -/
inductive Stop (p : Prop) : Prop where
  | go (h : p)
  | too (h : p)
theorem Stop.out {p : Prop} : Stop p → p
  | .go h => h
  | .too h => h
/-- xs[:n] -/
theorem cutV_take (ns : List Int) (n : Nat) : cutV (ns.map V.int) none (some (n : Int)) = (ns.take n).map V.int := by
  unfold cutV
  have e0 : HT.sIx (ns.map V.int).length 0 none = 0 := rfl
  have e1 : HT.sIx (ns.map V.int).length (ns.map V.int).length (some (n : Int)) = min n (ns.map V.int).length := by
    unfold HT.sIx
    simp
    omega
  rw [e0, e1]
  simp [List.map_take]
theorem get_int {ms : List Int} {i : Nat} {x : V} (h : (ms.map V.int)[i]? = some x) : ∃ z, ms[i]? = some z ∧ x = .int z := by
  rw [List.getElem?_map] at h
  cases e : ms[i]? with
  | none => rw [e] at h; cases h
  | some z => rw [e] at h; exact ⟨z, rfl, (Option.some.inj h).symm⟩
theorem take_one {α : Type} {ms : List α} {i : Nat} {z : α} (h : ms[i]? = some z) : ms.take (i + 1) = ms.take i ++ [z] := by
  rw [List.take_succ, h] <;> rfl
theorem ne_fresh {H : Hp} {a b : Addr} {o : HO} (h : H b = none) (e : H a = some o) : a ≠ b := ne_of_none e h
theorem empty_app (x : Str) : Str.empty ++ x = x := by
  cases x with
  | mk a =>
    show (⟨#[] ++ a⟩ : Str) = ⟨a⟩
    simp
theorem max_if (a c : Int) : (if c > a then c else a) = max a c := by omega
theorem min_if (a c : Int) : (if c < a then c else a) = min a c := by omega
theorem at_ints {cs : List Int} {i : Int} (h0 : 0 ≤ i) (h : i < ((cs.map V.int).length : Nat)) : ∃ z, atI (cs.map V.int) i = some (.int z) := by
  have hl : i.toNat < cs.length := by rw [List.length_map] at h; omega
  refine ⟨cs[i.toNat], at_of (j := i.toNat) (by omega) ?_⟩
  rw [List.getElem?_map, List.getElem?_eq_getElem hl] <;> rfl
/-- the item at a drawn place of a written list -/
theorem at_lt {α : Type} {xs : List α} {i : Int} (h0 : 0 ≤ i) (h : i < (xs.length : Int)) : ∃ x, atI xs i = some x ∧ x ∈ xs := by
  have hl : i.toNat < xs.length := by omega
  refine ⟨xs[i.toNat], ?_, List.getElem_mem hl⟩
  have e := atI_nat (List.getElem?_eq_getElem hl)
  rw [show ((i.toNat : Nat) : Int) = i by omega] at e
  exact e
/-- all but b stands as it stood -/
def ExB (b : Addr) (H H' : Hp) : Prop := ∀ a o, a ≠ b → H a = some o → H' a = some o
theorem ExB.refl {b : Addr} {H : Hp} : ExB b H H := fun _ _ _ e => e
theorem ExB.trans {b : Addr} {H H1 H2 : Hp} (x : ExB b H H1) (y : ExB b H1 H2) : ExB b H H2 := fun a o n e => y a o n (x a o n e)
theorem ExB.same {b : Addr} {H H1 H2 : Hp} (x : ExB b H H1) (y : Same H1 H2) : ExB b H H2 := fun a o n e => y a o (x a o n e)
theorem ExB.of {b : Addr} {H H1 : Hp} (y : Same H H1) : ExB b H H1 := fun a o _ e => y a o e
theorem ExB.upd {b : Addr} {H H' : Hp} {o : HO} (x : ExB b H H') : ExB b H (upd H' b o) := fun a u ha e => by rw [upd_ne ha]; exact x a u ha e
theorem Same.new {H H' : Hp} {p : Addr} {o : HO} (x : Same H H') (h : H' p = none) : Same H (upd H' p o) := fun a u e => by
  have q := x a u e
  rw [upd_ne (ne_of_none q h)]
  exact q
theorem ExB.new {b : Addr} {H H' : Hp} {p : Addr} {o : HO} (x : ExB b H H') (h : H' p = none) : ExB b H (L2.upd H' p o) := fun a u n e => by
  have q := x a u n e
  rw [upd_ne (ne_of_none q h)]
  exact q
/-- nothing stands at p behind either -/
theorem none_back {H H' : Hp} {p : Addr} (x : Same H H') (h : H' p = none) : H p = none := Same.free x h
theorem none_backB {b : Addr} {H H' : Hp} {p : Addr} (x : ExB b H H') (n : p ≠ b) (h : H' p = none) : H p = none := by
  cases e : H p with
  | none => rfl
  | some o => rw [x p o n e] at h; cases h

theorem hot_of {A : Around} {k : Nat} {v : Option Value} (r : Room k A) : L2H.RoomH k (A.mark v) := ⟨r.dp, r.un⟩
/-! ### an error of the program with fields: made, raised -/
/-- what its __init__ leaves -/
def spEx (C : Addr) (fs : List V → Option (List (Str × V))) : Sp := fun vs H Q _ => ∃ (a : Addr) (ws : List V) (l : List (Str × V)), vs = .ref a :: ws ∧ fs ws = some l ∧
  H a = some (exo a C none) ∧ ∀ d H', H d = none → d ≠ a → H' a = some (exo a C (some d)) → H' d = some (exd d l) → (∀ q o, q ≠ a → H q = some o → H' q = some o) → Q .non H'
/-- the wish of what is raised: an error of the class at C with these fields, all else as it stood -/
def Wish (C : Addr) (l : List (Str × V)) (H : Hp) (E : Value → Option Addr → Hp → Prop) : Prop := ∀ d H', H' d = some (.xd l) → Same H H' → E (.ref C) (some d) H'
theorem mk_ex {C : Addr} {fs : List V → Option (List (Str × V))} {vs : List V} {l : List (Str × V)} {H : Hp} {E : XK} (hl : vs.length ≤ 1000) (hf : fs vs = some l) (k : Wish C l H E) :
    vs.length ≤ 1000 ∧ ∀ a, H a = none → spEx C fs (.ref a :: (vs ++ [])) (upd H a (exo a C none))
      (fun v H2 => v = .non ∧ ∃ (d : Addr) (g : List (Str × V)), H2 a = some (exo a C (some d)) ∧ H2 d = some (exd d g) ∧ H d = none ∧ E (.ref C) (some d) (upd (del H2 a) d (.xd g))) (fun _ _ _ => False) := by
  refine ⟨hl, fun a ha => ⟨a, vs, l, by rw [List.append_nil], hf, upd_same, fun d H' hd hda ea ed x => ⟨rfl, d, l, ea, ed, ?_, k d _ upd_same fun q o e => ?_⟩⟩⟩
  · rw [upd_ne hda] at hd
    exact hd
  · have hqa : q ≠ a := ne_of_none e ha
    have hqd : q ≠ d := fun z => by
      rw [upd_ne hda] at hd
      rw [z, hd] at e
      cases e
    rw [upd_ne hqd, del_ne hqa]
    refine x q o hqa ?_
    rw [upd_ne hqa]
    exact e
theorem init_ex1 {K : PySem.W.Frag} {C a : Addr} {f : Str} {v : V} {H : Hp} {Q : Hp → Prop} (oc : OexC K C) (hn : PySem.W.findIn K (.ref C) f = some none) (ha : H a = some (exo a C none))
    (k : ∀ d H', H d = none → d ≠ a → H' a = some (exo a C (some d)) → H' d = some (exd d [(f, v)]) → (∀ q o, q ≠ a → H q = some o → H' q = some o) → Q H') :
    ∃ a' C' : Addr, V.ref a = .ref a' ∧ OexC K C' ∧ PySem.W.findIn K (.ref C') f = some none ∧
      ((H a' = some (exo a' C' none) ∧ ∀ dx, H dx = none → dx ≠ a' → Q (upd (upd H dx (exd dx [(f, v)])) a' (exo a' C' (some dx)))) ∨
        ∃ (dx : Addr) (fs : List (Str × V)), H a' = some (exo a' C' (some dx)) ∧ H dx = some (exd dx fs) ∧ fs.length ≤ 900 ∧ Q (upd H dx (exd dx ((f, v) :: fs)))) := by
  refine ⟨a, C, rfl, oc, hn, .inl ⟨ha, fun dx hd hne => k dx _ hd hne upd_same (by rw [upd_ne hne]; exact upd_same) fun q o hq e => ?_⟩⟩
  rw [upd_ne hq, upd_ne (ne_of_none e hd)]
  exact e
theorem init_ex2 {K : PySem.W.Frag} {C a d : Addr} {f : Str} {v : V} {l : List (Str × V)} {H : Hp} {Q : Hp → Prop} (oc : OexC K C) (hn : PySem.W.findIn K (.ref C) f = some none) (hl : l.length ≤ 900)
    (ha : H a = some (exo a C (some d))) (hd : H d = some (exd d l)) (hda : d ≠ a)
    (k : ∀ H', H' a = some (exo a C (some d)) → H' d = some (exd d ((f, v) :: l)) → (∀ q o, q ≠ a → q ≠ d → H q = some o → H' q = some o) → Q H') :
    ∃ a' C' : Addr, V.ref a = .ref a' ∧ OexC K C' ∧ PySem.W.findIn K (.ref C') f = some none ∧
      ((H a' = some (exo a' C' none) ∧ ∀ dx, H dx = none → dx ≠ a' → Q (upd (upd H dx (exd dx [(f, v)])) a' (exo a' C' (some dx)))) ∨
        ∃ (dx : Addr) (fs : List (Str × V)), H a' = some (exo a' C' (some dx)) ∧ H dx = some (exd dx fs) ∧ fs.length ≤ 900 ∧ Q (upd H dx (exd dx ((f, v) :: fs)))) := by
  refine ⟨a, C, rfl, oc, hn, .inr ⟨d, l, ha, hd, hl, k _ (by rw [upd_ne hda.symm]; exact ha) upd_same fun q o _ hq e => by rw [upd_ne hq]; exact e⟩⟩
end XR
namespace XR
open PySem L2
theorem ifF {c : Bool} {P Q : Prop} (h : c = false) (k : Q) : if c = true then P else Q := by rw [h, if_neg (by decide)]; exact k
theorem ifT {c : Bool} {P Q : Prop} (h : c = true) (k : P) : if c = true then P else Q := by rw [if_pos h]; exact k
end XR
namespace XR
open PySem L2
section
variable {X : Cx} {a b : Addr} {oe : Obj} {cls : Value} {d : Option Addr} {pn : List (Addr × Obj)}
theorem call_isPs (hz : Zc cls d oe) (hf : ∃ vs, oe.data = .fields vs) : CallR (X.suite b ((a, oe) :: pn)) (.builtin "isinstance") (rIsP X.K cls d a) := call_isP List.mem_cons_self hz hf
theorem call_isPTs (hz : Zc cls d oe) (hf : ∃ vs, oe.data = .fields vs) : CallR (X.suite b ((a, oe) :: pn)) (.builtin "isinstance") (rIsPT X.K cls d a) := call_isPT List.mem_cons_self hz hf
theorem pe_pfs {e : Expr} {te : TE} {pos : Pos} {n : Str} (hz : Zc cls d oe) (hf : ∃ vs, oe.data = .fields vs) (he : PE (X.suite b ((a, oe) :: pn)) e te)
    (hb : attributeBase e n (X.suite b ((a, oe) :: pn)).env (eval e (X.suite b ((a, oe) :: pn)).env) = eval e (X.suite b ((a, oe) :: pn)).env := by rfl) : PE (X.suite b ((a, oe) :: pn)) (.Attribute e n pos) (tPf X.K a cls d n te) :=
  pe_pf List.mem_cons_self hz hf he hb
theorem pe_callQs {k : Nat} {f : Addr} {fd : FuncData} {ps : List Str} {sp : SpQ} {x : Str} {q pos : Pos} {e : Expr} {es : List Expr} {t : TA}
    (F : FnQ (X.suite b ((a, oe) :: pn)).prog (X.suite b ((a, oe) :: pn)).w (X.suite b ((a, oe) :: pn)).K (X.suite b ((a, oe) :: pn)).mg (X.suite b ((a, oe) :: pn)).base k f fd ps sp) (hr : L2H.RoomH k (X.suite b ((a, oe) :: pn)).A) (hg : Gl (X.suite b ((a, oe) :: pn)) x) (hm : (X.suite b ((a, oe) :: pn)).mg x = some (.ref f))
    (hk : PySem.W.keepIn (X.suite b ((a, oe) :: pn)).K (.ref f) = true) (hb : Binds (X.suite b ((a, oe) :: pn)).K fd ps []) (ha : PA (X.suite b ((a, oe) :: pn)) (e :: es) t) (hdb : (x == ("__debug__" : Str)) = false := by decide)
    (he : starEach (e :: es) (X.suite b ((a, oe) :: pn)).env = (false, eval e (X.suite b ((a, oe) :: pn)).env) :: starEach es (X.suite b ((a, oe) :: pn)).env := by rfl) (hpl : (backTo pos (starEach es (X.suite b ((a, oe) :: pn)).env)).any (·.1) = false := by rfl) :
    PE (X.suite b ((a, oe) :: pn)) (.Call (.Name x q) (e :: es) [] pos) (tCallQ (sp (a, oe)) t) := pe_callQ (p := (a, oe)) F hr List.mem_cons_self hg hm hk hb ha hdb he hpl
end
end XR
namespace XR
open PySem L2
theorem cong_ts {X : Cx} {ss : List Stmt} {t t' : TS} (h : PSs X ss t) (e : t = t') : PSs X ss t' := e ▸ h
end XR
namespace XR
open PySem L2
theorem kitAny_cons {K : PySem.W.Frag} {t c : Value} {r : List Value} (h : PySem.W.kitOne K t c = some false) (hr : PySem.W.kitAny K t r = some false) : PySem.W.kitAny K t (c :: r) = some false := by
  unfold PySem.W.kitAny
  rw [h]
  exact hr
theorem kitAny_4 {K : PySem.W.Frag} {t a b c d : Value} (h1 : PySem.W.kitOne K t a = some false) (h2 : PySem.W.kitOne K t b = some false) (h3 : PySem.W.kitOne K t c = some false) (h4 : PySem.W.kitOne K t d = some false) : PySem.W.kitAny K t [a, b, c, d] = some false :=
  kitAny_cons h1 (kitAny_cons h2 (kitAny_cons h3 (kitAny_cons h4 rfl)))
end XR
set_option Elab.async false
set_option linter.all false
set_option maxRecDepth 100000
set_option maxHeartbeats 4000000
namespace Toy
open PySem L2 XR
def top (i : Nat) : Stmt := PySem.Challenge.pw_fittingpasts_k16_stay_signs.main.body.getD i (.Pass ⟨0, 0, 0, 0⟩)
abbrev s__wall : Stmt := top 0
abbrev s_EmptyStay_init : Stmt := inClass (top 6) 0
abbrev s_NoCommonDay_init : Stmt := inClass (top 7) 0
abbrev s_Stay_init : Stmt := inClass (top 9) 0
abbrev s_Stay___eq__ : Stmt := inClass (top 9) 1
abbrev s_Stay___str__ : Stmt := inClass (top 9) 2
abbrev s_Stay___contains__ : Stmt := inClass (top 9) 3
abbrev s_Stay___add__ : Stmt := inClass (top 9) 4
abbrev s_Stay___sub__ : Stmt := inClass (top 9) 5
abbrev s_Stay___and__ : Stmt := inClass (top 9) 6
abbrev s_Stay___or__ : Stmt := inClass (top 9) 7
abbrev s_Stay_width : Stmt := inClass (top 9) 8
abbrev s_Stay_meets : Stmt := inClass (top 9) 9
abbrev s_Stay_within : Stmt := inClass (top 9) 10
abbrev s_Stay_crosses : Stmt := inClass (top 9) 11
abbrev s_Stay_parts_without : Stmt := inClass (top 9) 12
abbrev s_Stay_around : Stmt := inClass (top 9) 13
abbrev s__law_draws : Stmt := top 11
abbrev s__law_take : Stmt := top 12
abbrev s__law_far : Stmt := top 13
abbrev s__law_number : Stmt := top 14
abbrev s__law_first : Stmt := top 15
abbrev s__law_near : Stmt := top 16
abbrev s__law_many : Stmt := top 17
abbrev s__law_is : Stmt := top 18
abbrev s__law_has : Stmt := top 19
abbrev s__law_moved : Stmt := top 20
abbrev s__law_apart : Stmt := top 21
abbrev s__law_joined : Stmt := top 22
abbrev s__law_alike : Stmt := top 23
abbrev s__law_empty : Stmt := top 24
abbrev s__law_caught : Stmt := top 25
abbrev s_law : Stmt := top 26
/-- where the defs and classes of the text stand -/
structure Ad where
  a_EmptyStay_init : Addr
  d_EmptyStay_init : FuncData
  a_NoCommonDay_init : Addr
  d_NoCommonDay_init : FuncData
  a_Stay_init : Addr
  d_Stay_init : FuncData
  a_Stay___eq__ : Addr
  d_Stay___eq__ : FuncData
  a_Stay___str__ : Addr
  d_Stay___str__ : FuncData
  a_Stay___contains__ : Addr
  d_Stay___contains__ : FuncData
  a_Stay___add__ : Addr
  d_Stay___add__ : FuncData
  a_Stay___sub__ : Addr
  d_Stay___sub__ : FuncData
  a_Stay___and__ : Addr
  d_Stay___and__ : FuncData
  a_Stay___or__ : Addr
  d_Stay___or__ : FuncData
  a_Stay_width : Addr
  d_Stay_width : FuncData
  a__law_draws : Addr
  d__law_draws : FuncData
  a__law_take : Addr
  d__law_take : FuncData
  a__law_far : Addr
  d__law_far : FuncData
  a__law_number : Addr
  d__law_number : FuncData
  a__law_first : Addr
  d__law_first : FuncData
  a__law_near : Addr
  d__law_near : FuncData
  a__law_many : Addr
  d__law_many : FuncData
  a__law_is : Addr
  d__law_is : FuncData
  a__law_has : Addr
  d__law_has : FuncData
  a__law_moved : Addr
  d__law_moved : FuncData
  a__law_apart : Addr
  d__law_apart : FuncData
  a__law_joined : Addr
  d__law_joined : FuncData
  a__law_alike : Addr
  d__law_alike : FuncData
  a__law_empty : Addr
  d__law_empty : FuncData
  a__law_caught : Addr
  d__law_caught : FuncData
  a_law : Addr
  d_law : FuncData
  c_ArchiveError : Addr
  c_UnknownError : Addr
  c_TextError : Addr
  c_ImpossibleError : Addr
  c_EmptyStay : Addr
  c_NoCommonDay : Addr
  c_Stay : Addr
  p_Stay_width : Addr
structure Txt (K : PySem.W.Frag) (mg : Str → Option Value) (D : Ad) : Prop where
  F_EmptyStay_init : Fun K "__init__" "EmptyStay.__init__" s_EmptyStay_init D.a_EmptyStay_init D.d_EmptyStay_init
  b_EmptyStay_init : Binds K D.d_EmptyStay_init ["self", "come", "go"] []
  m_EmptyStay_init : PySem.W.findIn K (.ref D.c_EmptyStay) "__init__" = some (some (.ref D.a_EmptyStay_init))
  i_EmptyStay_init : PySem.W.isFn K (.ref D.a_EmptyStay_init) = true
  F_NoCommonDay_init : Fun K "__init__" "NoCommonDay.__init__" s_NoCommonDay_init D.a_NoCommonDay_init D.d_NoCommonDay_init
  b_NoCommonDay_init : Binds K D.d_NoCommonDay_init ["self", "gap"] []
  m_NoCommonDay_init : PySem.W.findIn K (.ref D.c_NoCommonDay) "__init__" = some (some (.ref D.a_NoCommonDay_init))
  i_NoCommonDay_init : PySem.W.isFn K (.ref D.a_NoCommonDay_init) = true
  F_Stay_init : Fun K "__init__" "Stay.__init__" s_Stay_init D.a_Stay_init D.d_Stay_init
  b_Stay_init : Binds K D.d_Stay_init ["self", "come", "go"] []
  m_Stay_init : PySem.W.findIn K (.ref D.c_Stay) "__init__" = some (some (.ref D.a_Stay_init))
  i_Stay_init : PySem.W.isFn K (.ref D.a_Stay_init) = true
  F_Stay___eq__ : Fun K "__eq__" "Stay.__eq__" s_Stay___eq__ D.a_Stay___eq__ D.d_Stay___eq__
  b_Stay___eq__ : Binds K D.d_Stay___eq__ ["self", "other"] []
  m_Stay___eq__ : PySem.W.findIn K (.ref D.c_Stay) "__eq__" = some (some (.ref D.a_Stay___eq__))
  i_Stay___eq__ : PySem.W.isFn K (.ref D.a_Stay___eq__) = true
  F_Stay___str__ : Fun K "__str__" "Stay.__str__" s_Stay___str__ D.a_Stay___str__ D.d_Stay___str__
  b_Stay___str__ : Binds K D.d_Stay___str__ ["self"] []
  m_Stay___str__ : PySem.W.findIn K (.ref D.c_Stay) "__str__" = some (some (.ref D.a_Stay___str__))
  i_Stay___str__ : PySem.W.isFn K (.ref D.a_Stay___str__) = true
  F_Stay___contains__ : Fun K "__contains__" "Stay.__contains__" s_Stay___contains__ D.a_Stay___contains__ D.d_Stay___contains__
  b_Stay___contains__ : Binds K D.d_Stay___contains__ ["self", "day"] []
  m_Stay___contains__ : PySem.W.findIn K (.ref D.c_Stay) "__contains__" = some (some (.ref D.a_Stay___contains__))
  i_Stay___contains__ : PySem.W.isFn K (.ref D.a_Stay___contains__) = true
  F_Stay___add__ : Fun K "__add__" "Stay.__add__" s_Stay___add__ D.a_Stay___add__ D.d_Stay___add__
  b_Stay___add__ : Binds K D.d_Stay___add__ ["self", "many"] []
  m_Stay___add__ : PySem.W.findIn K (.ref D.c_Stay) "__add__" = some (some (.ref D.a_Stay___add__))
  i_Stay___add__ : PySem.W.isFn K (.ref D.a_Stay___add__) = true
  F_Stay___sub__ : Fun K "__sub__" "Stay.__sub__" s_Stay___sub__ D.a_Stay___sub__ D.d_Stay___sub__
  b_Stay___sub__ : Binds K D.d_Stay___sub__ ["self", "many"] []
  m_Stay___sub__ : PySem.W.findIn K (.ref D.c_Stay) "__sub__" = some (some (.ref D.a_Stay___sub__))
  i_Stay___sub__ : PySem.W.isFn K (.ref D.a_Stay___sub__) = true
  F_Stay___and__ : Fun K "__and__" "Stay.__and__" s_Stay___and__ D.a_Stay___and__ D.d_Stay___and__
  b_Stay___and__ : Binds K D.d_Stay___and__ ["self", "other"] []
  m_Stay___and__ : PySem.W.findIn K (.ref D.c_Stay) "__and__" = some (some (.ref D.a_Stay___and__))
  i_Stay___and__ : PySem.W.isFn K (.ref D.a_Stay___and__) = true
  F_Stay___or__ : Fun K "__or__" "Stay.__or__" s_Stay___or__ D.a_Stay___or__ D.d_Stay___or__
  b_Stay___or__ : Binds K D.d_Stay___or__ ["self", "other"] []
  m_Stay___or__ : PySem.W.findIn K (.ref D.c_Stay) "__or__" = some (some (.ref D.a_Stay___or__))
  i_Stay___or__ : PySem.W.isFn K (.ref D.a_Stay___or__) = true
  F_Stay_width : Fun K "width" "Stay.width" s_Stay_width D.a_Stay_width D.d_Stay_width
  b_Stay_width : Binds K D.d_Stay_width ["self"] []
  pa_Stay_width : PySem.W.findIn K (.ref D.c_Stay) "width" = some (some (.ref D.p_Stay_width))
  pg_Stay_width : PySem.W.specialIn K (.ref D.p_Stay_width) "__get__" = some (some (.builtin "property.__get__"))
  pt_Stay_width : PySem.W.takesIn K (.ref D.p_Stay_width) = some true
  pr_Stay_width : ∃ rest, PySem.W.recIn K D.p_Stay_width "property" = some (.ref D.a_Stay_width :: rest)
  F__law_draws : Fun K "_law_draws" "_law_draws" s__law_draws D.a__law_draws D.d__law_draws
  b__law_draws : Binds K D.d__law_draws ["_law_script"] []
  g__law_draws : mg "_law_draws" = some (.ref D.a__law_draws)
  F__law_take : Fun K "_law_take" "_law_take" s__law_take D.a__law_take D.d__law_take
  b__law_take : Binds K D.d__law_take ["_law_box", "_law_limit"] []
  g__law_take : mg "_law_take" = some (.ref D.a__law_take)
  F__law_far : Fun K "_law_far" "_law_far" s__law_far D.a__law_far D.d__law_far
  b__law_far : Binds K D.d__law_far ["_law_box"] []
  g__law_far : mg "_law_far" = some (.ref D.a__law_far)
  F__law_number : Fun K "_law_number" "_law_number" s__law_number D.a__law_number D.d__law_number
  b__law_number : Binds K D.d__law_number ["_law_actual", "_law_due"] []
  g__law_number : mg "_law_number" = some (.ref D.a__law_number)
  F__law_first : Fun K "_law_first" "_law_first" s__law_first D.a__law_first D.d__law_first
  b__law_first : Binds K D.d__law_first ["_law_box"] []
  g__law_first : mg "_law_first" = some (.ref D.a__law_first)
  F__law_near : Fun K "_law_near" "_law_near" s__law_near D.a__law_near D.d__law_near
  b__law_near : Binds K D.d__law_near ["_law_box", "_law_first_here"] []
  g__law_near : mg "_law_near" = some (.ref D.a__law_near)
  F__law_many : Fun K "_law_many" "_law_many" s__law_many D.a__law_many D.d__law_many
  b__law_many : Binds K D.d__law_many ["_law_box"] []
  g__law_many : mg "_law_many" = some (.ref D.a__law_many)
  F__law_is : Fun K "_law_is" "_law_is" s__law_is D.a__law_is D.d__law_is
  b__law_is : Binds K D.d__law_is ["_law_stay", "_law_days"] []
  g__law_is : mg "_law_is" = some (.ref D.a__law_is)
  F__law_has : Fun K "_law_has" "_law_has" s__law_has D.a__law_has D.d__law_has
  b__law_has : Binds K D.d__law_has ["_law_stay", "_law_days", "_law_other"] []
  g__law_has : mg "_law_has" = some (.ref D.a__law_has)
  F__law_moved : Fun K "_law_moved" "_law_moved" s__law_moved D.a__law_moved D.d__law_moved
  b__law_moved : Binds K D.d__law_moved ["_law_stay", "_law_days", "_law_many_here"] []
  g__law_moved : mg "_law_moved" = some (.ref D.a__law_moved)
  F__law_apart : Fun K "_law_apart" "_law_apart" s__law_apart D.a__law_apart D.d__law_apart
  b__law_apart : Binds K D.d__law_apart ["_law_one", "_law_two", "_law_gap"] []
  g__law_apart : mg "_law_apart" = some (.ref D.a__law_apart)
  F__law_joined : Fun K "_law_joined" "_law_joined" s__law_joined D.a__law_joined D.d__law_joined
  b__law_joined : Binds K D.d__law_joined ["_law_one", "_law_two", "_law_first_here", "_law_second"] []
  g__law_joined : mg "_law_joined" = some (.ref D.a__law_joined)
  F__law_alike : Fun K "_law_alike" "_law_alike" s__law_alike D.a__law_alike D.d__law_alike
  b__law_alike : Binds K D.d__law_alike ["_law_one", "_law_two", "_law_first_here", "_law_second"] []
  g__law_alike : mg "_law_alike" = some (.ref D.a__law_alike)
  F__law_empty : Fun K "_law_empty" "_law_empty" s__law_empty D.a__law_empty D.d__law_empty
  b__law_empty : Binds K D.d__law_empty ["_law_come", "_law_go"] []
  g__law_empty : mg "_law_empty" = some (.ref D.a__law_empty)
  F__law_caught : Fun K "_law_caught" "_law_caught" s__law_caught D.a__law_caught D.d__law_caught
  b__law_caught : Binds K D.d__law_caught ["_law_come", "_law_go"] []
  g__law_caught : mg "_law_caught" = some (.ref D.a__law_caught)
  F_law : Fun K "law" "law" s_law D.a_law D.d_law
  b_law : Binds K D.d_law ["_law_script"] []
  g_law : mg "law" = some (.ref D.a_law)
  g_ArchiveError : mg "ArchiveError" = some (.ref D.c_ArchiveError)
  k_ArchiveError : PySem.W.keepIn K (.ref D.c_ArchiveError) = true
  g_UnknownError : mg "UnknownError" = some (.ref D.c_UnknownError)
  k_UnknownError : PySem.W.keepIn K (.ref D.c_UnknownError) = true
  g_TextError : mg "TextError" = some (.ref D.c_TextError)
  k_TextError : PySem.W.keepIn K (.ref D.c_TextError) = true
  g_ImpossibleError : mg "ImpossibleError" = some (.ref D.c_ImpossibleError)
  k_ImpossibleError : PySem.W.keepIn K (.ref D.c_ImpossibleError) = true
  g_EmptyStay : mg "EmptyStay" = some (.ref D.c_EmptyStay)
  k_EmptyStay : PySem.W.keepIn K (.ref D.c_EmptyStay) = true
  g_NoCommonDay : mg "NoCommonDay" = some (.ref D.c_NoCommonDay)
  k_NoCommonDay : PySem.W.keepIn K (.ref D.c_NoCommonDay) = true
  g_Stay : mg "Stay" = some (.ref D.c_Stay)
  k_Stay : PySem.W.keepIn K (.ref D.c_Stay) = true
  n_ValueError : mg "ValueError" = none
  n_bool : mg "bool" = none
  n_int : mg "int" = none
  n_isinstance : mg "isinstance" = none
  n_len : mg "len" = none
  n_max : mg "max" = none
  n_min : mg "min" = none
  n_str : mg "str" = none
  oxl_EmptyStay : ∃ nm q N bs bm sn sub ab col dd k0 k1 k2 k3 k5, K.lookup D.c_EmptyStay = some (excClassObj nm q D.c_EmptyStay N bs bm true sn sub ab col dd k0 k1 k2 k3 k5 "ValueError.__new__") ∧ PySem.HandSPX.refsVE bm = true
  xsa_EmptyStay : PySem.W.findIn K (.ref D.c_EmptyStay) "__setattr__" = some (some (.builtin "object.__setattr__"))
  xga_EmptyStay : PySem.W.findIn K (.ref D.c_EmptyStay) "__getattribute__" = some (some (.builtin "BaseException.__getattribute__"))
  xgg_EmptyStay : PySem.W.findIn K (.ref D.c_EmptyStay) "__getattr__" = some none
  xbe_EmptyStay : PySem.W.subIn K (.ref D.c_EmptyStay) (.type "BaseException") = some true
  xty_EmptyStay : PySem.W.typeIn K (.ref D.c_EmptyStay) = some (.type "type")
  xhd_EmptyStay : PySem.W.hasDictIn K D.c_EmptyStay = true
  xca_EmptyStay : PySem.W.findIn K (.ref D.c_EmptyStay) "__class__" = some (some (.builtin "object.__class__"))
  xmo_EmptyStay : PySem.W.mroIn K D.c_EmptyStay (.type "object") = some true
  xti_EmptyStay : PySem.W.typeIn K (.ref D.a_EmptyStay_init) = some (.type "function")
  oxl_NoCommonDay : ∃ nm q N bs bm sn sub ab col dd k0 k1 k2 k3 k5, K.lookup D.c_NoCommonDay = some (excClassObj nm q D.c_NoCommonDay N bs bm true sn sub ab col dd k0 k1 k2 k3 k5 "ValueError.__new__") ∧ PySem.HandSPX.refsVE bm = true
  xsa_NoCommonDay : PySem.W.findIn K (.ref D.c_NoCommonDay) "__setattr__" = some (some (.builtin "object.__setattr__"))
  xga_NoCommonDay : PySem.W.findIn K (.ref D.c_NoCommonDay) "__getattribute__" = some (some (.builtin "BaseException.__getattribute__"))
  xgg_NoCommonDay : PySem.W.findIn K (.ref D.c_NoCommonDay) "__getattr__" = some none
  xbe_NoCommonDay : PySem.W.subIn K (.ref D.c_NoCommonDay) (.type "BaseException") = some true
  xty_NoCommonDay : PySem.W.typeIn K (.ref D.c_NoCommonDay) = some (.type "type")
  xhd_NoCommonDay : PySem.W.hasDictIn K D.c_NoCommonDay = true
  xca_NoCommonDay : PySem.W.findIn K (.ref D.c_NoCommonDay) "__class__" = some (some (.builtin "object.__class__"))
  xmo_NoCommonDay : PySem.W.mroIn K D.c_NoCommonDay (.type "object") = some true
  xti_NoCommonDay : PySem.W.typeIn K (.ref D.a_NoCommonDay_init) = some (.type "function")
  cn_ : PySem.W.specialIn K (.builtin "object.__class__") "__get__" = some (some (.builtin "getset_descriptor.__get__"))
  ct_ : PySem.W.takesIn K (.builtin "object.__class__") = some true
  ymk_Stay : PySem.W.makesIn K D.c_Stay = true
  ypg_Stay : PySem.W.plainGet K D.c_Stay Str.empty = true
  yhd_Stay : PySem.W.hasDictIn K D.c_Stay = true
  ypo_Stay : PySem.W.plainOver K D.c_Stay = true
  ysa_Stay : PySem.W.findIn K (.ref D.c_Stay) "__setattr__" = some (some (.builtin "object.__setattr__"))
  ysf_Stay : PySem.W.selfFirst K D.c_Stay = true
  yca_Stay : PySem.W.findIn K (.ref D.c_Stay) "__class__" = some (some (.builtin "object.__class__"))
  ymo_Stay : PySem.W.mroIn K D.c_Stay (.type "object") = some true
  no_come : PySem.W.findIn K (.ref D.c_Stay) "come" = some none
  no_go : PySem.W.findIn K (.ref D.c_Stay) "go" = some none
  e_come : PySem.W.findIn K (.ref D.c_EmptyStay) "come" = some none
  e_go : PySem.W.findIn K (.ref D.c_EmptyStay) "go" = some none
  e_gap : PySem.W.findIn K (.ref D.c_NoCommonDay) "gap" = some none
  ne_ : PySem.W.findIn K (.ref D.c_Stay) "__ne__" = some (some (.builtin "object.__ne__"))
  h_add : PySem.W.findIn K (.ref D.c_Stay) (PySem.dunder Operator.Add.info.2) = some (some (.ref D.a_Stay___add__))
  h_sub : PySem.W.findIn K (.ref D.c_Stay) (PySem.dunder Operator.Sub.info.2) = some (some (.ref D.a_Stay___sub__))
  h_and : PySem.W.findIn K (.ref D.c_Stay) (PySem.dunder Operator.BitAnd.info.2) = some (some (.ref D.a_Stay___and__))
  h_or : PySem.W.findIn K (.ref D.c_Stay) (PySem.dunder Operator.BitOr.info.2) = some (some (.ref D.a_Stay___or__))
  r_add : PySem.W.findIn K (.ref D.c_Stay) (PySem.dunderR Operator.Add.info.2) = some none
  r_sub : PySem.W.findIn K (.ref D.c_Stay) (PySem.dunderR Operator.Sub.info.2) = some none
  r_and : PySem.W.findIn K (.ref D.c_Stay) (PySem.dunderR Operator.BitAnd.info.2) = some none
  r_or : PySem.W.findIn K (.ref D.c_Stay) (PySem.dunderR Operator.BitOr.info.2) = some none
  i_add : ∃ (fo : Option Value), PySem.W.findIn K (.type "int") (PySem.dunder Operator.Add.info.2) = some fo
  j_add : ∃ (fo : Option Value), PySem.W.findIn K (.type "int") (PySem.dunderR Operator.Add.info.2) = some fo
  i_sub : ∃ (fo : Option Value), PySem.W.findIn K (.type "int") (PySem.dunder Operator.Sub.info.2) = some fo
  j_sub : ∃ (fo : Option Value), PySem.W.findIn K (.type "int") (PySem.dunderR Operator.Sub.info.2) = some fo
  s_int : PySem.W.subIn K (.type "int") (.ref D.c_Stay) = some false
  z_Stay : PySem.W.kitOne K (.ref D.c_Stay) (.ref D.c_Stay) = some true
  z_eU : PySem.W.kitOne K (.ref D.c_EmptyStay) (.ref D.c_UnknownError) = some false
  z_eT : PySem.W.kitOne K (.ref D.c_EmptyStay) (.ref D.c_TextError) = some false
  z_eI : PySem.W.kitOne K (.ref D.c_EmptyStay) (.ref D.c_ImpossibleError) = some false
  z_eN : PySem.W.kitOne K (.ref D.c_EmptyStay) (.ref D.c_NoCommonDay) = some false
  z_eA : PySem.W.kitOne K (.ref D.c_EmptyStay) (.ref D.c_ArchiveError) = some true
  z_eV : PySem.W.kitOne K (.ref D.c_EmptyStay) (.type "ValueError") = some true
  z_eE : PySem.W.kitOne K (.ref D.c_EmptyStay) (.ref D.c_EmptyStay) = some true
  z_nU : PySem.W.kitOne K (.ref D.c_NoCommonDay) (.ref D.c_UnknownError) = some false
  z_nT : PySem.W.kitOne K (.ref D.c_NoCommonDay) (.ref D.c_TextError) = some false
  z_nI : PySem.W.kitOne K (.ref D.c_NoCommonDay) (.ref D.c_ImpossibleError) = some false
  z_nE : PySem.W.kitOne K (.ref D.c_NoCommonDay) (.ref D.c_EmptyStay) = some false
  z_nA : PySem.W.kitOne K (.ref D.c_NoCommonDay) (.ref D.c_ArchiveError) = some true
  z_nV : PySem.W.kitOne K (.ref D.c_NoCommonDay) (.type "ValueError") = some true
  m_ee : PySem.W.exmOne K (.ref D.c_EmptyStay) (.ref D.c_EmptyStay) = some true
  m_ea : PySem.W.exmOne K (.ref D.c_EmptyStay) (.ref D.c_ArchiveError) = some true
  m_nn : PySem.W.exmOne K (.ref D.c_NoCommonDay) (.ref D.c_NoCommonDay) = some true
section
variable {K : PySem.W.Frag} {mg : Str → Option Value} {D : Ad}
theorem T_cl_Stay (T : Txt K mg D) : Cls K D.c_Stay := ⟨T.ypg_Stay, T.yhd_Stay, T.ypo_Stay, T.ysa_Stay⟩
theorem T_mk_Stay (T : Txt K mg D) : Mk K D.c_Stay D.a_Stay_init := ⟨T.ymk_Stay, T.m_Stay_init, T.i_Stay_init, T.k_Stay⟩
theorem T_ty_Stay (T : Txt K mg D) {H : Hp} {a dx : Addr} {fs : List (Str × V)} (e : H a = some (.ins D.c_Stay dx fs)) : TyX K H (.ref a) (.ref D.c_Stay) := .base (.ins e (T_cl_Stay T) T.yca_Stay T.cn_ T.ct_ T.ymo_Stay)
theorem T_ox_EmptyStay (T : Txt K mg D) : OexC K D.c_EmptyStay := ⟨T.oxl_EmptyStay, T.xsa_EmptyStay, T.xbe_EmptyStay, T.xty_EmptyStay, T.k_EmptyStay⟩
theorem T_as_EmptyStay (T : Txt K mg D) : XR.Asks K D.c_EmptyStay := ⟨T.xga_EmptyStay, T.xgg_EmptyStay, T.xbe_EmptyStay, T.xhd_EmptyStay, T.xca_EmptyStay, T.cn_, T.ct_, T.xmo_EmptyStay⟩
theorem T_xf_EmptyStay (T : Txt K mg D) : XfC K D.c_EmptyStay := ⟨T.xga_EmptyStay, T.xgg_EmptyStay, T.xbe_EmptyStay, T.xhd_EmptyStay⟩
theorem T_ox_NoCommonDay (T : Txt K mg D) : OexC K D.c_NoCommonDay := ⟨T.oxl_NoCommonDay, T.xsa_NoCommonDay, T.xbe_NoCommonDay, T.xty_NoCommonDay, T.k_NoCommonDay⟩
theorem T_as_NoCommonDay (T : Txt K mg D) : XR.Asks K D.c_NoCommonDay := ⟨T.xga_NoCommonDay, T.xgg_NoCommonDay, T.xbe_NoCommonDay, T.xhd_NoCommonDay, T.xca_NoCommonDay, T.cn_, T.ct_, T.xmo_NoCommonDay⟩
theorem T_xf_NoCommonDay (T : Txt K mg D) : XfC K D.c_NoCommonDay := ⟨T.xga_NoCommonDay, T.xgg_NoCommonDay, T.xbe_NoCommonDay, T.xhd_NoCommonDay⟩
end

local macro_rules | `(tactic| walk_at "ne") => `(tactic| first | assumption | (apply Ne.symm; assumption) | exact XR.ne_fresh (by assumption) (by walk_at "hp") | exact Ne.symm (XR.ne_fresh (by assumption) (by walk_at "hp")))
local macro_rules | `(tactic| walk_at "hp") => `(tactic| first | assumption | exact upd_same | (refine Eq.trans (upd_ne ?_) ?_; (walk_at "ne"); walk_at "hp"))
local macro_rules | `(tactic| walk_at "sq") => `(tactic| first | walk_at "hp" | exact SqL.of (by walk_at "hp") | exact SqT.of (by walk_at "hp"))
local macro_rules | `(tactic| walk_at "br") => `(tactic| (refine ite2 ?_ ?_ <;> intro hbr <;> (try simp only [decide_eq_true_eq, decide_eq_false_iff_not, V.int.injEq, V.bl.injEq, V.str.injEq, Bool.not_eq_true, Bool.not_eq_eq_eq_not, Bool.not_true, Bool.not_false, ne_eq, Int.reduceToNat, Int.reducePow, Int.reduceMul, Int.reduceAdd, Int.reduceSub, reduceCtorEq, not_true_eq_false, not_false_eq_true, Int.not_lt, Int.not_le] at hbr)))
local macro_rules | `(tactic| walk_at "side") => `(tactic| first
  | exact ⟨by decide, by decide, by decide⟩
  | exact .inl ⟨by decide, by decide⟩
  | exact .inr ⟨by decide, by decide⟩
  | exact XR.divw (by first | decide | omega) (by first | decide | omega)
  | (show (_ : Int) = _; first | rfl | omega)
  | (show (0 : Int) < _; first | decide | assumption | omega)
  | exact .inl ⟨by omega, by omega⟩
  | exact .inr ⟨by omega, by omega⟩
  | exact .inl (XR.cmul_mod (by decide))
  | exact XR.log_lt (by omega) (by omega)
  | decide
  | (rw [sizeLine_eq]; simp; done)
  | (show 2 ≤ sizeLine; decide) | (show 3 ≤ sizeLine; decide) | (show 4 ≤ sizeLine; decide) | (show 5 ≤ sizeLine; decide) | (show 6 ≤ sizeLine; decide) | (show 7 ≤ sizeLine; decide) | (show 1 ≤ sizeLine; decide) | (show 8 ≤ sizeLine; decide) | (show 0 ≤ sizeLine; decide))
local macro_rules | `(tactic| walk_at "rd1") => `(tactic| first
  | refine ⟨_, rfl, ?_⟩
  | refine ⟨_, _, rfl, rfl, ?_⟩
  | refine ⟨_, _, _, _, rfl, rfl, (by walk_at "sq"), rfl, ?_⟩
  | refine ⟨_, _, _, _, rfl, rfl, (by walk_at "hp"), (by walk_at "hp"), (by walk_at "side"), ?_⟩
  | refine ⟨_, _, rfl, .inl (by walk_at "sq"), ?_⟩
  | refine ⟨_, _, rfl, .inr (by walk_at "sq"), ?_⟩
  | refine ⟨_, _, _, _, _, rfl, (by walk_at "hp"), (by walk_at "cls"), (by walk_at "noat"), rfl, ?_⟩
  | refine ⟨rfl, ?_⟩
  | refine And.intro (by walk_at "side") ?_
  | refine .inl ⟨_, rfl, ?_⟩
  | refine And.intro ⟨_, (by walk_at "sq")⟩ ?_
  | refine ⟨_, _, rfl, (by walk_at "sq"), ?_⟩
  | refine ⟨_, _, rfl, ?_⟩
  | refine .inr ⟨_, rfl, (by walk_at "side"), ?_⟩
  | refine iteT ?_
  | refine iteF ?_)
local macro_rules | `(tactic| walk_at "rd") => `(tactic| repeat (walk_at "rd1"))
local macro_rules | `(tactic| walk_at "nn") => `(tactic| (simp only [Int.reduceToNat, Int.reducePow, Int.reduceMul, Int.reduceAdd, Int.reduceSub, Int.reduceNeg]))
local macro_rules | `(tactic| walk_at "dr") => `(tactic| repeat (first | refine And.intro (by first | assumption | walk_at "pre") ?_ | refine And.intro (by first | decide | omega) ?_))

section
variable {K : PySem.W.Frag} {mg : Str → Option Value} {D : Ad}
theorem T_o_Stay___add__ (T : Txt K mg D) : XR.OwnB K D.c_Stay D.a_Stay___add__ .Add := ⟨T.ysf_Stay, T.h_add, T.i_Stay___add__, T.r_add⟩
theorem T_o_Stay___sub__ (T : Txt K mg D) : XR.OwnB K D.c_Stay D.a_Stay___sub__ .Sub := ⟨T.ysf_Stay, T.h_sub, T.i_Stay___sub__, T.r_sub⟩
theorem T_o_Stay___and__ (T : Txt K mg D) : XR.OwnB K D.c_Stay D.a_Stay___and__ .BitAnd := ⟨T.ysf_Stay, T.h_and, T.i_Stay___and__, T.r_and⟩
theorem T_o_Stay___or__ (T : Txt K mg D) : XR.OwnB K D.c_Stay D.a_Stay___or__ .BitOr := ⟨T.ysf_Stay, T.h_or, T.i_Stay___or__, T.r_or⟩
theorem T_i_Stay___add__ (T : Txt K mg D) : XR.OwnBI K D.c_Stay .Add := ⟨T.i_add, T.j_add, T.s_int⟩
theorem T_i_Stay___sub__ (T : Txt K mg D) : XR.OwnBI K D.c_Stay .Sub := ⟨T.i_sub, T.j_sub, T.s_int⟩
theorem T_o_Stay___contains__ (T : Txt K mg D) : XR.OwnM K D.c_Stay D.a_Stay___contains__ "__contains__" := ⟨T.m_Stay___contains__, T.i_Stay___contains__⟩
theorem T_o_Stay___str__ (T : Txt K mg D) : XR.OwnM K D.c_Stay D.a_Stay___str__ "__str__" := ⟨T.m_Stay___str__, T.i_Stay___str__⟩
theorem T_o_Stay___eq__ (T : Txt K mg D) : XR.OwnE K D.c_Stay D.a_Stay___eq__ := ⟨T.m_Stay___eq__, T.i_Stay___eq__, T.ne_, T.ymo_Stay⟩
theorem T_p_Stay_width (T : Txt K mg D) : PropOf K D.c_Stay "width" D.p_Stay_width D.a_Stay_width := ⟨T.pa_Stay_width, T.pg_Stay_width, T.pt_Stay_width, T.pr_Stay_width⟩
end
local macro_rules | `(tactic| walk_at "cls") => `(tactic| exact T_cl_Stay (by assumption))
local macro_rules | `(tactic| walk_at "noat") => `(tactic| first | exact Txt.no_come (by assumption) | exact Txt.no_go (by assumption))
/-! ### promises -/
theorem two_of {p : Prop} [Decidable p] {Q : VK} {H : Hp} (k1 : p → Q (.bl true) H) (k2 : ¬p → Q (.bl false) H) : ∀ x : Bool, x = decide p → Q (.bl x) H := fun x e => by
  by_cases z : p
  · rw [e, decide_eq_true z]; exact k1 z
  · rw [e, decide_eq_false z]; exact k2 z
def fsS (a b : Int) : List (Str × V) := [("come", .int a), ("go", .int b)]
def StayAt (D : Ad) (H : Hp) (p : Addr) (a b : Int) : Prop := ∃ dx, H p = some (.ins D.c_Stay dx (fsS a b))
theorem StayAt.same {D : Ad} {H H' : Hp} {p : Addr} {a b : Int} (s : StayAt D H p a b) (x : Same H H') : StayAt D H' p a b := let ⟨dx, e⟩ := s; ⟨dx, x _ _ e⟩
theorem StayAt.ne {D : Ad} {H : Hp} {p q : Addr} {a b : Int} {xs : List V} (s : StayAt D H p a b) (h : H q = some (.lst xs)) : p ≠ q := let ⟨_, e⟩ := s; ne_of e h (by intro z; cases z)
theorem StayAt.new {D : Ad} {H : Hp} {p q : Addr} {a b : Int} {o : HO} (s : StayAt D H p a b) (h : H q = none) : StayAt D (L2.upd H q o) p a b := let ⟨dx, e⟩ := s; ⟨dx, by rw [upd_ne (ne_of_none e h)]; exact e⟩
/-- a new stay -/
def NewStay (D : Ad) (H : Hp) (a b : Int) (Q : VK) : Prop := ∀ p H', H p = none → Same H H' → StayAt D H' p a b → Q (.ref p) H'
def spInit (D : Ad) : Sp := fun vs H Q E => ∃ (p dx : Addr) (a b : Int), vs = [.ref p, .int a, .int b] ∧ H p = some (.ins D.c_Stay dx []) ∧
  (b < a → Wish D.c_EmptyStay [("go", .int b), ("come", .int a)] H E) ∧
  (a ≤ b → ∀ H', (∀ q o, q ≠ p → H q = some o → H' q = some o) → H' p = some (.ins D.c_Stay dx (fsS a b)) → Q .non H')
/-- a stay that is new, or an error -/
theorem make_stay {D : Ad} {H : Hp} {a b : Int} {Q : VK} {E : XK} (k1 : b < a → Wish D.c_EmptyStay [("go", .int b), ("come", .int a)] H E) (k2 : a ≤ b → NewStay D H a b Q) :
    ∀ x dx, H x = none → H dx = none → dx ≠ x → spInit D [.ref x, .int a, .int b] (L2.upd (L2.upd H dx (.own x)) x (.ins D.c_Stay dx [])) (fun v H2 => v = .non ∧ Q (.ref x) H2) E := by
  intro x dx nx nd ne
  have old : ∀ q o, H q = some o → (L2.upd (L2.upd H dx (.own x)) x (.ins D.c_Stay dx [])) q = some o := fun q o e => by rw [upd_ne (ne_of_none e nx), upd_ne (ne_of_none e nd)]; exact e
  refine ⟨x, dx, a, b, rfl, upd_same, fun h => fun d H' e s => k1 h d H' e fun q o z => s q o (old q o z), fun h H' s e => ⟨rfl, k2 h x H' nx (fun q o z => s q o (ne_of_none z nx) (old q o z)) ⟨dx, e⟩⟩⟩
def spOpI (D : Ad) (g : Int → Int → Int) : Sp := fun vs H Q _ => ∃ (p : Addr) (a b m : Int), vs = [.ref p, .int m] ∧ StayAt D H p a b ∧ a ≤ b ∧ NewStay D H (g a m) (g b m) Q
def spEq (D : Ad) : Sp := fun vs H Q _ => ∃ (p q : Addr) (a b c d : Int), vs = [.ref p, .ref q] ∧ StayAt D H p a b ∧ StayAt D H q c d ∧ (a = c ∧ b = d → Q (.bl true) H) ∧ (¬(a = c ∧ b = d) → Q (.bl false) H)
def textOf (a b : Int) : Str := Str.empty ++ Str.ofString (toString a) ++ (".." : Str) ++ Str.ofString (toString b)
def spStr (D : Ad) : Sp := fun vs H Q _ => ∃ (p : Addr) (a b : Int), vs = [.ref p] ∧ StayAt D H p a b ∧ -(10 ^ 30) < a ∧ a < 10 ^ 30 ∧ -(10 ^ 30) < b ∧ b < 10 ^ 30 ∧ Q (.str (textOf a b)) H
def spHas (D : Ad) : Sp := fun vs H Q _ => ∃ (p : Addr) (a b m : Int), vs = [.ref p, .int m] ∧ StayAt D H p a b ∧ (a ≤ m ∧ m ≤ b → Q (.bl true) H) ∧ (¬(a ≤ m ∧ m ≤ b) → Q (.bl false) H)
def spAnd (D : Ad) : Sp := fun vs H Q E => ∃ (p q : Addr) (a b c d : Int), vs = [.ref p, .ref q] ∧ StayAt D H p a b ∧ StayAt D H q c d ∧
  (min b d < max a c → Wish D.c_NoCommonDay [("gap", .int (max a c - min b d))] H E) ∧ (max a c ≤ min b d → NewStay D H (max a c) (min b d) Q)
def spOr (D : Ad) : Sp := fun vs H Q _ => ∃ (p q : Addr) (a b c d : Int), vs = [.ref p, .ref q] ∧ StayAt D H p a b ∧ StayAt D H q c d ∧ a ≤ b ∧ c ≤ d ∧ NewStay D H (min a c) (max b d) Q
def spWidth (D : Ad) : Sp := fun vs H Q _ => ∃ (p : Addr) (a b : Int), vs = [.ref p] ∧ StayAt D H p a b ∧ Q (.int (b - a + 1)) H
section
variable {P : Program} {w : World} {K : PySem.W.Frag} {mg : Str → Option Value} {base : Heap} {D : Ad}
abbrev fsE : List V → Option (List (Str × V)) := fun ws => match ws with | [a, b] => some [("go", b), ("come", a)] | _ => none
abbrev fsN : List V → Option (List (Str × V)) := fun ws => match ws with | [a] => some [("gap", a)] | _ => none
theorem sc_EmptyStay_init : FnScope ["self", "come", "go"] ["self", "come", "go"] (defScope s_EmptyStay_init) := ⟨rfl, rfl, rfl, by decide +kernel, rfl, by decide +kernel, by decide +kernel⟩
theorem ok_EmptyStay_init (T : Txt K mg D) : FnOk P w K mg base CX0 1 D.a_EmptyStay_init D.d_EmptyStay_init ["self", "come", "go"] (spEx D.c_EmptyStay fsE) := by
  refine T.F_EmptyStay_init.ok sc_EmptyStay_init (fun vs H Q E h => ?_) (fun cdv A outer s H vs Q E hr h => ?_)
  · obtain ⟨a, ws, l, rfl, e, _⟩ := h
    match ws, e with
    | [_, _], _ => rfl
  · obtain ⟨a, ws, l, rfl, e, ha, k⟩ := h
    match ws, e with
    | [x, y], e =>
      cases e
      refine ⟨_, pss_cons (ps_ost (pv 0) (pv 1)) (pss_one (ps_ost (pv 0) (pv 2))), ?_⟩
      walk_at "rd"
      refine init_ex1 (T_ox_EmptyStay T) T.e_come ha fun d H1 hd hda ea ed x1 => ?_
      walk_at "rd"
      refine init_ex2 (T_ox_EmptyStay T) T.e_go (by show 1 ≤ 900; decide) ea ed hda fun H2 ea2 ed2 x2 => ?_
      exact k d H2 hd hda ea2 ed2 fun q o hq e => x2 q o hq (ne_of_none e hd) (x1 q o hq e)
theorem sc_NoCommonDay_init : FnScope ["self", "gap"] ["self", "gap"] (defScope s_NoCommonDay_init) := ⟨rfl, rfl, rfl, by decide +kernel, rfl, by decide +kernel, by decide +kernel⟩
theorem ok_NoCommonDay_init (T : Txt K mg D) : FnOk P w K mg base CX0 1 D.a_NoCommonDay_init D.d_NoCommonDay_init ["self", "gap"] (spEx D.c_NoCommonDay fsN) := by
  refine T.F_NoCommonDay_init.ok sc_NoCommonDay_init (fun vs H Q E h => ?_) (fun cdv A outer s H vs Q E hr h => ?_)
  · obtain ⟨a, ws, l, rfl, e, _⟩ := h
    match ws, e with
    | [_], _ => rfl
  · obtain ⟨a, ws, l, rfl, e, ha, k⟩ := h
    match ws, e with
    | [x], e =>
      cases e
      refine ⟨_, pss_one (ps_ost (pv 0) (pv 1)), ?_⟩
      walk_at "rd"
      exact init_ex1 (T_ox_NoCommonDay T) T.e_gap ha fun d H1 hd hda ea ed x1 => k d H1 hd hda ea ed x1
theorem sc_Stay_init : FnScope ["self", "come", "go"] ["self", "come", "go"] (defScope s_Stay_init) := ⟨rfl, rfl, rfl, by decide +kernel, rfl, by decide +kernel, by decide +kernel⟩
theorem ok_Stay_init (T : Txt K mg D) : FnOk P w K mg base (L2.CX P w) 3 D.a_Stay_init D.d_Stay_init ["self", "come", "go"] (spInit D) := by
  refine T.F_Stay_init.okX sc_Stay_init (fun vs H Q E h => ?_) (fun cdv A outer s H vs Q E hr h => ?_)
  · obtain ⟨p, dx, a, b, rfl, _⟩ := h
    rfl
  · obtain ⟨p, dx, a, b, rfl, hp, kE, kS⟩ := h
    refine ⟨_, (pss_cons (ps_if (pt_cmpR op_lt (pv 2) (pv 1) (nomark _))
      (pss_one (ps_raise rfl (takes_of rfl rfl rfl rfl) (pmk_oex (T_ox_EmptyStay T) T.m_EmptyStay_init T.xti_EmptyStay (ok_EmptyStay_init T) (hr.mono (by decide)) T.b_EmptyStay_init .nil (fun _ _ _ _ _ _ _ z => z.elim) (by rfl) T.g_EmptyStay (pa_cons (pv 1) (pa_cons (pv 2) pa_nil)))))
      pss_nil)
      (pss_cons (ps_fld (pv 0) (pv 1) rfl)
      (pss_one (ps_fld (pv 0) (pv 2) rfl)))), ?_⟩
    walk_at "rd"
    walk_at "br"
    · walk_at "rd"
      exact mk_ex (by show 2 ≤ 1000; decide) rfl (kE (by omega))
    · walk_at "rd"
      refine ⟨p, _, dx, _, rfl, hp, T_cl_Stay T, T.no_come, (by show 0 < 1000; decide), ?_⟩
      walk_at "rd"
      refine ⟨p, _, dx, _, rfl, upd_same, T_cl_Stay T, T.no_go, (by show 1 < 1000; decide), ?_⟩
      refine kS (by omega) _ (fun q o hq e => by rw [upd_ne hq, upd_ne hq]; exact e) ?_
      rw [upd_same]
      rfl
theorem sc_Stay___eq__ : FnScope ["self", "other"] ["self", "other"] (defScope s_Stay___eq__) := ⟨rfl, rfl, rfl, by decide +kernel, rfl, by decide +kernel, by decide +kernel⟩
theorem ok_Stay_eq (T : Txt K mg D) : FnOk P w K mg base CX0 1 D.a_Stay___eq__ D.d_Stay___eq__ ["self", "other"] (spEq D) := by
  refine T.F_Stay___eq__.ok sc_Stay___eq__ (fun vs H Q E h => ?_) (fun cdv A outer s H vs Q E hr h => ?_)
  · obtain ⟨p, q, a, b, c, d, rfl, _⟩ := h
    rfl
  · obtain ⟨p, q, a, b, c, d, rfl, ⟨dx, hp⟩, ⟨dy, hq⟩, k1, k2⟩ := h
    refine ⟨_, (pss_one (ps_ret (pe_and (pe_callB call_isi (by rfl) T.n_isinstance (by decide +kernel) (pa_cons (pv 1) (pa_cons (pe_glob (v := .ref D.c_Stay) (by rfl) T.g_Stay rfl) pa_nil))) (pe_and (pe_cmpR op_eq (pe_fld (pv 0) rfl) (pe_fld (pv 1) rfl) (nomark _)) (pe_one (pe_cmpR op_eq (pe_fld (pv 0) rfl) (pe_fld (pv 1) rfl) (nomark _))))))), ?_⟩
    walk_at "rd"
    refine ⟨_, _, _, _, true, rfl, .own D.c_Stay, T_ty_Stay T hq, T.z_Stay, ?_⟩
    walk_at "rd"
    have kk := two_of k1 k2
    walk_at "br"
    · walk_at "rd"
      refine kk _ ?_
      simp_all
    · refine kk _ ?_
      simp_all
theorem sc_Stay___str__ : FnScope ["self"] ["self"] (defScope s_Stay___str__) := ⟨rfl, rfl, rfl, by decide +kernel, rfl, by decide +kernel, by decide +kernel⟩
theorem ok_Stay_str (T : Txt K mg D) : FnOk P w K mg base CX0 1 D.a_Stay___str__ D.d_Stay___str__ ["self"] (spStr D) := by
  refine T.F_Stay___str__.ok sc_Stay___str__ (fun vs H Q E h => ?_) (fun cdv A outer s H vs Q E hr h => ?_)
  · obtain ⟨p, a, b, rfl, _⟩ := h
    rfl
  · obtain ⟨p, a, b, rfl, ⟨dx, hp⟩, a1, a2, b1, b2, k⟩ := h
    refine ⟨_, (pss_one (ps_ret (pe_joined (PJ.cons (pe_fmt (pe_fld (pv 0) rfl)) (PJ.cons pe_str (PJ.cons (pe_fmt (pe_fld (pv 0) rfl)) PJ.nil)))))), ?_⟩
    have la := PyProof.Rows.int_text_len_1921 (i := a) (XR.log_lt (by omega) (by omega))
    have lb := PyProof.Rows.int_text_len_1921 (i := b) (XR.log_lt (by omega) (by omega))
    have l2 : (".." : Str).length = 2 := rfl
    have l0 : Str.empty.length = 0 := rfl
    have ez : sizeLine = 16777216 := sizeLine_eq
    walk_at "rd"
    refine ⟨by rw [Str.length_append]; omega, ?_⟩
    walk_at "rd"
    refine ⟨by rw [Str.length_append, Str.length_append]; omega, ?_⟩
    walk_at "rd"
    refine ⟨by rw [Str.length_append, Str.length_append, Str.length_append]; omega, ?_⟩
    exact k
theorem sc_Stay___contains__ : FnScope ["self", "day"] ["self", "day"] (defScope s_Stay___contains__) := ⟨rfl, rfl, rfl, by decide +kernel, rfl, by decide +kernel, by decide +kernel⟩
theorem ok_Stay_has (T : Txt K mg D) : FnOk P w K mg base CX0 1 D.a_Stay___contains__ D.d_Stay___contains__ ["self", "day"] (spHas D) := by
  refine T.F_Stay___contains__.ok sc_Stay___contains__ (fun vs H Q E h => ?_) (fun cdv A outer s H vs Q E hr h => ?_)
  · obtain ⟨p, a, b, m, rfl, _⟩ := h
    rfl
  · obtain ⟨p, a, b, m, rfl, ⟨dx, hp⟩, k1, k2⟩ := h
    refine ⟨_, (pss_one (ps_ret (pe_chain op_le op_le (pe_fld (pv 0) rfl) (pv 1) (pe_fld (pv 0) rfl)))), ?_⟩
    walk_at "rd"
    have kk := two_of k1 k2
    walk_at "br"
    · walk_at "rd"
      refine kk _ ?_
      simp_all
    · refine kk _ ?_
      exact (decide_eq_false (by omega)).symm
theorem sc_Stay___add__ : FnScope ["self", "many"] ["self", "many"] (defScope s_Stay___add__) := ⟨rfl, rfl, rfl, by decide +kernel, rfl, by decide +kernel, by decide +kernel⟩
theorem ok_Stay_add (T : Txt K mg D) : FnOk P w K mg base CX0 5 D.a_Stay___add__ D.d_Stay___add__ ["self", "many"] (spOpI D (fun a m => a + m)) := by
  have G_Stay_init := ok_Stay_init (P := P) (w := w) (base := base) T
  refine T.F_Stay___add__.ok sc_Stay___add__ (fun vs H Q E h => ?_) (fun cdv A outer s H vs Q E hr h => ?_)
  · obtain ⟨p, a, b, m, rfl, _⟩ := h
    rfl
  · obtain ⟨p, a, b, m, rfl, ⟨dx, hp⟩, hab, k⟩ := h
    refine ⟨_, (pss_one (ps_ret (pe_make (T_mk_Stay T) G_Stay_init (hr.mono (by decide)) (by rfl) T.g_Stay T.b_Stay_init .nil passL (pa_cons (pe_op op_add (pe_fld (pv 0) rfl) (pv 1)) (pa_cons (pe_op op_add (pe_fld (pv 0) rfl) (pv 1)) pa_nil))))), ?_⟩
    walk_at "rd"
    exact make_stay (fun h => by omega) fun _ => k
theorem sc_Stay___sub__ : FnScope ["self", "many"] ["self", "many"] (defScope s_Stay___sub__) := ⟨rfl, rfl, rfl, by decide +kernel, rfl, by decide +kernel, by decide +kernel⟩
theorem ok_Stay_sub (T : Txt K mg D) : FnOk P w K mg base CX0 5 D.a_Stay___sub__ D.d_Stay___sub__ ["self", "many"] (spOpI D (fun a m => a - m)) := by
  have G_Stay_init := ok_Stay_init (P := P) (w := w) (base := base) T
  refine T.F_Stay___sub__.ok sc_Stay___sub__ (fun vs H Q E h => ?_) (fun cdv A outer s H vs Q E hr h => ?_)
  · obtain ⟨p, a, b, m, rfl, _⟩ := h
    rfl
  · obtain ⟨p, a, b, m, rfl, ⟨dx, hp⟩, hab, k⟩ := h
    refine ⟨_, (pss_one (ps_ret (pe_make (T_mk_Stay T) G_Stay_init (hr.mono (by decide)) (by rfl) T.g_Stay T.b_Stay_init .nil passL (pa_cons (pe_op op_sub (pe_fld (pv 0) rfl) (pv 1)) (pa_cons (pe_op op_sub (pe_fld (pv 0) rfl) (pv 1)) pa_nil))))), ?_⟩
    walk_at "rd"
    exact make_stay (fun h => by omega) fun _ => k
theorem sc_Stay___or__ : FnScope ["self", "other"] ["self", "other"] (defScope s_Stay___or__) := ⟨rfl, rfl, rfl, by decide +kernel, rfl, by decide +kernel, by decide +kernel⟩
theorem ok_Stay_or (T : Txt K mg D) : FnOk P w K mg base CX0 5 D.a_Stay___or__ D.d_Stay___or__ ["self", "other"] (spOr D) := by
  have G_Stay_init := ok_Stay_init (P := P) (w := w) (base := base) T
  refine T.F_Stay___or__.ok sc_Stay___or__ (fun vs H Q E h => ?_) (fun cdv A outer s H vs Q E hr h => ?_)
  · obtain ⟨p, q, a, b, c, d, rfl, _⟩ := h
    rfl
  · obtain ⟨p, q, a, b, c, d, rfl, ⟨dx, hp⟩, ⟨dy, hq⟩, hab, hcd, k⟩ := h
    refine ⟨_, (pss_one (ps_ret (pe_make (T_mk_Stay T) G_Stay_init (hr.mono (by decide)) (by rfl) T.g_Stay T.b_Stay_init .nil passL (pa_cons (pe_callB (call_min2 rfl) (by rfl) T.n_min (by decide +kernel) (pa_cons (pe_fld (pv 0) rfl) (pa_cons (pe_fld (pv 1) rfl) pa_nil))) (pa_cons (pe_callB (call_max2 rfl) (by rfl) T.n_max (by decide +kernel) (pa_cons (pe_fld (pv 0) rfl) (pa_cons (pe_fld (pv 1) rfl) pa_nil))) pa_nil))))), ?_⟩
    walk_at "rd"
    have e1 : (if c < a then c else a) = min a c := by omega
    have e2 : (if d > b then d else b) = max b d := by omega
    refine make_stay (fun h => by omega) fun _ => ?_
    rw [e1, e2]
    exact k
theorem sc_Stay___and__ : FnScope ["self", "other", "come", "go"] ["self", "other"] (defScope s_Stay___and__) := ⟨rfl, rfl, rfl, by decide +kernel, rfl, by decide +kernel, by decide +kernel⟩
theorem ok_Stay_and (T : Txt K mg D) : FnOk P w K mg base (L2.CX P w) 5 D.a_Stay___and__ D.d_Stay___and__ ["self", "other"] (spAnd D) := by
  have G_Stay_init := ok_Stay_init (P := P) (w := w) (base := base) T
  refine T.F_Stay___and__.okX sc_Stay___and__ (fun vs H Q E h => ?_) (fun cdv A outer s H vs Q E hr h => ?_)
  · obtain ⟨p, q, a, b, c, d, rfl, _⟩ := h
    rfl
  · obtain ⟨p, q, a, b, c, d, rfl, ⟨dx, hp⟩, ⟨dy, hq⟩, kE, kS⟩ := h
    refine ⟨_, (pss_cons (ps_set (i := 2) sc_Stay___and__.nd rfl (Or.inl rfl) (pe_callB (call_max2 rfl) (by rfl) T.n_max (by decide +kernel) (pa_cons (pe_fld (pv 0) rfl) (pa_cons (pe_fld (pv 1) rfl) pa_nil))))
      (pss_cons (ps_set (i := 3) sc_Stay___and__.nd rfl (Or.inl rfl) (pe_callB (call_min2 rfl) (by rfl) T.n_min (by decide +kernel) (pa_cons (pe_fld (pv 0) rfl) (pa_cons (pe_fld (pv 1) rfl) pa_nil))))
      (pss_cons (ps_if (pt_cmpR op_lt (pv 3) (pv 2) (nomark _))
      (pss_one (ps_raise rfl (takes_of rfl rfl rfl rfl) (pmk_oex (T_ox_NoCommonDay T) T.m_NoCommonDay_init T.xti_NoCommonDay (ok_NoCommonDay_init T) (hr.mono (by decide)) T.b_NoCommonDay_init .nil (fun _ _ _ _ _ _ _ z => z.elim) (by rfl) T.g_NoCommonDay (pa_cons (pe_op op_sub (pv 2) (pv 3)) pa_nil))))
      pss_nil)
      (pss_one (ps_ret (pe_make (T_mk_Stay T) G_Stay_init (hr.mono (by decide)) (by rfl) T.g_Stay T.b_Stay_init .nil passL (pa_cons (pv 2) (pa_cons (pv 3) pa_nil)))))))), ?_⟩
    walk_at "rd"
    have e1 := max_if a c
    have e2 := min_if b d
    walk_at "br"
    · walk_at "rd"
      refine mk_ex (by show 1 ≤ 1000; decide) rfl ?_
      rw [e1, e2]
      exact kE (by omega)
    · walk_at "rd"
      refine make_stay (fun h => by omega) fun _ => ?_
      rw [e1, e2]
      exact kS (by omega)
theorem sc_Stay_width : FnScope ["self"] ["self"] (defScope s_Stay_width) := ⟨rfl, rfl, rfl, by decide +kernel, rfl, by decide +kernel, by decide +kernel⟩
theorem ok_Stay_width (T : Txt K mg D) : FnOk P w K mg base CX0 1 D.a_Stay_width D.d_Stay_width ["self"] (spWidth D) := by
  refine T.F_Stay_width.ok sc_Stay_width (fun vs H Q E h => ?_) (fun cdv A outer s H vs Q E hr h => ?_)
  · obtain ⟨p, a, b, rfl, _⟩ := h
    rfl
  · obtain ⟨p, a, b, rfl, ⟨dx, hp⟩, k⟩ := h
    refine ⟨_, (pss_one (ps_ret (pe_op op_add (pe_op op_sub (pe_fld (pv 0) rfl) (pe_fld (pv 0) rfl)) pe_int))), ?_⟩
    walk_at "rd"
    exact k
/-! ### the law's own helpers -/
def BoxAt (H : Hp) (b : Addr) : Prop := ∃ (c : Addr) (cs : List Int) (i big st : Int), H b = some (.lst [.ref c, .int i, .int big, .int st]) ∧ H c = some (.lst (cs.map V.int)) ∧ c ≠ b ∧ 0 ≤ i ∧ 0 ≤ big ∧ 0 ≤ st ∧ st < 2147483647
/-- a drawn number -/
def Drawn (b : Addr) (H : Hp) (lo hi : Int) (Q : VK) : Prop := ∀ r H', lo ≤ r → r < hi → BoxAt H' b → ExB b H H' → Q (.int r) H'
def spDraws (K : PySem.W.Frag) : Sp := fun vs H Q _ => ∃ (a : Addr) (ns : List Int), vs = [.ref a] ∧ SqL K H a (ns.map V.int) ∧ ns.length ≤ 63 ∧ ∀ b H', H b = none → Same H H' → BoxAt H' b → Q (.ref b) H'
def spTake : Sp := fun vs H Q _ => ∃ (b : Addr) (n : Int), vs = [.ref b, .int n] ∧ BoxAt H b ∧ 0 < n ∧ n < 2 ^ 63 ∧ Drawn b H 0 n Q
def spFar : Sp := fun vs H Q _ => ∃ (b : Addr), vs = [.ref b] ∧ BoxAt H b ∧ Drawn b H 0 (4 * 10 ^ 17) Q
def spNum : Sp := fun vs H Q _ => ∃ (x y : Int), vs = [.int x, .int y] ∧ x = y ∧ Q (.bl true) H
theorem sc__law_draws : FnScope ["_law_script", "_law_cell", "_law_cells", "_law_state"] ["_law_script"] (defScope s__law_draws) := ⟨rfl, rfl, rfl, by decide +kernel, rfl, by decide +kernel, by decide +kernel⟩
theorem ok__law_draws (T : Txt K mg D) : FnOk P w K mg base CX0 1 D.a__law_draws D.d__law_draws ["_law_script"] (spDraws K) := by
  refine T.F__law_draws.ok sc__law_draws (fun vs H Q E h => ?_) (fun cdv A outer s H vs Q E hr h => ?_)
  · obtain ⟨a, ns, rfl, _⟩ := h
    rfl
  · obtain ⟨a, ns, rfl, hS, hl, k⟩ := h
    refine ⟨_, (pss_cons (ps_setLc (i := 2) (own := [("_law_cell", 1)]) (g := gName 1) (tt := tYes) (by rfl) sc__law_draws.nd rfl rfl (sw_true rfl rfl rfl (by decide +kernel)) (pi_list (pe_slice sl_list (pv 0) po_none (po_some pe_int))) (blkOk_by (own := [("_law_cell", 1)]) (N := ["_law_script", "_law_cell", "_law_cells", "_law_state"]) (sc := defScope s__law_draws) (by decide +kernel)) (fun _ _ _ _ _ => (pg_name (i := 1) sc__law_draws.nd rfl (Or.inl rfl))) (fun _ _ _ _ _ => pts_nil) (fun _ _ _ _ _ => (pe_callTy call_int1 (by rfl) T.n_int (by decide +kernel) (pa_cons (pv 1) pa_nil))))
      (pss_cons (ps_set (i := 3) sc__law_draws.nd rfl (Or.inl rfl) pe_int)
      (pss_cons (ps_for PassesOwn.never rfl (pi_list (pv 2)) (pg_name (i := 1) sc__law_draws.nd rfl (Or.inl rfl))
      (pss_one (ps_set (i := 3) sc__law_draws.nd rfl (Or.inl rfl) (pe_op op_mod (pe_callTy call_int1 (by rfl) T.n_int (by decide +kernel) (pa_cons (pe_op op_add (pe_op op_add (pe_op op_mul (pv 3) pe_int) (pe_op op_mul (pv 1) pe_int)) pe_int) pa_nil)) pe_int))))
      (pss_one (ps_ret (pe_lst (pa_cons (pv 2) (pa_cons pe_int (pa_cons pe_int (pa_cons (pv 3) pa_nil)))))))))), ?_⟩
    walk_at "rd"
    intro p hp
    walk_at "rd"
    intro Dl hD
    have hL : ∃ ms : List Int, cutV (ns.map V.int) none (some 63) = ms.map V.int ∧ ms.length ≤ 63 := by
      refine ⟨ns.take 63, ?_, by rw [List.length_take]; omega⟩
      exact cutV_take ns 63
    obtain ⟨ms, em, lm⟩ := hL
    rw [em]
    have npD : p ≠ Dl := fun z => by rw [← z, upd_same] at hD; cases hD
    refine lc_list (K := K) (a := p) (xs := ms.map V.int) (fun i H' => H' Dl = some (.lst ((ms.take i).map V.int)) ∧ (∀ q o, q ≠ Dl → (L2.upd H p (.lst (ms.map V.int))) q = some o → H' q = some o))
      ⟨upd_same, fun q o hq e => by rw [upd_ne hq]; exact e⟩ (fun i H' _ h => SqL.of (h.2 p _ npD upd_same)) ?_ ?_
    · rintro i x H' hi ⟨e1, e2⟩
      obtain ⟨z, hz, rfl⟩ := get_int hi
      walk_at "rd"
      refine ⟨_, e1, ?_, ?_, fun q o hq e => by rw [upd_ne hq]; exact e2 q o hq e⟩
      · rw [List.length_map, List.length_take]
        exact Nat.lt_of_le_of_lt (Nat.min_le_right _ _) (Nat.lt_of_le_of_lt lm (by decide))
      · rw [upd_same, take_one hz, List.map_append]
        rfl
    · rintro H' ⟨e1, e2⟩
      rw [List.length_map, List.take_length] at e1
      walk_at "rd"
      have old : Same H H' := fun q o e => by
        have hq : q ≠ p := ne_of_none e hp
        have hqD : q ≠ Dl := fun z => by rw [z] at e; rw [upd_ne npD.symm] at hD; rw [hD] at e; cases e
        exact e2 q o hqD (by rw [upd_ne hq]; exact e)
      refine for_list (K := K) (a := Dl) (xs := ms.map V.int) (fun i σ H2 => Stop (∃ (v : Option V) (st : Int), σ = [some (.ref a), v, some (.ref Dl), some (.int st)] ∧ 0 ≤ st ∧ st < 2147483647 ∧ H2 = H'))
        (.go ⟨none, 0, rfl, by decide, by decide, rfl⟩) (fun i σ H2 _ h => by obtain ⟨_, _, _, _, _, rfl⟩ := h.out; exact SqL.of e1) ?_ ?_
      · intro i x σ H2 hi hm
        obtain ⟨v, st, rfl, s1, s2, rfl⟩ := hm.out
        obtain ⟨z, hz, rfl⟩ := get_int hi
        walk_at "rd"
        exact .go ⟨_, _, rfl, Int.emod_nonneg _ (by decide), Int.emod_lt_of_pos _ (by decide), rfl⟩
      · intro σ H2 hm
        obtain ⟨v, st, rfl, s1, s2, rfl⟩ := hm.out
        walk_at "rd"
        intro q hq
        have nq : Dl ≠ q := ne_of_none e1 hq
        exact k q _ (none_back old hq) (Same.new old hq) ⟨Dl, ms, 0, 0, st, upd_same, (by rw [upd_ne nq]; exact e1), nq, Int.le_refl _, Int.le_refl _, s1, s2⟩
theorem sc__law_take : FnScope ["_law_box", "_law_limit", "_law_cell", "_law_digit", "_law_twice"] ["_law_box", "_law_limit"] (defScope s__law_take) := ⟨rfl, rfl, rfl, by decide +kernel, rfl, by decide +kernel, by decide +kernel⟩
theorem ok__law_take (T : Txt K mg D) : FnOk P w K mg base CX0 1 D.a__law_take D.d__law_take ["_law_box", "_law_limit"] spTake := by
  refine T.F__law_take.ok sc__law_take (fun vs H Q E h => ?_) (fun cdv A outer s H vs Q E hr h => ?_)
  · obtain ⟨b, n, rfl, _⟩ := h
    rfl
  · obtain ⟨b, n, rfl, ⟨c, cs, i, big, st, hb, hc, hcb, hi, hbig, hst, hst2⟩, hn, hn2, k⟩ := h
    refine ⟨_, (pss_cons (ps_set (i := 2) sc__law_take.nd rfl (Or.inl rfl) pe_int)
      (Evl.pss_cut (ps_if (PW.pt (pw_and (pt_cmpR op_eq (pe_ix ix_list (pv 0) pe_int (fun _ _ => rfl)) pe_int (nomark _)) (pw_and1 (pt_cmpR op_lt (pe_ix ix_list (pv 0) pe_int (fun _ _ => rfl)) (pe_callB call_len_seq (by rfl) T.n_len (by decide +kernel) (pa_cons (pe_ix ix_list (pv 0) pe_int (fun _ _ => rfl)) pa_nil)) (nomark _)))))
      (pss_cons (ps_set (i := 2) sc__law_take.nd rfl (Or.inl rfl) (pe_ix ix_list (pe_ix ix_list (pv 0) pe_int (fun _ _ => rfl)) (pe_ix ix_list (pv 0) pe_int (fun _ _ => rfl)) (fun _ _ => rfl)))
      (pss_one (ps_asg (pe_op op_add (pe_ix ix_list (pv 0) pe_int (fun _ _ => rfl)) pe_int) (pg_sub (pv 0) pe_int set_list))))
      pss_nil)
      (Evl.pss_cut (ps_if (PW.pt (pw_and (pt_cmpR op_eq (pe_ix ix_list (pv 0) pe_int (fun _ _ => rfl)) pe_int (nomark _)) (pw_and1 (pt_cmpR op_ge (pv 2) (pe_op op_pow pe_int pe_int) (nomark _)))))
      (pss_one (ps_asg (pv 2) (pg_sub (pv 0) pe_int set_list)))
      pss_nil)
      (pss_cons (ps_if (pt_cmpR op_gt (pe_ix ix_list (pv 0) pe_int (fun _ _ => rfl)) pe_int (nomark _))
      (pss_cons (ps_set (i := 3) sc__law_take.nd rfl (Or.inl rfl) (pe_op op_mod (pe_callTy call_int1 (by rfl) T.n_int (by decide +kernel) (pa_cons (pe_ix ix_list (pv 0) pe_int (fun _ _ => rfl)) pa_nil)) (pv 1)))
      (pss_cons (ps_asg (pe_op op_fdivW (pe_ix ix_list (pv 0) pe_int (fun _ _ => rfl)) (pv 1)) (pg_sub (pv 0) pe_int set_list))
      (pss_one (ps_ret (pv 3)))))
      pss_nil)
      (pss_cons (ps_asg (pe_op op_mod (pe_callTy call_int1 (by rfl) T.n_int (by decide +kernel) (pa_cons (pe_op op_add (pe_op op_mul (pe_ix ix_list (pv 0) pe_int (fun _ _ => rfl)) pe_int) (pe_op op_mul (pv 2) pe_int)) pa_nil)) pe_int) (pg_sub (pv 0) pe_int set_list))
      (pss_cons (ps_set (i := 4) sc__law_take.nd rfl (Or.inl rfl) (pe_op op_mod (pe_callTy call_int1 (by rfl) T.n_int (by decide +kernel) (pa_cons (pe_op op_add (pe_op op_mul (pe_ix ix_list (pv 0) pe_int (fun _ _ => rfl)) (pe_ix ix_list (pv 0) pe_int (fun _ _ => rfl))) (pe_op op_mul (pe_ix ix_list (pv 0) pe_int (fun _ _ => rfl)) pe_int)) pa_nil)) pe_int))
      (pss_one (ps_ret (pe_op op_mod (pe_op op_fdivW (pv 4) pe_int) (pv 1)))))))))), ?_⟩
    walk_at "rd"
    -- behind the first if: the cell, the place
    refine ⟨fun σ' H' => Stop (∃ (cell i' : Int), σ' = [some (.ref b), some (.int n), some (.int cell), none, none] ∧ 0 ≤ i' ∧ H' b = some (.lst [.ref c, .int i', .int big, .int st]) ∧ ExB b H H'), ?_, ?_⟩
    · walk_at "rd"
      walk_at "br"
      · walk_at "rd"
        walk_at "br"
        · obtain ⟨z, hz⟩ := at_ints hi (by assumption)
          walk_at "rd"
          refine ⟨_, _, _, _, rfl, rfl, (by walk_at "sq"), hz, ?_⟩
          walk_at "rd"
          exact .go ⟨z, i + 1, rfl, by omega, upd_same, ExB.refl.upd⟩
        · exact .go ⟨0, i, rfl, hi, hb, ExB.refl⟩
      · walk_at "rd"
        exact .go ⟨0, i, rfl, hi, hb, ExB.refl⟩
    · intro σ1 H1 hm
      obtain ⟨cell, i1, rfl, hi1, hb1, x1⟩ := hm.out
      walk_at "rd"
      -- behind the second one: the big number
      refine ⟨fun σ' H' => Stop (∃ (big' : Int), σ' = [some (.ref b), some (.int n), some (.int cell), none, none] ∧ 0 ≤ big' ∧ H' b = some (.lst [.ref c, .int i1, .int big', .int st]) ∧ ExB b H H'), ?_, ?_⟩
      · walk_at "rd"
        walk_at "br"
        · walk_at "rd"
          walk_at "br"
          · walk_at "rd"
            exact .go ⟨cell, rfl, by omega, upd_same, x1.upd⟩
          · exact .go ⟨big, rfl, hbig, hb1, x1⟩
        · walk_at "rd"
          exact .go ⟨big, rfl, hbig, hb1, x1⟩
      · intro σ2 H2 hm
        obtain ⟨big2, rfl, hbig2, hb2, x2⟩ := hm.out
        have hc2 : H2 c = some (HO.lst (List.map V.int cs)) := x2 c _ hcb hc
        walk_at "rd"
        walk_at "br"
        · walk_at "rd"
          refine k _ _ (Int.emod_nonneg _ (by omega)) (Int.emod_lt_of_pos _ hn) ?_ x2.upd
          exact ⟨c, cs, i1, big2 / n, st, upd_same, by walk_at "hp", hcb, hi1, Int.ediv_nonneg hbig2 (by omega), hst, hst2⟩
        · walk_at "rd"
          refine k _ _ (Int.emod_nonneg _ (by omega)) (Int.emod_lt_of_pos _ hn) ?_ x2.upd
          exact ⟨c, cs, i1, big2, _, upd_same, by walk_at "hp", hcb, hi1, hbig2, Int.emod_nonneg _ (by decide), Int.emod_lt_of_pos _ (by decide)⟩
theorem sc__law_far : FnScope ["_law_box", "_law_high", "_law_middle"] ["_law_box"] (defScope s__law_far) := ⟨rfl, rfl, rfl, by decide +kernel, rfl, by decide +kernel, by decide +kernel⟩
theorem ok__law_far (T : Txt K mg D) : FnOk P w K mg base CX0 2 D.a__law_far D.d__law_far ["_law_box"] spFar := by
  have G__law_take := ok__law_take (P := P) (w := w) (base := base) T
  refine T.F__law_far.ok sc__law_far (fun vs H Q E h => ?_) (fun cdv A outer s H vs Q E hr h => ?_)
  · obtain ⟨b, rfl, _⟩ := h
    rfl
  · obtain ⟨b, rfl, hb, k⟩ := h
    refine ⟨_, (pss_cons (ps_set (i := 1) sc__law_far.nd rfl (Or.inl rfl) (pe_op op_mul (pe_call G__law_take (hr.mono (by decide)) (by rfl) T.g__law_take T.F__law_take.kp T.b__law_take .nil pass0 (pa_cons (pv 0) (pa_cons (pe_op op_mul pe_int (pe_op op_pow pe_int pe_int)) pa_nil))) (pe_op op_pow pe_int pe_int)))
      (pss_cons (ps_set (i := 2) sc__law_far.nd rfl (Or.inl rfl) (pe_op op_mul (pe_call G__law_take (hr.mono (by decide)) (by rfl) T.g__law_take T.F__law_take.kp T.b__law_take .nil pass0 (pa_cons (pv 0) (pa_cons (pe_op op_pow pe_int pe_int) pa_nil))) (pe_op op_pow pe_int pe_int)))
      (pss_one (ps_ret (pe_op op_add (pe_op op_add (pv 1) (pv 2)) (pe_call G__law_take (hr.mono (by decide)) (by rfl) T.g__law_take T.F__law_take.kp T.b__law_take .nil pass0 (pa_cons (pv 0) (pa_cons (pe_op op_pow pe_int pe_int) pa_nil)))))))), ?_⟩
    walk_at "rd"
    walk_at "dr"
    intro r1 H1 p1 q1 B1 x1
    walk_at "rd"
    walk_at "dr"
    intro r2 H2 p2 q2 B2 x2
    walk_at "rd"
    walk_at "dr"
    intro r3 H3 p3 q3 B3 x3
    walk_at "rd"
    simp only [Int.reduceToNat, Int.reducePow, Int.reduceMul] at *
    exact k _ _ (by omega) (by omega) B3 ((x1.trans x2).trans x3)
theorem sc__law_number : FnScope ["_law_actual", "_law_due"] ["_law_actual", "_law_due"] (defScope s__law_number) := ⟨rfl, rfl, rfl, by decide +kernel, rfl, by decide +kernel, by decide +kernel⟩
theorem ok__law_number (T : Txt K mg D) : FnOk P w K mg base CX0 1 D.a__law_number D.d__law_number ["_law_actual", "_law_due"] spNum := by
  refine T.F__law_number.ok sc__law_number (fun vs H Q E h => ?_) (fun cdv A outer s H vs Q E hr h => ?_)
  · obtain ⟨x, y, rfl, _⟩ := h
    rfl
  · obtain ⟨x, y, rfl, exy, k⟩ := h
    refine ⟨_, (pss_one (ps_ret (pe_and (pe_callB call_isi (by rfl) T.n_isinstance (by decide +kernel) (pa_cons (pv 0) (pa_cons (pe_bltn (v := .ty "int") (u := .type "int") (by rfl) T.n_int (by decide +kernel) rfl) pa_nil))) (pe_and (pe_not (pe_callB call_isi (by rfl) T.n_isinstance (by decide +kernel) (pa_cons (pv 0) (pa_cons (pe_bltn (v := .ty "bool") (u := .type "bool") (by rfl) T.n_bool (by decide +kernel) rfl) pa_nil)))) (pe_one (pe_cmpR op_eq (pv 0) (pv 1) (nomark _))))))), ?_⟩
    walk_at "rd"
    refine ⟨_, _, _, _, true, rfl, .ty "int", .base (.int _), kit_ty (by decide +kernel), ?_⟩
    walk_at "rd"
    refine ⟨_, _, _, _, false, rfl, .ty "bool", .base (.int _), kit_ty (by decide +kernel), ?_⟩
    walk_at "rd"
    have kk : ∀ z : Bool, z = true → Q (.bl z) H := fun z e => e ▸ k
    exact kk _ (by simp [exy])
end
end Toy
set_option Elab.async false
set_option linter.all false
set_option maxRecDepth 100000
set_option maxHeartbeats 4000000
namespace Toy
open PySem L2 XR
local macro_rules | `(tactic| walk_at "ne") => `(tactic| first | assumption | (apply Ne.symm; assumption) | exact XR.ne_fresh (by assumption) (by walk_at "hp") | exact Ne.symm (XR.ne_fresh (by assumption) (by walk_at "hp")))
local macro_rules | `(tactic| walk_at "hp") => `(tactic| first | assumption | exact upd_same | (refine Eq.trans (upd_ne ?_) ?_; (walk_at "ne"); walk_at "hp"))
local macro_rules | `(tactic| walk_at "sq") => `(tactic| first | walk_at "hp" | exact SqL.of (by walk_at "hp") | exact SqT.of (by walk_at "hp"))
local macro_rules | `(tactic| walk_at "br") => `(tactic| (refine ite2 ?_ ?_ <;> intro hbr <;> (try simp only [decide_eq_true_eq, decide_eq_false_iff_not, V.int.injEq, V.bl.injEq, V.str.injEq, Bool.not_eq_true, Bool.not_eq_eq_eq_not, Bool.not_true, Bool.not_false, ne_eq, Int.reduceToNat, Int.reducePow, Int.reduceMul, Int.reduceAdd, Int.reduceSub, reduceCtorEq, not_true_eq_false, not_false_eq_true, Int.not_lt, Int.not_le] at hbr)))
local macro_rules | `(tactic| walk_at "side") => `(tactic| first
  | exact ⟨by decide, by decide, by decide⟩
  | exact .inl ⟨by decide, by decide⟩
  | exact .inr ⟨by decide, by decide⟩
  | exact XR.divw (by first | decide | omega) (by first | decide | omega)
  | (show (_ : Int) = _; first | rfl | omega)
  | (show (0 : Int) < _; first | decide | assumption | omega)
  | exact .inl ⟨by omega, by omega⟩
  | exact .inr ⟨by omega, by omega⟩
  | exact .inl (XR.cmul_mod (by decide))
  | exact XR.log_lt (by omega) (by omega)
  | decide
  | (rw [sizeLine_eq]; simp; done)
  | (show 2 ≤ sizeLine; decide) | (show 3 ≤ sizeLine; decide) | (show 4 ≤ sizeLine; decide) | (show 5 ≤ sizeLine; decide) | (show 6 ≤ sizeLine; decide) | (show 7 ≤ sizeLine; decide) | (show 1 ≤ sizeLine; decide) | (show 8 ≤ sizeLine; decide) | (show 0 ≤ sizeLine; decide))
local macro_rules | `(tactic| walk_at "rd1") => `(tactic| first
  | refine ⟨_, rfl, ?_⟩
  | refine ⟨_, _, rfl, rfl, ?_⟩
  | refine ⟨_, _, _, _, rfl, rfl, (by walk_at "sq"), rfl, ?_⟩
  | refine ⟨_, _, _, _, rfl, rfl, (by walk_at "hp"), (by walk_at "hp"), (by walk_at "side"), ?_⟩
  | refine ⟨_, _, rfl, .inl (by walk_at "sq"), ?_⟩
  | refine ⟨_, _, rfl, .inr (by walk_at "sq"), ?_⟩
  | refine ⟨_, _, _, _, _, rfl, (by walk_at "hp"), (by walk_at "cls"), (by walk_at "noat"), rfl, ?_⟩
  | refine ⟨rfl, ?_⟩
  | refine And.intro (by walk_at "side") ?_
  | refine .inl ⟨_, rfl, ?_⟩
  | refine And.intro ⟨_, (by walk_at "sq")⟩ ?_
  | refine ⟨_, _, rfl, (by walk_at "sq"), ?_⟩
  | refine ⟨_, _, rfl, ?_⟩
  | refine .inr ⟨_, rfl, (by walk_at "side"), ?_⟩
  | refine iteT ?_
  | refine iteF ?_)
local macro_rules | `(tactic| walk_at "rd") => `(tactic| repeat (walk_at "rd1"))
local macro_rules | `(tactic| walk_at "nn") => `(tactic| (simp only [Int.reduceToNat, Int.reducePow, Int.reduceMul, Int.reduceAdd, Int.reduceSub, Int.reduceNeg]))
local macro_rules | `(tactic| walk_at "dr") => `(tactic| repeat (first | refine And.intro (by first | assumption | walk_at "pre") ?_ | refine And.intro (by first | decide | omega) ?_))

local macro_rules | `(tactic| walk_at "cls") => `(tactic| exact T_cl_Stay (by assumption))
local macro_rules | `(tactic| walk_at "noat") => `(tactic| first | exact Txt.no_come (by assumption) | exact Txt.no_go (by assumption))
section
variable {P : Program} {w : World} {K : PySem.W.Frag} {mg : Str → Option Value} {base : Heap} {D : Ad}
def TupAt (H : Hp) (t : Addr) (a b : Int) : Prop := H t = some (.tup [.int a, .int b])
/-- a drawn stretch of days -/
def Pair (b : Addr) (H : Hp) (Q : VK) : Prop := ∀ t H' x y, x ≤ y → -(2 * 10 ^ 18) < x → y < 2 * 10 ^ 18 → BoxAt H' b → ExB b H H' → t ≠ b → TupAt H' t x y → Q (.ref t) H'
theorem BoxAt.new {H : Hp} {b t : Addr} {o : HO} (h : BoxAt H b) (n : H t = none) : BoxAt (L2.upd H t o) b := by
  obtain ⟨c, cs, i, g, st, e1, e2, r⟩ := h
  exact ⟨c, cs, i, g, st, by rw [upd_ne (ne_of_none e1 n)]; exact e1, by rw [upd_ne (ne_of_none e2 n)]; exact e2, r⟩
theorem BoxAt.ne {H : Hp} {b t : Addr} (h : BoxAt H b) (n : H t = none) : t ≠ b := by
  obtain ⟨c, cs, i, g, st, e1, _⟩ := h
  exact (ne_of_none e1 n).symm
theorem BoxAt.same {H H' : Hp} {b : Addr} (h : BoxAt H b) (x : Same H H') : BoxAt H' b := by
  obtain ⟨c, cs, i, g, st, e1, e2, r⟩ := h
  exact ⟨c, cs, i, g, st, x _ _ e1, x _ _ e2, r⟩
local macro_rules | `(tactic| walk_at "pre") => `(tactic| first | assumption | exact BoxAt.new (by walk_at "pre") (by assumption) | exact BoxAt.same (by walk_at "pre") (by assumption))
def spFirst : Sp := fun vs H Q _ => ∃ (b : Addr), vs = [.ref b] ∧ BoxAt H b ∧ Pair b H Q
theorem sc__law_first : FnScope ["_law_box", "_law_come", "_law_scale", "_law_more"] ["_law_box"] (defScope s__law_first) := ⟨rfl, rfl, rfl, by decide +kernel, rfl, by decide +kernel, by decide +kernel⟩
theorem ok__law_first (T : Txt K mg D) : FnOk P w K mg base CX0 3 D.a__law_first D.d__law_first ["_law_box"] spFirst := by
  have G__law_take := ok__law_take (P := P) (w := w) (base := base) T
  have G__law_far := ok__law_far (P := P) (w := w) (base := base) T
  refine T.F__law_first.ok sc__law_first (fun vs H Q E h => ?_) (fun cdv A outer s H vs Q E hr h => ?_)
  · obtain ⟨b, rfl, _⟩ := h
    rfl
  · obtain ⟨b, rfl, hb, k⟩ := h
    refine ⟨_, (pss_cons (ps_set (i := 1) sc__law_first.nd rfl (Or.inl rfl) (pe_op op_sub (pe_call G__law_take (hr.mono (by decide)) (by rfl) T.g__law_take T.F__law_take.kp T.b__law_take .nil pass0 (pa_cons (pv 0) (pa_cons pe_int pa_nil))) pe_int))
      (pss_cons (ps_set (i := 2) sc__law_first.nd rfl (Or.inl rfl) (pe_call G__law_take (hr.mono (by decide)) (by rfl) T.g__law_take T.F__law_take.kp T.b__law_take .nil pass0 (pa_cons (pv 0) (pa_cons pe_int pa_nil))))
      (Evl.pss_cut (ps_if (pt_cmpR op_eq (pv 2) pe_int (nomark _))
      (pss_cons (ps_set (i := 1) sc__law_first.nd rfl (Or.inl rfl) (pe_call G__law_far (hr.mono (by decide)) (by rfl) T.g__law_far T.F__law_far.kp T.b__law_far .nil pass0 (pa_cons (pv 0) pa_nil)))
      (pss_one (ps_if (pt_cmpR op_eq (pe_call G__law_take (hr.mono (by decide)) (by rfl) T.g__law_take T.F__law_take.kp T.b__law_take .nil pass0 (pa_cons (pv 0) (pa_cons pe_int pa_nil))) pe_int (nomark _))
      (pss_one (ps_set (i := 1) sc__law_first.nd rfl (Or.inl rfl) (pe_un un_neg (pv 1))))
      pss_nil)))
      pss_nil)
      (pss_cons (ps_set (i := 3) sc__law_first.nd rfl (Or.inl rfl) (pe_call G__law_take (hr.mono (by decide)) (by rfl) T.g__law_take T.F__law_take.kp T.b__law_take .nil pass0 (pa_cons (pv 0) (pa_cons pe_int pa_nil))))
      (pss_cons (ps_set (i := 2) sc__law_first.nd rfl (Or.inl rfl) (pe_call G__law_take (hr.mono (by decide)) (by rfl) T.g__law_take T.F__law_take.kp T.b__law_take .nil pass0 (pa_cons (pv 0) (pa_cons pe_int pa_nil))))
      (Evl.pss_cut (ps_if (pt_cmpR op_eq (pv 2) pe_int (nomark _))
      (pss_one (ps_set (i := 3) sc__law_first.nd rfl (Or.inl rfl) (pe_call G__law_far (hr.mono (by decide)) (by rfl) T.g__law_far T.F__law_far.kp T.b__law_far .nil pass0 (pa_cons (pv 0) pa_nil))))
      pss_nil)
      (pss_one (ps_ret (pe_tup (pa_cons (pv 1) (pa_cons (pe_op op_add (pv 1) (pv 3)) pa_nil))))))))))), ?_⟩
    walk_at "rd"
    walk_at "dr"
    intro r1 H1 p1 q1 B1 x1
    walk_at "rd"
    walk_at "dr"
    intro r2 H2 p2 q2 B2 x2
    refine ⟨fun σ' H' => Stop (∃ c, σ' = [some (.ref b), some (.int c), some (.int r2), none] ∧ -(10 ^ 18) < c ∧ c < 10 ^ 18 ∧ BoxAt H' b ∧ ExB b H H'), ?_, fun σ3 H3 hm => ?_⟩
    · walk_at "rd"
      walk_at "br"
      · walk_at "rd"
        walk_at "dr"
        intro r3 H3 p3 q3 B3 x3
        walk_at "rd"
        walk_at "dr"
        intro r4 H4 p4 q4 B4 x4
        walk_at "rd"
        walk_at "br"
        · walk_at "rd"
          exact .go ⟨-r3, rfl, by omega, by omega, B4, ((x1.trans x2).trans x3).trans x4⟩
        · exact .go ⟨r3, rfl, by omega, by omega, B4, ((x1.trans x2).trans x3).trans x4⟩
      · exact .go ⟨r1 - 20, rfl, by omega, by omega, B2, x1.trans x2⟩
    · obtain ⟨c, rfl, c1, c2, B3, x3⟩ := hm.out
      walk_at "rd"
      walk_at "dr"
      intro r4 H4 p4 q4 B4 x4
      walk_at "rd"
      walk_at "dr"
      intro r5 H5 p5 q5 B5 x5
      refine ⟨fun σ' H' => Stop (∃ m, σ' = [some (.ref b), some (.int c), some (.int r5), some (.int m)] ∧ 0 ≤ m ∧ m < 10 ^ 18 ∧ BoxAt H' b ∧ ExB b H H'), ?_, fun σ6 H6 hm => ?_⟩
      · walk_at "rd"
        walk_at "br"
        · walk_at "rd"
          walk_at "dr"
          intro r6 H6 p6 q6 B6 x6
          exact .go ⟨r6, rfl, by omega, by omega, B6, ((x3.trans x4).trans x5).trans x6⟩
        · exact .go ⟨r4, rfl, by omega, by omega, B5, (x3.trans x4).trans x5⟩
      · obtain ⟨m, rfl, m1, m2, B6, x6⟩ := hm.out
        walk_at "rd"
        intro t ht
        exact k t _ c (c + m) (by omega) (by omega) (by omega) (B6.new ht) (x6.new ht) (B6.ne ht) upd_same
def spNear : Sp := fun vs H Q _ => ∃ (b t : Addr) (x y : Int), vs = [.ref b, .ref t] ∧ BoxAt H b ∧ t ≠ b ∧ TupAt H t x y ∧ x ≤ y ∧ -(2 * 10 ^ 18) < x ∧ y < 2 * 10 ^ 18 ∧ 
  ∀ t H' u v, u ≤ v → -(3 * 10 ^ 18) < u → v < 3 * 10 ^ 18 → BoxAt H' b → ExB b H H' → t ≠ b → TupAt H' t u v → Q (.ref t) H'
theorem sc__law_near : FnScope ["_law_box", "_law_first_here", "_law_come", "_law_go", "_law_days", "_law_one", "_law_other"] ["_law_box", "_law_first_here"] (defScope s__law_near) := ⟨rfl, rfl, rfl, by decide +kernel, rfl, by decide +kernel, by decide +kernel⟩
theorem ok__law_near (T : Txt K mg D) : FnOk P w K mg base CX0 2 D.a__law_near D.d__law_near ["_law_box", "_law_first_here"] spNear := by
  have G__law_take := ok__law_take (P := P) (w := w) (base := base) T
  refine T.F__law_near.ok sc__law_near (fun vs H Q E h => ?_) (fun cdv A outer s H vs Q E hr h => ?_)
  · obtain ⟨b, t, x, y, rfl, _⟩ := h
    rfl
  · obtain ⟨b, t, x, y, rfl, hb, htb, ht, hxy, h1, h2, k⟩ := h
    unfold TupAt at ht
    refine ⟨_, (pss_cons (ps_set (i := 2) sc__law_near.nd rfl (Or.inl rfl) (pe_ix ix_tup (pv 1) pe_int (fun _ _ => rfl)))
      (pss_cons (ps_set (i := 3) sc__law_near.nd rfl (Or.inl rfl) (pe_ix ix_tup (pv 1) pe_int (fun _ _ => rfl)))
      (pss_cons (ps_set (i := 4) sc__law_near.nd rfl (Or.inl rfl) (pe_lst (pa_cons (pe_op op_sub (pv 2) (pe_op op_pow pe_int pe_int)) (pa_cons (pe_op op_sub (pv 2) pe_int) (pa_cons (pe_op op_sub (pv 2) pe_int) (pa_cons (pv 2) (pa_cons (pe_op op_add (pv 2) pe_int) (pa_cons (pe_op op_fdivW (pe_op op_add (pv 2) (pv 3)) pe_int) pa_nil))))))))
      (pss_cons (ps_set (i := 4) sc__law_near.nd rfl (Or.inl rfl) (pe_op op_cat (pv 4) (pe_lst (pa_cons (pe_op op_sub (pv 3) pe_int) (pa_cons (pv 3) (pa_cons (pe_op op_add (pv 3) pe_int) (pa_cons (pe_op op_add (pv 3) pe_int) (pa_cons (pe_op op_add (pv 3) (pe_op op_pow pe_int pe_int)) pa_nil))))))))
      (pss_cons (ps_set (i := 5) sc__law_near.nd rfl (Or.inl rfl) (pe_ix ix_list (pv 4) (pe_call G__law_take (hr.mono (by decide)) (by rfl) T.g__law_take T.F__law_take.kp T.b__law_take .nil pass0 (pa_cons (pv 0) (pa_cons pe_int pa_nil))) (fun _ _ => rfl)))
      (pss_cons (ps_set (i := 6) sc__law_near.nd rfl (Or.inl rfl) (pe_ix ix_list (pv 4) (pe_call G__law_take (hr.mono (by decide)) (by rfl) T.g__law_take T.F__law_take.kp T.b__law_take .nil pass0 (pa_cons (pv 0) (pa_cons pe_int pa_nil))) (fun _ _ => rfl)))
      (pss_one (ps_ret (pe_tup (pa_cons (pe_callB (call_min2 rfl) (by rfl) T.n_min (by decide +kernel) (pa_cons (pv 5) (pa_cons (pv 6) pa_nil))) (pa_cons (pe_callB (call_max2 rfl) (by rfl) T.n_max (by decide +kernel) (pa_cons (pv 5) (pa_cons (pv 6) pa_nil))) pa_nil))))))))))), ?_⟩
    walk_at "rd"
    intro p1 hp1
    walk_at "rd"
    intro p2 hp2
    walk_at "rd"
    intro p3 hp3
    walk_at "rd"
    walk_at "dr"
    intro r1 H1 q1 q1' B1 x1
    have all : ∀ v ∈ ([.int (x - 10 ^ 17), .int (x - 5), .int (x - 1), .int x, .int (x + 1), .int ((x + y) / 2), .int (y - 1), .int y, .int (y + 1), .int (y + 5), .int (y + 10 ^ 17)] : List V),
        ∃ z : Int, v = .int z ∧ -(3 * 10 ^ 18) < z ∧ z < 3 * 10 ^ 18 := by
      intro v hv
      simp only [List.mem_cons, List.not_mem_nil, or_false] at hv
      rcases hv with rfl | rfl | rfl | rfl | rfl | rfl | rfl | rfl | rfl | rfl | rfl <;> exact ⟨_, rfl, by omega, by omega⟩
    obtain ⟨v1, a1, m1⟩ := at_lt (xs := [V.int (x - 10 ^ 17), .int (x - 5), .int (x - 1), .int x, .int (x + 1), .int ((x + y) / 2), .int (y - 1), .int y, .int (y + 1), .int (y + 5), .int (y + 10 ^ 17)]) q1 q1'
    obtain ⟨z1, rfl, b1, b1'⟩ := all v1 m1
    have n3 : p3 ≠ b := BoxAt.ne (by walk_at "pre") hp3
    have e3 := x1 p3 _ n3 upd_same
    refine ⟨_, _, _, _, rfl, rfl, SqL.of e3, a1, ?_⟩
    walk_at "rd"
    walk_at "dr"
    intro r2 H2 q2 q2' B2 x2
    obtain ⟨v2, a2, m2⟩ := at_lt (xs := [V.int (x - 10 ^ 17), .int (x - 5), .int (x - 1), .int x, .int (x + 1), .int ((x + y) / 2), .int (y - 1), .int y, .int (y + 1), .int (y + 5), .int (y + 10 ^ 17)]) q2 q2'
    obtain ⟨z2, rfl, b2, b2'⟩ := all v2 m2
    refine ⟨_, _, _, _, rfl, rfl, SqL.of (x2 p3 _ n3 e3), a2, ?_⟩
    walk_at "rd"
    intro t' ht'
    have e1 := max_if z1 z2
    have e2 := min_if z1 z2
    rw [e1, e2] at *
    refine k t' _ (min z1 z2) (max z1 z2) (by omega) (by omega) (by omega) (B2.new ht') ?_ (B2.ne ht') upd_same
    refine ExB.new (ExB.trans ?_ (x1.trans x2)) ht'
    exact ExB.of (Same.new (Same.new (Same.new (Same.refl H) hp1) hp2) hp3)
end
end Toy
set_option Elab.async false
set_option linter.all false
set_option maxRecDepth 100000
set_option maxHeartbeats 4000000
namespace Toy
open PySem L2 XR
local macro_rules | `(tactic| walk_at "ne") => `(tactic| first | assumption | (apply Ne.symm; assumption) | exact XR.ne_fresh (by assumption) (by walk_at "hp") | exact Ne.symm (XR.ne_fresh (by assumption) (by walk_at "hp")))
local macro_rules | `(tactic| walk_at "hp") => `(tactic| first | assumption | exact upd_same | (refine Eq.trans (upd_ne ?_) ?_; (walk_at "ne"); walk_at "hp"))
local macro_rules | `(tactic| walk_at "sq") => `(tactic| first | walk_at "hp" | exact SqL.of (by walk_at "hp") | exact SqT.of (by walk_at "hp"))
local macro_rules | `(tactic| walk_at "br") => `(tactic| (refine ite2 ?_ ?_ <;> intro hbr <;> (try simp only [decide_eq_true_eq, decide_eq_false_iff_not, V.int.injEq, V.bl.injEq, V.str.injEq, Bool.not_eq_true, Bool.not_eq_eq_eq_not, Bool.not_true, Bool.not_false, ne_eq, Int.reduceToNat, Int.reducePow, Int.reduceMul, Int.reduceAdd, Int.reduceSub, reduceCtorEq, not_true_eq_false, not_false_eq_true, Int.not_lt, Int.not_le] at hbr)))
local macro_rules | `(tactic| walk_at "side") => `(tactic| first
  | exact ⟨by decide, by decide, by decide⟩
  | exact .inl ⟨by decide, by decide⟩
  | exact .inr ⟨by decide, by decide⟩
  | exact XR.divw (by first | decide | omega) (by first | decide | omega)
  | (show (_ : Int) = _; first | rfl | omega)
  | (show (0 : Int) < _; first | decide | assumption | omega)
  | exact .inl ⟨by omega, by omega⟩
  | exact .inr ⟨by omega, by omega⟩
  | exact .inl (XR.cmul_mod (by decide))
  | exact XR.log_lt (by omega) (by omega)
  | decide
  | (rw [sizeLine_eq]; simp; done)
  | (show 2 ≤ sizeLine; decide) | (show 3 ≤ sizeLine; decide) | (show 4 ≤ sizeLine; decide) | (show 5 ≤ sizeLine; decide) | (show 6 ≤ sizeLine; decide) | (show 7 ≤ sizeLine; decide) | (show 1 ≤ sizeLine; decide) | (show 8 ≤ sizeLine; decide) | (show 0 ≤ sizeLine; decide))
local macro_rules | `(tactic| walk_at "rd1") => `(tactic| first
  | refine ⟨_, rfl, ?_⟩
  | refine ⟨_, _, rfl, rfl, ?_⟩
  | refine ⟨_, _, _, _, rfl, rfl, (by walk_at "sq"), rfl, ?_⟩
  | refine ⟨_, _, _, _, rfl, rfl, (by walk_at "hp"), (by walk_at "hp"), (by walk_at "side"), ?_⟩
  | refine ⟨_, _, rfl, .inl (by walk_at "sq"), ?_⟩
  | refine ⟨_, _, rfl, .inr (by walk_at "sq"), ?_⟩
  | refine ⟨_, _, _, _, _, rfl, (by walk_at "hp"), (by walk_at "cls"), (by walk_at "noat"), rfl, ?_⟩
  | refine ⟨rfl, ?_⟩
  | refine And.intro (by walk_at "side") ?_
  | refine .inl ⟨_, rfl, ?_⟩
  | refine And.intro ⟨_, (by walk_at "sq")⟩ ?_
  | refine ⟨_, _, rfl, (by walk_at "sq"), ?_⟩
  | refine ⟨_, _, rfl, ?_⟩
  | refine .inr ⟨_, rfl, (by walk_at "side"), ?_⟩
  | refine iteT ?_
  | refine iteF ?_)
local macro_rules | `(tactic| walk_at "rd") => `(tactic| repeat (walk_at "rd1"))
local macro_rules | `(tactic| walk_at "nn") => `(tactic| (simp only [Int.reduceToNat, Int.reducePow, Int.reduceMul, Int.reduceAdd, Int.reduceSub, Int.reduceNeg]))
local macro_rules | `(tactic| walk_at "dr") => `(tactic| repeat (first | refine And.intro (by first | assumption | walk_at "pre") ?_ | refine And.intro (by first | decide | omega) ?_))

local macro_rules | `(tactic| walk_at "cls") => `(tactic| exact T_cl_Stay (by assumption))
local macro_rules | `(tactic| walk_at "noat") => `(tactic| first | exact Txt.no_come (by assumption) | exact Txt.no_go (by assumption))
section
variable {P : Program} {w : World} {K : PySem.W.Frag} {mg : Str → Option Value} {base : Heap} {D : Ad}
local macro_rules | `(tactic| walk_at "pre") => `(tactic| first | assumption | exact BoxAt.new (by walk_at "pre") (by assumption) | exact BoxAt.same (by walk_at "pre") (by assumption))
def spMany : Sp := fun vs H Q _ => ∃ (b : Addr), vs = [.ref b] ∧ BoxAt H b ∧ Drawn b H (-(2 * 10 ^ 17)) (2 * 10 ^ 17) Q
theorem sc__law_many : FnScope ["_law_box", "_law_near_here", "_law_far_here"] ["_law_box"] (defScope s__law_many) := ⟨rfl, rfl, rfl, by decide +kernel, rfl, by decide +kernel, by decide +kernel⟩
theorem ok__law_many (T : Txt K mg D) : FnOk P w K mg base CX0 3 D.a__law_many D.d__law_many ["_law_box"] spMany := by
  have G__law_take := ok__law_take (P := P) (w := w) (base := base) T
  have G__law_far := ok__law_far (P := P) (w := w) (base := base) T
  refine T.F__law_many.ok sc__law_many (fun vs H Q E h => ?_) (fun cdv A outer s H vs Q E hr h => ?_)
  · obtain ⟨b, rfl, _⟩ := h
    rfl
  · obtain ⟨b, rfl, hb, k⟩ := h
    refine ⟨_, (pss_cons (ps_set (i := 1) sc__law_many.nd rfl (Or.inl rfl) (pe_op op_sub (pe_call G__law_take (hr.mono (by decide)) (by rfl) T.g__law_take T.F__law_take.kp T.b__law_take .nil pass0 (pa_cons (pv 0) (pa_cons pe_int pa_nil))) pe_int))
      (pss_cons (ps_set (i := 2) sc__law_many.nd rfl (Or.inl rfl) (pe_op op_fdivW (pe_call G__law_far (hr.mono (by decide)) (by rfl) T.g__law_far T.F__law_far.kp T.b__law_far .nil pass0 (pa_cons (pv 0) pa_nil)) pe_int))
      (Evl.pss_cut (ps_if (pt_cmpR op_eq (pe_call G__law_take (hr.mono (by decide)) (by rfl) T.g__law_take T.F__law_take.kp T.b__law_take .nil pass0 (pa_cons (pv 0) (pa_cons pe_int pa_nil))) pe_int (nomark _))
      (pss_one (ps_set (i := 2) sc__law_many.nd rfl (Or.inl rfl) (pe_un un_neg (pv 2))))
      pss_nil)
      (pss_one (ps_ret (pe_ix ix_list (pe_lst (pa_cons pe_int (pa_cons pe_int (pa_cons (pe_un un_neg pe_int) (pa_cons (pv 1) (pa_cons (pv 2) pa_nil)))))) (pe_call G__law_take (hr.mono (by decide)) (by rfl) T.g__law_take T.F__law_take.kp T.b__law_take .nil pass0 (pa_cons (pv 0) (pa_cons pe_int pa_nil))) (fun _ _ => rfl))))))), ?_⟩
    walk_at "rd"
    walk_at "dr"
    intro r1 H1 p1 q1 B1 x1
    walk_at "rd"
    walk_at "dr"
    intro r2 H2 p2 q2 B2 x2
    walk_at "rd"
    refine ⟨fun σ' H' => Stop (∃ c, σ' = [some (.ref b), some (.int (r1 - 30)), some (.int c)] ∧ -(10 ^ 17) ≤ c ∧ c ≤ 10 ^ 17 ∧ BoxAt H' b ∧ ExB b H H'), ?_, fun σ3 H3 hm => ?_⟩
    · walk_at "rd"
      walk_at "dr"
      intro r3 H3 p3 q3 B3 x3
      walk_at "rd"
      walk_at "br"
      · walk_at "rd"
        exact .go ⟨-(r2 / 4), rfl, by omega, by omega, B3, (x1.trans x2).trans x3⟩
      · exact .go ⟨r2 / 4, rfl, by omega, by omega, B3, (x1.trans x2).trans x3⟩
    · obtain ⟨c, rfl, c1, c2, B3, x3⟩ := hm.out
      walk_at "rd"
      intro t ht
      walk_at "rd"
      walk_at "dr"
      intro r4 H4 p4 q4 B4 x4
      have all : ∀ v ∈ ([.int 0, .int 1, .int (-1), .int (r1 - 30), .int c] : List V), ∃ z : Int, v = .int z ∧ -(2 * 10 ^ 17) ≤ z ∧ z < 2 * 10 ^ 17 := by
        intro v hv
        simp only [List.mem_cons, List.not_mem_nil, or_false] at hv
        rcases hv with rfl | rfl | rfl | rfl | rfl <;> exact ⟨_, rfl, by omega, by omega⟩
      obtain ⟨v, a, m⟩ := at_lt (xs := [V.int 0, .int 1, .int (-1), .int (r1 - 30), .int c]) p4 q4
      obtain ⟨z, rfl, z1, z2⟩ := all v m
      have nt : t ≠ b := BoxAt.ne (by walk_at "pre") ht
      refine ⟨_, _, _, _, rfl, rfl, SqL.of (x4 t _ nt upd_same), a, ?_⟩
      exact k z H4 z1 z2 B4 ((x3.new ht).trans x4)
/-- it gives True, all stands -/
def Yes (H : Hp) (Q : VK) : Prop := ∀ H', Same H H' → Q (.bl true) H'
def spIs (D : Ad) : Sp := fun vs H Q _ => ∃ (p t : Addr) (a b : Int), vs = [.ref p, .ref t] ∧ StayAt D H p a b ∧ TupAt H t a b ∧ -(10 ^ 20) < a ∧ a < 10 ^ 20 ∧ -(10 ^ 20) < b ∧ b < 10 ^ 20 ∧ Yes H Q
theorem sc__law_is : FnScope ["_law_stay", "_law_days", "_law_text"] ["_law_stay", "_law_days"] (defScope s__law_is) := ⟨rfl, rfl, rfl, by decide +kernel, rfl, by decide +kernel, by decide +kernel⟩
theorem ok__law_is (T : Txt K mg D) : FnOk P w K mg base CX0 4 D.a__law_is D.d__law_is ["_law_stay", "_law_days"] (spIs D) := by
  have G__law_number := ok__law_number (P := P) (w := w) (base := base) T
  have G_Stay_width := ok_Stay_width (P := P) (w := w) (base := base) T
  have G_Stay___str__ := ok_Stay_str (P := P) (w := w) (base := base) T
  refine T.F__law_is.ok sc__law_is (fun vs H Q E h => ?_) (fun cdv A outer s H vs Q E hr h => ?_)
  · obtain ⟨p, t, a, b, rfl, _⟩ := h
    rfl
  · obtain ⟨p, t, a, b, rfl, ⟨dx, hp⟩, ht, a1, a2, b1, b2, k⟩ := h
    unfold TupAt at ht
    refine ⟨_, (pss_cons (ps_if (pt_not (pt_val (pe_callB call_isi (by rfl) T.n_isinstance (by decide +kernel) (pa_cons (pv 0) (pa_cons (pe_glob (v := .ref D.c_Stay) (by rfl) T.g_Stay rfl) pa_nil)))))
      (pss_one (ps_ret pe_bl))
      pss_nil)
      (pss_cons (ps_if (PW.pt (pw_or (pt_not (pt_val (pe_call G__law_number (hr.mono (by decide)) (by rfl) T.g__law_number T.F__law_number.kp T.b__law_number .nil pass0 (pa_cons (pe_fld (pv 0) rfl) (pa_cons (pe_ix ix_tup (pv 1) pe_int (fun _ _ => rfl)) pa_nil))))) (pw_or1 (pt_not (pt_val (pe_call G__law_number (hr.mono (by decide)) (by rfl) T.g__law_number T.F__law_number.kp T.b__law_number .nil pass0 (pa_cons (pe_fld (pv 0) rfl) (pa_cons (pe_ix ix_tup (pv 1) pe_int (fun _ _ => rfl)) pa_nil))))))))
      (pss_one (ps_ret pe_bl))
      pss_nil)
      (pss_cons (ps_set (i := 2) sc__law_is.nd rfl (Or.inl rfl) (pe_op op_add_str (pe_op op_add_str (pe_callTy call_str_int (by rfl) T.n_str (by decide +kernel) (pa_cons (pe_ix ix_tup (pv 1) pe_int (fun _ _ => rfl)) pa_nil)) pe_str) (pe_callTy call_str_int (by rfl) T.n_str (by decide +kernel) (pa_cons (pe_ix ix_tup (pv 1) pe_int (fun _ _ => rfl)) pa_nil))))
      (pss_one (ps_ret (pe_and (pe_call G__law_number (hr.mono (by decide)) (by rfl) T.g__law_number T.F__law_number.kp T.b__law_number .nil pass0 (pa_cons (pe_prop (pv 0) (T_cl_Stay T) (T_p_Stay_width T) G_Stay_width (hr.mono (by decide)) T.b_Stay_width .nil pass0 rfl) (pa_cons (pe_op op_add (pe_op op_sub (pe_ix ix_tup (pv 1) pe_int (fun _ _ => rfl)) (pe_ix ix_tup (pv 1) pe_int (fun _ _ => rfl))) pe_int) pa_nil))) (pe_one (pe_cmpR op_eq (pe_callTy (XR.call_str_own (T_o_Stay___str__ T) G_Stay___str__ (hr.mono (by decide)) T.b_Stay___str__ pass0) (by rfl) T.n_str (by decide +kernel) (pa_cons (pv 0) pa_nil)) (pv 2) (nomark _))))))))), ?_⟩
    have la := PyProof.Rows.int_text_len_1921 (i := a) (XR.log_lt (by omega) (by omega))
    have lb := PyProof.Rows.int_text_len_1921 (i := b) (XR.log_lt (by omega) (by omega))
    have l2 : (Str.ofString "..").length = 2 := rfl
    have ez : sizeLine = 16777216 := sizeLine_eq
    walk_at "rd"
    refine ⟨_, _, _, _, true, rfl, .own D.c_Stay, T_ty_Stay T hp, T.z_Stay, ?_⟩
    walk_at "rd"
    refine ⟨by omega, ?_⟩
    walk_at "rd"
    refine ⟨by rw [Str.length_append]; omega, ?_⟩
    walk_at "rd"
    refine ⟨_, _, _, rfl, hp, p, a, b, rfl, ⟨dx, hp⟩, ?_⟩
    walk_at "rd"
    refine ⟨_, _, _, rfl, hp, p, a, b, rfl, ⟨dx, hp⟩, by omega, by omega, by omega, by omega, ?_⟩
    walk_at "rd"
    have et : textOf a b = Str.ofString (toString a) ++ Str.ofString ".." ++ Str.ofString (toString b) := by
      unfold textOf
      rw [empty_app]
    rw [et]
    have kk : ∀ z : Bool, z = true → Q (.bl z) H := fun z e => e ▸ k H (Same.refl H)
    exact kk _ (decide_eq_true rfl)
def spHasL (D : Ad) : Sp := fun vs H Q _ => ∃ (p t o : Addr) (a b c d : Int), vs = [.ref p, .ref t, .ref o] ∧ StayAt D H p a b ∧ TupAt H t a b ∧ TupAt H o c d ∧ Yes H Q
theorem sc__law_has : FnScope ["_law_stay", "_law_days", "_law_other", "_law_asked", "_law_day"] ["_law_stay", "_law_days", "_law_other"] (defScope s__law_has) := ⟨rfl, rfl, rfl, by decide +kernel, rfl, by decide +kernel, by decide +kernel⟩
theorem ok__law_has (T : Txt K mg D) : FnOk P w K mg base CX0 2 D.a__law_has D.d__law_has ["_law_stay", "_law_days", "_law_other"] (spHasL D) := by
  have G_Stay___contains__ := ok_Stay_has (P := P) (w := w) (base := base) T
  refine T.F__law_has.ok sc__law_has (fun vs H Q E h => ?_) (fun cdv A outer s H vs Q E hr h => ?_)
  · obtain ⟨p, t, o, a, b, c, d, rfl, _⟩ := h
    rfl
  · obtain ⟨p, t, o, a, b, c, d, rfl, ⟨dx, hp⟩, ht, ho, k⟩ := h
    unfold TupAt at ht ho
    refine ⟨_, (pss_cons (ps_set (i := 3) sc__law_has.nd rfl (Or.inl rfl) (pe_lst (pa_cons (pe_op op_sub (pe_ix ix_tup (pv 1) pe_int (fun _ _ => rfl)) pe_int) (pa_cons (pe_ix ix_tup (pv 1) pe_int (fun _ _ => rfl)) (pa_cons (pe_op op_add (pe_ix ix_tup (pv 1) pe_int (fun _ _ => rfl)) pe_int) (pa_cons (pe_op op_fdivW (pe_op op_add (pe_ix ix_tup (pv 1) pe_int (fun _ _ => rfl)) (pe_ix ix_tup (pv 1) pe_int (fun _ _ => rfl))) pe_int) (pa_cons (pe_op op_sub (pe_ix ix_tup (pv 1) pe_int (fun _ _ => rfl)) pe_int) (pa_cons (pe_ix ix_tup (pv 1) pe_int (fun _ _ => rfl)) (pa_cons (pe_op op_add (pe_ix ix_tup (pv 1) pe_int (fun _ _ => rfl)) pe_int) pa_nil)))))))))
      (pss_cons (ps_set (i := 3) sc__law_has.nd rfl (Or.inl rfl) (pe_op op_cat (pv 3) (pe_lst (pa_cons (pe_ix ix_tup (pv 2) pe_int (fun _ _ => rfl)) (pa_cons (pe_ix ix_tup (pv 2) pe_int (fun _ _ => rfl)) (pa_cons (pe_op op_sub (pe_ix ix_tup (pv 2) pe_int (fun _ _ => rfl)) pe_int) (pa_cons (pe_op op_add (pe_ix ix_tup (pv 2) pe_int (fun _ _ => rfl)) pe_int) pa_nil)))))))
      (pss_cons (ps_for PassesOwn.never rfl (pi_list (pv 3)) (pg_name (i := 4) sc__law_has.nd rfl (Or.inl rfl))
      (pss_one (ps_if (pt_cmpR op_ne (pe_cmpR (XR.op_in_own (T_o_Stay___contains__ T) G_Stay___contains__ (hr.mono (by decide)) T.b_Stay___contains__ pass0) (pv 4) (pv 0) rfl) (pe_and (pe_cmpR op_le (pe_ix ix_tup (pv 1) pe_int (fun _ _ => rfl)) (pv 4) (nomark _)) (pe_one (pe_cmpR op_le (pv 4) (pe_ix ix_tup (pv 1) pe_int (fun _ _ => rfl)) (nomark _)))) (nomark _))
      (pss_one (ps_ret pe_bl))
      pss_nil)))
      (pss_one (ps_ret pe_bl))))), ?_⟩
    walk_at "rd"
    intro p1 hp1
    walk_at "rd"
    intro p2 hp2
    walk_at "rd"
    intro p3 hp3
    walk_at "rd"
    have all : ∀ v ∈ ([.int (a - 1), .int a, .int (a + 1), .int ((a + b) / 2), .int (b - 1), .int b, .int (b + 1), .int c, .int d, .int (c - 1), .int (d + 1)] : List V), ∃ z : Int, v = .int z := by
      intro v hv
      simp only [List.mem_cons, List.not_mem_nil, or_false] at hv
      rcases hv with rfl | rfl | rfl | rfl | rfl | rfl | rfl | rfl | rfl | rfl | rfl <;> exact ⟨_, rfl⟩
    generalize hL : ([.int (a - 1), .int a, .int (a + 1), .int ((a + b) / 2), .int (b - 1), .int b, .int (b + 1), .int c, .int d, .int (c - 1), .int (d + 1)] : List V) = L at all
    refine for_list (K := K) (a := p3) (xs := L) (fun i σ H2 => Stop (∃ (v : Option V), σ = [some (.ref p), some (.ref t), some (.ref o), some (.ref p3), v] ∧ Same H H2 ∧ H2 p3 = some (.lst L)))
      (.go ⟨none, rfl, Same.new (Same.new (Same.new (Same.refl H) hp1) hp2) hp3, hL ▸ upd_same⟩) (fun i σ H2 _ h => by obtain ⟨_, _, _, e1⟩ := h.out; exact SqL.of e1) ?_ ?_
    · intro i x σ H2 hi hm
      obtain ⟨v, rfl, x2, e2⟩ := hm.out
      obtain ⟨z, rfl⟩ := all x (List.mem_of_getElem? hi)
      have hp2 := x2 _ _ hp
      have ht2 := x2 _ _ ht
      walk_at "rd"
      refine ⟨_, _, _, rfl, hp2, p, a, b, z, rfl, ⟨dx, hp2⟩, fun y => ?_, fun y => ?_⟩
      · walk_at "rd"
        walk_at "br"
        · walk_at "rd"
          refine ifF (by simp [y.2]) ?_
          walk_at "rd"
          exact .go ⟨_, rfl, x2, e2⟩
        · omega
      · walk_at "rd"
        walk_at "br"
        · walk_at "rd"
          refine ifF (by simp; omega) ?_
          walk_at "rd"
          exact .go ⟨_, rfl, x2, e2⟩
        · walk_at "rd"
          exact .go ⟨_, rfl, x2, e2⟩
    · intro σ H2 hm
      obtain ⟨v, rfl, x2, e2⟩ := hm.out
      walk_at "rd"
      exact k _ x2
def spMoved (D : Ad) : Sp := fun vs H Q _ => ∃ (p t : Addr) (a b m : Int), vs = [.ref p, .ref t, .int m] ∧ StayAt D H p a b ∧ TupAt H t a b ∧ a ≤ b ∧ -(10 ^ 19) < a ∧ b < 10 ^ 19 ∧ -(10 ^ 19) < m ∧ m < 10 ^ 19 ∧ Yes H Q
theorem sc__law_moved : FnScope ["_law_stay", "_law_days", "_law_many_here", "_law_later", "_law_earlier"] ["_law_stay", "_law_days", "_law_many_here"] (defScope s__law_moved) := ⟨rfl, rfl, rfl, by decide +kernel, rfl, by decide +kernel, by decide +kernel⟩
theorem ok__law_moved (T : Txt K mg D) : FnOk P w K mg base CX0 6 D.a__law_moved D.d__law_moved ["_law_stay", "_law_days", "_law_many_here"] (spMoved D) := by
  have G__law_is := ok__law_is (P := P) (w := w) (base := base) T
  have G_Stay___add__ := ok_Stay_add (P := P) (w := w) (base := base) T
  have G_Stay___sub__ := ok_Stay_sub (P := P) (w := w) (base := base) T
  have G_Stay___eq__ := ok_Stay_eq (P := P) (w := w) (base := base) T
  refine T.F__law_moved.ok sc__law_moved (fun vs H Q E h => ?_) (fun cdv A outer s H vs Q E hr h => ?_)
  · obtain ⟨p, t, a, b, m, rfl, _⟩ := h
    rfl
  · obtain ⟨p, t, a, b, m, rfl, S, ht, hab, a1, b1, m1, m2, k⟩ := h
    have S0 := S
    obtain ⟨dx, hp⟩ := S0
    refine ⟨_, (pss_cons (ps_set (i := 3) sc__law_moved.nd rfl (Or.inl rfl) (pe_op (XR.op_ownI (T_o_Stay___add__ T) (T_i_Stay___add__ T) G_Stay___add__ (hr.mono (by decide)) T.b_Stay___add__ pass0) (pv 0) (pv 2)))
      (pss_cons (ps_set (i := 4) sc__law_moved.nd rfl (Or.inl rfl) (pe_op (XR.op_ownI (T_o_Stay___sub__ T) (T_i_Stay___sub__ T) G_Stay___sub__ (hr.mono (by decide)) T.b_Stay___sub__ pass0) (pv 0) (pv 2)))
      (pss_cons (ps_if (pt_not (pt_val (pe_call G__law_is (hr.mono (by decide)) (by rfl) T.g__law_is T.F__law_is.kp T.b__law_is .nil pass0 (pa_cons (pv 3) (pa_cons (pe_tup (pa_cons (pe_op op_add (pe_ix ix_tup (pv 1) pe_int (fun _ _ => rfl)) (pv 2)) (pa_cons (pe_op op_add (pe_ix ix_tup (pv 1) pe_int (fun _ _ => rfl)) (pv 2)) pa_nil))) pa_nil)))))
      (pss_one (ps_ret pe_bl))
      pss_nil)
      (pss_cons (ps_if (pt_not (pt_val (pe_call G__law_is (hr.mono (by decide)) (by rfl) T.g__law_is T.F__law_is.kp T.b__law_is .nil pass0 (pa_cons (pv 4) (pa_cons (pe_tup (pa_cons (pe_op op_sub (pe_ix ix_tup (pv 1) pe_int (fun _ _ => rfl)) (pv 2)) (pa_cons (pe_op op_sub (pe_ix ix_tup (pv 1) pe_int (fun _ _ => rfl)) (pv 2)) pa_nil))) pa_nil)))))
      (pss_one (ps_ret pe_bl))
      pss_nil)
      (pss_one (ps_ret (pe_and (pe_call G__law_is (hr.mono (by decide)) (by rfl) T.g__law_is T.F__law_is.kp T.b__law_is .nil pass0 (pa_cons (pe_op (XR.op_ownI (T_o_Stay___sub__ T) (T_i_Stay___sub__ T) G_Stay___sub__ (hr.mono (by decide)) T.b_Stay___sub__ pass0) (pv 3) (pv 2)) (pa_cons (pv 1) pa_nil))) (pe_and (pe_cmpR (XR.op_eq_own (T_o_Stay___eq__ T) G_Stay___eq__ (hr.mono (by decide)) T.b_Stay___eq__ pass0) (pe_op (XR.op_ownI (T_o_Stay___sub__ T) (T_i_Stay___sub__ T) G_Stay___sub__ (hr.mono (by decide)) T.b_Stay___sub__ pass0) (pv 3) (pv 2)) (pv 0) (nomark _)) (pe_one (pe_cmpR (XR.op_eq_own (T_o_Stay___eq__ T) G_Stay___eq__ (hr.mono (by decide)) T.b_Stay___eq__ pass0) (pe_op (XR.op_ownI (T_o_Stay___add__ T) (T_i_Stay___add__ T) G_Stay___add__ (hr.mono (by decide)) T.b_Stay___add__ pass0) (pv 4) (pv 2)) (pv 0) (nomark _))))))))))), ?_⟩
    walk_at "rd"
    refine ⟨_, _, _, _, rfl, rfl, hp, p, a, b, m, rfl, S, hab, fun q1 H1 n1 x1 s1 => ?_⟩
    walk_at "rd"
    have S1 := S.same x1
    obtain ⟨dx1, hp1⟩ := S1
    refine ⟨_, _, _, _, rfl, rfl, hp1, p, a, b, m, rfl, ⟨dx1, hp1⟩, hab, fun q2 H2 n2 x2 s2 => ?_⟩
    have s1' := s1.same x2
    have S2 := S.same (x1.trans x2)
    have ht2 := (x1.trans x2) _ _ ht
    walk_at "rd"
    intro t1 ht1
    walk_at "rd"
    refine ⟨q1, t1, a + m, b + m, rfl, s1'.new ht1, upd_same, by omega, by omega, by omega, by omega, fun H3 x3 => ?_⟩
    have y3 := (Same.new (Same.refl H2) ht1).trans x3
    have ht3 := y3 _ _ ht2
    walk_at "rd"
    intro t2 ht4
    walk_at "rd"
    refine ⟨q2, t2, a - m, b - m, rfl, (s2.same y3).new ht4, upd_same, by omega, by omega, by omega, by omega, fun H4 x4 => ?_⟩
    have y4 := y3.trans ((Same.new (Same.refl H3) ht4).trans x4)
    have s14 := s1'.same y4
    obtain ⟨dx4, hp4⟩ := s14
    walk_at "rd"
    refine ⟨_, _, _, _, rfl, rfl, hp4, q1, _, _, m, rfl, ⟨dx4, hp4⟩, (by dsimp only; omega), fun q5 H5 n5 x5 s5 => ?_⟩
    walk_at "rd"
    refine ⟨q5, t, a, b, rfl, by rw [show a = a + m - m by omega, show b = b + m - m by omega]; exact s5, (y4.trans x5) _ _ ht2, by omega, by omega, by omega, by omega, fun H6 x6 => ?_⟩
    have y6 := y4.trans (x5.trans x6)
    obtain ⟨dx6, hp6⟩ := s1'.same y6
    walk_at "rd"
    refine ⟨_, _, _, _, rfl, rfl, hp6, q1, _, _, m, rfl, ⟨dx6, hp6⟩, (by dsimp only; omega), fun q7 H7 n7 x7 s7 => ?_⟩
    walk_at "rd"
    obtain ⟨dx7, hp7⟩ := s7
    obtain ⟨dx8, hp8⟩ := S2.same (y6.trans x7)
    refine ⟨_, _, _, _, _, _, rfl, rfl, hp7, hp8, q7, p, _, _, a, b, rfl, ⟨dx7, hp7⟩, ⟨dx8, hp8⟩, fun _ => ?_, fun z => (z (by dsimp only; omega)).elim⟩
    walk_at "rd"
    obtain ⟨dx9, hp9⟩ := s2.same (y6.trans x7)
    refine ⟨_, _, _, _, rfl, rfl, hp9, q2, _, _, m, rfl, ⟨dx9, hp9⟩, (by dsimp only; omega), fun q9 H9 n9 x9 s9 => ?_⟩
    walk_at "rd"
    obtain ⟨dx10, hp10⟩ := s9
    obtain ⟨dx11, hp11⟩ := S2.same ((y6.trans x7).trans x9)
    refine ⟨_, _, _, _, _, _, rfl, rfl, hp10, hp11, q9, p, _, _, a, b, rfl, ⟨dx10, hp10⟩, ⟨dx11, hp11⟩, fun _ => ?_, fun z => (z (by dsimp only; omega)).elim⟩
    walk_at "rd"
    exact k _ ((x1.trans x2).trans ((y6.trans x7).trans x9))
theorem okq__law_number (T : Txt K mg D) : XR.FnQ P w K mg base 1 D.a__law_number D.d__law_number ["_law_actual", "_law_due"] (fun _ => spNum) := by
  refine XR.okQ T.F__law_number sc__law_number (fun p vs H Q E h => ?_) (fun cdv A outer s H vs Q p hr h => ?_)
  · obtain ⟨x, y, rfl, _⟩ := h
    rfl
  · obtain ⟨x, y, rfl, exy, k⟩ := h
    refine ⟨_, (pss_one (ps_ret (pe_and (pe_callB call_isi (by rfl) T.n_isinstance (by decide +kernel) (pa_cons (pv 0) (pa_cons (pe_bltn (v := .ty "int") (u := .type "int") (by rfl) T.n_int (by decide +kernel) rfl) pa_nil))) (pe_and (pe_not (pe_callB call_isi (by rfl) T.n_isinstance (by decide +kernel) (pa_cons (pv 0) (pa_cons (pe_bltn (v := .ty "bool") (u := .type "bool") (by rfl) T.n_bool (by decide +kernel) rfl) pa_nil)))) (pe_one (pe_cmpR op_eq (pv 0) (pv 1) (nomark _))))))), ?_⟩
    walk_at "rd"
    refine ⟨_, _, _, _, true, rfl, .ty "int", .base (.int _), kit_ty (by decide +kernel), ?_⟩
    walk_at "rd"
    refine ⟨_, _, _, _, false, rfl, .ty "bool", .base (.int _), kit_ty (by decide +kernel), ?_⟩
    walk_at "rd"
    have kk : ∀ z : Bool, z = true → Q (.bl z) H := fun z e => e ▸ k
    exact kk _ (by simp [exy])
def spApart (D : Ad) : Sp := fun vs H Q _ => ∃ (p q : Addr) (a b c d : Int), vs = [.ref p, .ref q, .int (max a c - min b d)] ∧ StayAt D H p a b ∧ StayAt D H q c d ∧ min b d < max a c ∧ Yes H Q
theorem sc__law_apart : FnScope ["_law_one", "_law_two", "_law_gap", "_law_common", "e"] ["_law_one", "_law_two", "_law_gap"] (defScope s__law_apart) := ⟨rfl, rfl, rfl, by decide +kernel, rfl, by decide +kernel, by decide +kernel⟩
theorem ok__law_apart (T : Txt K mg D) : FnOk P w K mg base CX0 7 D.a__law_apart D.d__law_apart ["_law_one", "_law_two", "_law_gap"] (spApart D) := by
  have G_Stay___and__ := ok_Stay_and (P := P) (w := w) (base := base) T
  have G__law_numberq := okq__law_number (P := P) (w := w) (base := base) T
  refine T.F__law_apart.ok sc__law_apart (fun vs H Q E h => ?_) (fun cdv A outer s H vs Q E hr h => ?_)
  · obtain ⟨p, q, a, b, c, d, rfl, _⟩ := h
    rfl
  · obtain ⟨p, q, a, b, c, d, rfl, S1, S2, hab, k⟩ := h
    refine ⟨_, (pss_cons (ps_try_as (i := 4) (Wout := fun _ _ _ _ => False) rfl rfl sc__law_apart.nd rfl rfl ⟨rfl, by decide, Or.inl T.g_NoCommonDay⟩ takes0 (fun W pn xe tk _ => (pss_one (ps_set (i := 3) sc__law_apart.nd rfl (Or.inl rfl) (XR.pe_opCS (T_o_Stay___and__ T) G_Stay___and__ (hr.mono (by decide)) T.b_Stay___and__ (fun σ => passAt tk σ) (pv 0) (pv 1))))) (fun a oe cls d pn hz hf => XR.cong_ts (by exact (pss_cons (ps_if (pt_val (pe_callB (id := "isinstance") (XR.call_isPTs hz hf) (by rfl) T.n_isinstance (by decide +kernel) (pa_cons (pv 4) (pa_cons (pe_tup (pa_cons (pe_glob (v := .ref D.c_UnknownError) (by rfl) T.g_UnknownError rfl) (pa_cons (pe_glob (v := .ref D.c_TextError) (by rfl) T.g_TextError rfl) (pa_cons (pe_glob (v := .ref D.c_ImpossibleError) (by rfl) T.g_ImpossibleError rfl) (pa_cons (pe_glob (v := .ref D.c_EmptyStay) (by rfl) T.g_EmptyStay rfl) pa_nil))))) pa_nil))))
      (pss_one (ps_ret pe_bl))
      pss_nil)
      (pss_one (ps_ret (pe_and (pe_callB (id := "isinstance") (XR.call_isPs hz hf) (by rfl) T.n_isinstance (by decide +kernel) (pa_cons (pv 4) (pa_cons (pe_glob (v := .ref D.c_ArchiveError) (by rfl) T.g_ArchiveError rfl) pa_nil))) (pe_and (pe_callB (id := "isinstance") (XR.call_isPs hz hf) (by rfl) T.n_isinstance (by decide +kernel) (pa_cons (pv 4) (pa_cons (pe_bltn (v := .ty "ValueError") (u := .type "ValueError") (by rfl) T.n_ValueError (by decide +kernel) rfl) pa_nil))) (pe_one (XR.pe_callQs G__law_numberq (XR.hot_of (hr.mono (by decide))) (by rfl) T.g__law_number T.F__law_number.kp T.b__law_number (pa_cons (XR.pe_pfs hz hf (pv 4)) (pa_cons (pv 2) pa_nil)))))))))) (by rfl)))
      (pss_one (ps_ret pe_bl))), ?_⟩
    obtain ⟨dx, hp⟩ := id S1
    obtain ⟨dy, hq⟩ := id S2
    walk_at "rd"
    refine ⟨p, q, _, _, _, _, rfl, rfl, hp, hq, p, q, a, b, c, d, rfl, S1, S2, fun _ => ?_, fun h => by omega⟩
    intro e H1 he x1
    refine ⟨true, T.m_nn, fun _ ea hea => ?_, fun h => by cases h⟩
    walk_at "rd"
    intro tp htp
    walk_at "rd"
    refine ⟨_, e, tp, _, _, _, false, rfl, rfl, by walk_at "hp", T_as_NoCommonDay T, rfl, upd_same, .cons (.own _) (.cons (.own _) (.cons (.own _) (.cons (.own _) .nil))), XR.kitAny_4 T.z_nU T.z_nT T.z_nI T.z_nE, ?_⟩
    walk_at "rd"
    refine ⟨_, e, _, _, _, true, rfl, rfl, by walk_at "hp", T_as_NoCommonDay T, rfl, .own _, T.z_nA, ?_⟩
    walk_at "rd"
    refine ⟨_, e, _, _, _, true, rfl, rfl, by walk_at "hp", T_as_NoCommonDay T, rfl, .ty _, T.z_nV, ?_⟩
    walk_at "rd"
    refine ⟨_, e, _, _, rfl, rfl, rfl, by walk_at "hp", T_xf_NoCommonDay T, T.e_gap, rfl, ?_⟩
    walk_at "rd"
    exact k _ (Same.new x1 htp)
def spJoined (D : Ad) : Sp := fun vs H Q _ => ∃ (p q t u : Addr) (a b c d : Int), vs = [.ref p, .ref q, .ref t, .ref u] ∧ StayAt D H p a b ∧ StayAt D H q c d ∧ TupAt H t a b ∧ TupAt H u c d ∧ a ≤ b ∧ c ≤ d ∧
  -(10 ^ 19) < a ∧ b < 10 ^ 19 ∧ -(10 ^ 19) < c ∧ d < 10 ^ 19 ∧ Yes H Q
theorem sc__law_joined : FnScope ["_law_one", "_law_two", "_law_first_here", "_law_second", "_law_low", "_law_high"] ["_law_one", "_law_two", "_law_first_here", "_law_second"] (defScope s__law_joined) := ⟨rfl, rfl, rfl, by decide +kernel, rfl, by decide +kernel, by decide +kernel⟩
theorem ok__law_joined (T : Txt K mg D) : FnOk P w K mg base CX0 8 D.a__law_joined D.d__law_joined ["_law_one", "_law_two", "_law_first_here", "_law_second"] (spJoined D) := by
  have G__law_is := ok__law_is (P := P) (w := w) (base := base) T
  have G__law_apart := ok__law_apart (P := P) (w := w) (base := base) T
  have G_Stay___and__ := ok_Stay_and (P := P) (w := w) (base := base) T
  have G_Stay___or__ := ok_Stay_or (P := P) (w := w) (base := base) T
  refine T.F__law_joined.ok sc__law_joined (fun vs H Q E h => ?_) (fun cdv A outer s H vs Q E hr h => ?_)
  · obtain ⟨p, q, t, u, a, b, c, d, rfl, _⟩ := h
    rfl
  · obtain ⟨p, q, t, u, a, b, c, d, rfl, S1, S2, ht, hu, hab, hcd, a1, b1, c1, d1, k⟩ := h
    unfold TupAt at ht hu
    refine ⟨_, (pss_cons (ps_set (i := 4) sc__law_joined.nd rfl (Or.inl rfl) (pe_callB (call_max2 rfl) (by rfl) T.n_max (by decide +kernel) (pa_cons (pe_ix ix_tup (pv 2) pe_int (fun _ _ => rfl)) (pa_cons (pe_ix ix_tup (pv 3) pe_int (fun _ _ => rfl)) pa_nil))))
      (pss_cons (ps_set (i := 5) sc__law_joined.nd rfl (Or.inl rfl) (pe_callB (call_min2 rfl) (by rfl) T.n_min (by decide +kernel) (pa_cons (pe_ix ix_tup (pv 2) pe_int (fun _ _ => rfl)) (pa_cons (pe_ix ix_tup (pv 3) pe_int (fun _ _ => rfl)) pa_nil))))
      (Evl.pss_cut (ps_if (PW.pt (pw_and (pt_cmpR op_le (pv 4) (pv 5) (nomark _)) (pw_and1 (pt_not (pt_val (pe_call G__law_is (hr.mono (by decide)) (by rfl) T.g__law_is T.F__law_is.kp T.b__law_is .nil pass0 (pa_cons (pe_op (XR.op_ownC (T_o_Stay___and__ T) G_Stay___and__ (hr.mono (by decide)) T.b_Stay___and__ passL) (pv 0) (pv 1)) (pa_cons (pe_tup (pa_cons (pv 4) (pa_cons (pv 5) pa_nil))) pa_nil))))))))
      (pss_one (ps_ret pe_bl))
      pss_nil)
      (Evl.pss_cut (ps_if (PW.pt (pw_and (pt_cmpR op_gt (pv 4) (pv 5) (nomark _)) (pw_and1 (pt_not (pt_val (pe_call G__law_apart (hr.mono (by decide)) (by rfl) T.g__law_apart T.F__law_apart.kp T.b__law_apart .nil pass0 (pa_cons (pv 0) (pa_cons (pv 1) (pa_cons (pe_op op_sub (pv 4) (pv 5)) pa_nil)))))))))
      (pss_one (ps_ret pe_bl))
      pss_nil)
      (pss_one (ps_ret (pe_call G__law_is (hr.mono (by decide)) (by rfl) T.g__law_is T.F__law_is.kp T.b__law_is .nil pass0 (pa_cons (pe_op (XR.op_ownC (T_o_Stay___or__ T) G_Stay___or__ (hr.mono (by decide)) T.b_Stay___or__ pass0) (pv 0) (pv 1)) (pa_cons (pe_tup (pa_cons (pe_callB (call_min2 rfl) (by rfl) T.n_min (by decide +kernel) (pa_cons (pe_ix ix_tup (pv 2) pe_int (fun _ _ => rfl)) (pa_cons (pe_ix ix_tup (pv 3) pe_int (fun _ _ => rfl)) pa_nil))) (pa_cons (pe_callB (call_max2 rfl) (by rfl) T.n_max (by decide +kernel) (pa_cons (pe_ix ix_tup (pv 2) pe_int (fun _ _ => rfl)) (pa_cons (pe_ix ix_tup (pv 3) pe_int (fun _ _ => rfl)) pa_nil))) pa_nil))) pa_nil))))))))), ?_⟩
    have e1 := max_if a c
    have e2 := min_if b d
    walk_at "rd"
    rw [e1, e2]
    refine ⟨fun σ' H' => Stop (σ' = [some (.ref p), some (.ref q), some (.ref t), some (.ref u), some (.int (max a c)), some (.int (min b d))] ∧ Same H H'), ?_, fun σ1 H1 hm => ?_⟩
    · walk_at "rd"
      walk_at "br"
      · obtain ⟨dx, hp⟩ := id S1
        obtain ⟨dy, hq⟩ := id S2
        walk_at "rd"
        refine ⟨p, q, _, _, _, _, rfl, rfl, hp, hq, p, q, a, b, c, d, rfl, S1, S2, fun h => by omega, fun _ r H1 n1 x1 s1 => ?_⟩
        walk_at "rd"
        intro t1 ht1
        walk_at "rd"
        refine ⟨r, t1, max a c, min b d, rfl, s1.new ht1, upd_same, by omega, by omega, by omega, by omega, fun H2 x2 => ?_⟩
        walk_at "rd"
        exact .go ⟨rfl, (Same.new x1 ht1).trans x2⟩
      · walk_at "rd"
        exact .go ⟨rfl, Same.refl H⟩
    · obtain ⟨rfl, x1⟩ := hm.out
      refine ⟨fun σ' H' => Stop (σ' = [some (.ref p), some (.ref q), some (.ref t), some (.ref u), some (.int (max a c)), some (.int (min b d))] ∧ Same H H'), ?_, fun σ1 H2 hm => ?_⟩
      · walk_at "rd"
        walk_at "br"
        · walk_at "rd"
          refine ⟨p, q, a, b, c, d, rfl, S1.same x1, S2.same x1, by omega, fun H2 x2 => ?_⟩
          walk_at "rd"
          exact .go ⟨rfl, x1.trans x2⟩
        · walk_at "rd"
          exact .go ⟨rfl, x1⟩
      · obtain ⟨rfl, x2⟩ := hm.out
        obtain ⟨dx, hp⟩ := S1.same x2
        obtain ⟨dy, hq⟩ := S2.same x2
        walk_at "rd"
        refine ⟨p, q, _, _, _, _, rfl, rfl, hp, hq, p, q, a, b, c, d, rfl, ⟨dx, hp⟩, ⟨dy, hq⟩, hab, hcd, fun r H3 n3 x3 s3 => ?_⟩
        have ht3 := (x2.trans x3) _ _ ht
        have hu3 := (x2.trans x3) _ _ hu
        have e3 := min_if a c
        have e4 := max_if b d
        walk_at "rd"
        intro t1 ht1
        rw [e3, e4] at *
        walk_at "rd"
        refine ⟨r, t1, min a c, max b d, rfl, s3.new ht1, upd_same, by omega, by omega, by omega, by omega, fun H4 x4 => ?_⟩
        exact k _ ((Same.new (x2.trans x3) ht1).trans x4)
theorem T_kb_Stay_go_come (T : Txt K mg D) : KBn K D.d_Stay_init ["self", "come", "go"] 1 ["go", "come"] (fun us ws => us ++ ws.reverse) (fun us ws => us ++ ws.reverse) := by
  refine ⟨fun s us ws X l1 l2 => ?_, fun r1 r2 => r1.append r2.reverse⟩
  obtain ⟨oc, od, kV, doc, pm, an, cdv, ct, osl, e, lk, hcd⟩ := T.F_Stay_init.ex
  rw [e]
  match us, l1, ws, l2 with
  | [u], _, [a, b], _ => exact BindsTo.of_eq rfl
end
end Toy
set_option Elab.async false
set_option linter.all false
set_option maxRecDepth 100000
set_option maxHeartbeats 4000000
namespace Toy
open PySem L2 XR
local macro_rules | `(tactic| walk_at "ne") => `(tactic| first | assumption | (apply Ne.symm; assumption) | exact XR.ne_fresh (by assumption) (by walk_at "hp") | exact Ne.symm (XR.ne_fresh (by assumption) (by walk_at "hp")))
local macro_rules | `(tactic| walk_at "hp") => `(tactic| first | assumption | exact upd_same | (refine Eq.trans (upd_ne ?_) ?_; (walk_at "ne"); walk_at "hp"))
local macro_rules | `(tactic| walk_at "sq") => `(tactic| first | walk_at "hp" | exact SqL.of (by walk_at "hp") | exact SqT.of (by walk_at "hp"))
local macro_rules | `(tactic| walk_at "br") => `(tactic| (refine ite2 ?_ ?_ <;> intro hbr <;> (try simp only [decide_eq_true_eq, decide_eq_false_iff_not, V.int.injEq, V.bl.injEq, V.str.injEq, Bool.not_eq_true, Bool.not_eq_eq_eq_not, Bool.not_true, Bool.not_false, ne_eq, Int.reduceToNat, Int.reducePow, Int.reduceMul, Int.reduceAdd, Int.reduceSub, reduceCtorEq, not_true_eq_false, not_false_eq_true, Int.not_lt, Int.not_le] at hbr)))
local macro_rules | `(tactic| walk_at "side") => `(tactic| first
  | exact ⟨by decide, by decide, by decide⟩
  | exact .inl ⟨by decide, by decide⟩
  | exact .inr ⟨by decide, by decide⟩
  | exact XR.divw (by first | decide | omega) (by first | decide | omega)
  | (show (_ : Int) = _; first | rfl | omega)
  | (show (0 : Int) < _; first | decide | assumption | omega)
  | exact .inl ⟨by omega, by omega⟩
  | exact .inr ⟨by omega, by omega⟩
  | exact .inl (XR.cmul_mod (by decide))
  | exact XR.log_lt (by omega) (by omega)
  | decide
  | (rw [sizeLine_eq]; simp; done)
  | (show 2 ≤ sizeLine; decide) | (show 3 ≤ sizeLine; decide) | (show 4 ≤ sizeLine; decide) | (show 5 ≤ sizeLine; decide) | (show 6 ≤ sizeLine; decide) | (show 7 ≤ sizeLine; decide) | (show 1 ≤ sizeLine; decide) | (show 8 ≤ sizeLine; decide) | (show 0 ≤ sizeLine; decide))
local macro_rules | `(tactic| walk_at "rd1") => `(tactic| first
  | refine ⟨_, rfl, ?_⟩
  | refine ⟨_, _, rfl, rfl, ?_⟩
  | refine ⟨_, _, _, _, rfl, rfl, (by walk_at "sq"), rfl, ?_⟩
  | refine ⟨_, _, _, _, rfl, rfl, (by walk_at "hp"), (by walk_at "hp"), (by walk_at "side"), ?_⟩
  | refine ⟨_, _, rfl, .inl (by walk_at "sq"), ?_⟩
  | refine ⟨_, _, rfl, .inr (by walk_at "sq"), ?_⟩
  | refine ⟨_, _, _, _, _, rfl, (by walk_at "hp"), (by walk_at "cls"), (by walk_at "noat"), rfl, ?_⟩
  | refine ⟨rfl, ?_⟩
  | refine And.intro (by walk_at "side") ?_
  | refine .inl ⟨_, rfl, ?_⟩
  | refine And.intro ⟨_, (by walk_at "sq")⟩ ?_
  | refine ⟨_, _, rfl, (by walk_at "sq"), ?_⟩
  | refine ⟨_, _, rfl, ?_⟩
  | refine .inr ⟨_, rfl, (by walk_at "side"), ?_⟩
  | refine iteT ?_
  | refine iteF ?_)
local macro_rules | `(tactic| walk_at "rd") => `(tactic| repeat (walk_at "rd1"))
local macro_rules | `(tactic| walk_at "nn") => `(tactic| (simp only [Int.reduceToNat, Int.reducePow, Int.reduceMul, Int.reduceAdd, Int.reduceSub, Int.reduceNeg]))
local macro_rules | `(tactic| walk_at "dr") => `(tactic| repeat (first | refine And.intro (by first | assumption | walk_at "pre") ?_ | refine And.intro (by first | decide | omega) ?_))

local macro_rules | `(tactic| walk_at "cls") => `(tactic| exact T_cl_Stay (by assumption))
local macro_rules | `(tactic| walk_at "noat") => `(tactic| first | exact Txt.no_come (by assumption) | exact Txt.no_go (by assumption))
section
variable {P : Program} {w : World} {K : PySem.W.Frag} {mg : Str → Option Value} {base : Heap} {D : Ad}
local macro_rules | `(tactic| walk_at "pre") => `(tactic| first | assumption | exact BoxAt.new (by walk_at "pre") (by assumption) | exact BoxAt.same (by walk_at "pre") (by assumption))
theorem mk2 {D : Ad} {H : Hp} {a b : Int} {Q : VK} {E : XK} {x dx : Addr} (nx : H x = none) (nd : H dx = none) (ne : dx ≠ x) (k1 : b < a → Wish D.c_EmptyStay [("go", .int b), ("come", .int a)] H E) (k2 : a ≤ b → ∀ H', Same H H' → StayAt D H' x a b → Q .non H') :
    spInit D [.ref x, .int a, .int b] (L2.upd (L2.upd H dx (.own x)) x (.ins D.c_Stay dx [])) Q E := by
  have old : ∀ q o, H q = some o → (L2.upd (L2.upd H dx (.own x)) x (.ins D.c_Stay dx [])) q = some o := fun q o e => by rw [upd_ne (ne_of_none e nx), upd_ne (ne_of_none e nd)]; exact e
  refine ⟨x, dx, a, b, rfl, upd_same, fun h => fun d H' e s => k1 h d H' e fun q o z => s q o (old q o z), fun h H' s e => k2 h H' (fun q o z => s q o (ne_of_none z nx) (old q o z)) ⟨dx, e⟩⟩
theorem StayAt.exb {D : Ad} {H H' : Hp} {p b : Addr} {x y : Int} (s : StayAt D H p x y) (n : p ≠ b) (e : ExB b H H') : StayAt D H' p x y := let ⟨dx, h⟩ := s; ⟨dx, e _ _ n h⟩
def spAlike (D : Ad) : Sp := fun vs H Q _ => ∃ (p q t u : Addr) (a b c d : Int), vs = [.ref p, .ref q, .ref t, .ref u] ∧ StayAt D H p a b ∧ StayAt D H q c d ∧ TupAt H t a b ∧ TupAt H u c d ∧ a ≤ b ∧ c ≤ d ∧ Yes H Q
theorem dp_pair {H : Hp} {t : Addr} {a b : Int} (h : H t = some (.tup [.int a, .int b])) : Dp K H (.ref t) (.tuple [.int a, .int b]) := .tup (SqT.of h) (.cons (.int a) (.cons (.int b) .nil))
theorem eqv_pair {a b c d : Int} : PyData.eqv (.tuple [.int a, .int b]) (.tuple [.int c, .int d]) = decide (a = c ∧ b = d) := by
  rw [Bool.eq_iff_iff]
  simp [PyData.eqv, PyData.eqvAll]
theorem sc__law_alike : FnScope ["_law_one", "_law_two", "_law_first_here", "_law_second", "_law_again"] ["_law_one", "_law_two", "_law_first_here", "_law_second"] (defScope s__law_alike) := ⟨rfl, rfl, rfl, by decide +kernel, rfl, by decide +kernel, by decide +kernel⟩
theorem ok__law_alike (T : Txt K mg D) : FnOk P w K mg base CX0 6 D.a__law_alike D.d__law_alike ["_law_one", "_law_two", "_law_first_here", "_law_second"] (spAlike D) := by
  have G_Stay_init := ok_Stay_init (P := P) (w := w) (base := base) T
  have G_Stay___eq__ := ok_Stay_eq (P := P) (w := w) (base := base) T
  have G_Stay___add__ := ok_Stay_add (P := P) (w := w) (base := base) T
  refine T.F__law_alike.ok sc__law_alike (fun vs H Q E h => ?_) (fun cdv A outer s H vs Q E hr h => ?_)
  · obtain ⟨p, q, t, u, a, b, c, d, rfl, _⟩ := h
    rfl
  · obtain ⟨p, q, t, u, a, b, c, d, rfl, S1, S2, ht, hu, hab, hcd, k⟩ := h
    unfold TupAt at ht hu
    refine ⟨_, (pss_cons (ps_set (i := 4) sc__law_alike.nd rfl (Or.inl rfl) (pe_make (T_mk_Stay T) G_Stay_init (hr.mono (by decide)) (by rfl) T.g_Stay T.b_Stay_init .nil passL (pa_cons (pe_ix ix_tup (pv 2) pe_int (fun _ _ => rfl)) (pa_cons (pe_ix ix_tup (pv 2) pe_int (fun _ _ => rfl)) pa_nil))))
      (pss_cons (ps_if (PW.pt (pw_or (pt_not (pt_cmpR (XR.op_eq_own (T_o_Stay___eq__ T) G_Stay___eq__ (hr.mono (by decide)) T.b_Stay___eq__ pass0) (pv 0) (pv 4) (nomark _))) (pw_or1 (pt_cmpR (XR.op_ne_own (T_o_Stay___eq__ T) G_Stay___eq__ (hr.mono (by decide)) T.b_Stay___eq__ pass0) (pv 0) (pv 4) (nomark _)))))
      (pss_one (ps_ret pe_bl))
      pss_nil)
      (Evl.pss_cut (ps_if (PW.pt (pw_or (pt_cmpR op_ne (pe_cmpR (XR.op_eq_own (T_o_Stay___eq__ T) G_Stay___eq__ (hr.mono (by decide)) T.b_Stay___eq__ pass0) (pv 0) (pv 1) (nomark _)) (pe_cmpR (op_eqD hr.units) (pv 2) (pv 3) (nomark _)) (nomark _)) (pw_or1 (pt_cmpR op_ne (pe_cmpR (XR.op_ne_own (T_o_Stay___eq__ T) G_Stay___eq__ (hr.mono (by decide)) T.b_Stay___eq__ pass0) (pv 0) (pv 1) (nomark _)) (pe_cmpR (op_neD hr.units) (pv 2) (pv 3) (nomark _)) (nomark _)))))
      (pss_one (ps_ret pe_bl))
      pss_nil)
      (pss_cons (ps_if (PW.pt (pw_or (pt_cmpR (XR.op_eq_own (T_o_Stay___eq__ T) G_Stay___eq__ (hr.mono (by decide)) T.b_Stay___eq__ pass0) (pv 0) (pe_make (T_mk_Stay T) G_Stay_init (hr.mono (by decide)) (by rfl) T.g_Stay T.b_Stay_init .nil passL (pa_cons (pe_ix ix_tup (pv 2) pe_int (fun _ _ => rfl)) (pa_cons (pe_op op_add (pe_ix ix_tup (pv 2) pe_int (fun _ _ => rfl)) pe_int) pa_nil))) (nomark _)) (pw_or1 (pt_cmpR (XR.op_eq_own (T_o_Stay___eq__ T) G_Stay___eq__ (hr.mono (by decide)) T.b_Stay___eq__ pass0) (pv 0) (pe_make (T_mk_Stay T) G_Stay_init (hr.mono (by decide)) (by rfl) T.g_Stay T.b_Stay_init .nil passL (pa_cons (pe_op op_sub (pe_ix ix_tup (pv 2) pe_int (fun _ _ => rfl)) pe_int) (pa_cons (pe_ix ix_tup (pv 2) pe_int (fun _ _ => rfl)) pa_nil))) (nomark _)))))
      (pss_one (ps_ret pe_bl))
      pss_nil)
      (pss_one (ps_ret (pe_not (pe_cmpR (XR.op_eq_own (T_o_Stay___eq__ T) G_Stay___eq__ (hr.mono (by decide)) T.b_Stay___eq__ pass0) (pv 0) (pe_op (XR.op_ownI (T_o_Stay___add__ T) (T_i_Stay___add__ T) G_Stay___add__ (hr.mono (by decide)) T.b_Stay___add__ pass0) (pv 0) pe_int) (nomark _))))))))), ?_⟩
    walk_at "rd"
    intro r dr n1 nd ne
    refine mk2 n1 nd ne (fun h => by omega) fun _ H1 x1 s1 => ?_
    obtain ⟨dx, hp⟩ := S1.same x1
    obtain ⟨dr, hr1⟩ := id s1
    walk_at "rd"
    refine ⟨_, _, _, _, _, _, rfl, rfl, hp, hr1, p, r, a, b, a, b, rfl, ⟨dx, hp⟩, s1, fun _ => ?_, fun z => (z ⟨rfl, rfl⟩).elim⟩
    walk_at "rd"
    refine ⟨_, _, _, _, _, _, rfl, rfl, hp, hr1, p, r, a, b, a, b, rfl, ⟨dx, hp⟩, s1, fun _ => ?_, fun z => (z ⟨rfl, rfl⟩).elim⟩
    walk_at "rd"
    refine ⟨fun σ' H' => Stop (σ' = [some (.ref p), some (.ref q), some (.ref t), some (.ref u), some (.ref r)] ∧ Same H H'), ?_, fun σ2 H2 hm => ?_⟩
    · obtain ⟨dy, hq⟩ := S2.same x1
      have ht1 := x1 _ _ ht
      have hu1 := x1 _ _ hu
      walk_at "rd"
      refine ⟨_, _, _, _, _, _, rfl, rfl, hp, hq, p, q, a, b, c, d, rfl, ⟨dx, hp⟩, ⟨dy, hq⟩, fun y => ?_, fun y => ?_⟩
      · walk_at "rd"
        refine ⟨_, _, dp_pair ht1, dp_pair hu1, rfl, rfl, ?_⟩
        rw [eqv_pair, decide_eq_true y]
        walk_at "rd"
        refine ⟨_, _, _, _, _, _, rfl, rfl, hp, hq, p, q, a, b, c, d, rfl, ⟨dx, hp⟩, ⟨dy, hq⟩, fun _ => ?_, fun z => (z y).elim⟩
        walk_at "rd"
        refine ⟨_, _, dp_pair ht1, dp_pair hu1, rfl, rfl, ?_⟩
        rw [eqv_pair, decide_eq_true y]
        walk_at "rd"
        exact .go ⟨rfl, x1⟩
      · walk_at "rd"
        refine ⟨_, _, dp_pair ht1, dp_pair hu1, rfl, rfl, ?_⟩
        rw [eqv_pair, decide_eq_false y]
        walk_at "rd"
        refine ⟨_, _, _, _, _, _, rfl, rfl, hp, hq, p, q, a, b, c, d, rfl, ⟨dx, hp⟩, ⟨dy, hq⟩, fun z => (y z).elim, fun _ => ?_⟩
        walk_at "rd"
        refine ⟨_, _, dp_pair ht1, dp_pair hu1, rfl, rfl, ?_⟩
        rw [eqv_pair, decide_eq_false y]
        walk_at "rd"
        exact .go ⟨rfl, x1⟩
    · obtain ⟨rfl, x2⟩ := hm.out
      have ht1 := x2 _ _ ht
      walk_at "rd"
      intro r2 dr2 n2 nd2 ne2
      refine mk2 n2 nd2 ne2 (fun h => by omega) fun _ H3 x3 s3 => ?_
      obtain ⟨dx3, hp3⟩ := S1.same (x2.trans x3)
      obtain ⟨dy3, hq3⟩ := id s3
      walk_at "rd"
      refine ⟨_, _, _, _, _, _, rfl, rfl, hp3, hq3, p, r2, a, b, a, b + 1, rfl, ⟨dx3, hp3⟩, s3, fun z => by omega, fun _ => ?_⟩
      have ht3 := x3 _ _ ht1
      walk_at "rd"
      intro r4 dr4 n4 nd4 ne4
      refine mk2 n4 nd4 ne4 (fun h => by omega) fun _ H5 x5 s5 => ?_
      obtain ⟨dx5, hp5⟩ := S1.same ((x2.trans x3).trans x5)
      obtain ⟨dy5, hq5⟩ := id s5
      walk_at "rd"
      refine ⟨_, _, _, _, _, _, rfl, rfl, hp5, hq5, p, r4, a, b, a - 1, b, rfl, ⟨dx5, hp5⟩, s5, fun z => by omega, fun _ => ?_⟩
      walk_at "rd"
      refine ⟨_, _, _, _, rfl, rfl, hp5, p, a, b, 1, rfl, ⟨dx5, hp5⟩, hab, fun q7 H7 n7 x7 s7 => ?_⟩
      obtain ⟨dx7, hp7⟩ := S1.same (((x2.trans x3).trans x5).trans x7)
      obtain ⟨dy7, hq7⟩ := id s7
      walk_at "rd"
      refine ⟨_, _, _, _, _, _, rfl, rfl, hp7, hq7, p, q7, a, b, _, _, rfl, ⟨dx7, hp7⟩, s7, fun z => by dsimp only at z; omega, fun _ => ?_⟩
      walk_at "rd"
      exact k _ (((x2.trans x3).trans x5).trans x7)
def spEmpty : Sp := fun vs H Q _ => ∃ (a b : Int), vs = [.int a, .int b] ∧ b < a ∧ Yes H Q
theorem sc__law_empty : FnScope ["_law_come", "_law_go", "e"] ["_law_come", "_law_go"] (defScope s__law_empty) := ⟨rfl, rfl, rfl, by decide +kernel, rfl, by decide +kernel, by decide +kernel⟩
theorem ok__law_empty (T : Txt K mg D) : FnOk P w K mg base CX0 6 D.a__law_empty D.d__law_empty ["_law_come", "_law_go"] spEmpty := by
  have G_Stay_init := ok_Stay_init (P := P) (w := w) (base := base) T
  have G__law_numberq := okq__law_number (P := P) (w := w) (base := base) T
  refine T.F__law_empty.ok sc__law_empty (fun vs H Q E h => ?_) (fun cdv A outer s H vs Q E hr h => ?_)
  · obtain ⟨a, b, rfl, _⟩ := h
    rfl
  · obtain ⟨a, b, rfl, hab, k⟩ := h
    refine ⟨_, (pss_cons (ps_try_as (i := 2) (Wout := fun _ _ _ _ => False) rfl rfl sc__law_empty.nd rfl rfl ⟨rfl, by decide, Or.inl T.g_EmptyStay⟩ takes0 (fun W pn xe tk _ => (pss_one (ps_expr (XR.pe_makeS (T_mk_Stay T) G_Stay_init (hr.mono (by decide)) (by rfl) T.g_Stay T.b_Stay_init (fun σ => passAt tk σ) (pa_cons (pv 0) (pa_cons (pv 1) pa_nil)))))) (fun a oe cls d pn hz hf => XR.cong_ts (by exact (pss_cons (ps_if (pt_val (pe_callB (id := "isinstance") (XR.call_isPTs hz hf) (by rfl) T.n_isinstance (by decide +kernel) (pa_cons (pv 2) (pa_cons (pe_tup (pa_cons (pe_glob (v := .ref D.c_UnknownError) (by rfl) T.g_UnknownError rfl) (pa_cons (pe_glob (v := .ref D.c_TextError) (by rfl) T.g_TextError rfl) (pa_cons (pe_glob (v := .ref D.c_ImpossibleError) (by rfl) T.g_ImpossibleError rfl) (pa_cons (pe_glob (v := .ref D.c_NoCommonDay) (by rfl) T.g_NoCommonDay rfl) pa_nil))))) pa_nil))))
      (pss_one (ps_ret pe_bl))
      pss_nil)
      (pss_cons (ps_if (PW.pt (pw_or (pt_not (pt_val (pe_callB (id := "isinstance") (XR.call_isPs hz hf) (by rfl) T.n_isinstance (by decide +kernel) (pa_cons (pv 2) (pa_cons (pe_glob (v := .ref D.c_ArchiveError) (by rfl) T.g_ArchiveError rfl) pa_nil))))) (pw_or1 (pt_not (pt_val (pe_callB (id := "isinstance") (XR.call_isPs hz hf) (by rfl) T.n_isinstance (by decide +kernel) (pa_cons (pv 2) (pa_cons (pe_bltn (v := .ty "ValueError") (u := .type "ValueError") (by rfl) T.n_ValueError (by decide +kernel) rfl) pa_nil))))))))
      (pss_one (ps_ret pe_bl))
      pss_nil)
      (pss_one (ps_ret (pe_and (XR.pe_callQs G__law_numberq (XR.hot_of (hr.mono (by decide))) (by rfl) T.g__law_number T.F__law_number.kp T.b__law_number (pa_cons (XR.pe_pfs hz hf (pv 2)) (pa_cons (pv 0) pa_nil))) (pe_one (XR.pe_callQs G__law_numberq (XR.hot_of (hr.mono (by decide))) (by rfl) T.g__law_number T.F__law_number.kp T.b__law_number (pa_cons (XR.pe_pfs hz hf (pv 2)) (pa_cons (pv 1) pa_nil)))))))))) (by rfl)))
      (pss_one (ps_ret pe_bl))), ?_⟩
    walk_at "rd"
    intro r dr n1 nd ne
    refine mk2 n1 nd ne (fun _ => ?_) (fun h => by omega)
    intro e H1 he x1
    refine ⟨true, T.m_ee, fun _ ea hea => ?_, fun h => by cases h⟩
    walk_at "rd"
    intro tp htp
    walk_at "rd"
    refine ⟨_, e, tp, _, _, _, false, rfl, rfl, by walk_at "hp", T_as_EmptyStay T, rfl, upd_same, .cons (.own _) (.cons (.own _) (.cons (.own _) (.cons (.own _) .nil))), XR.kitAny_4 T.z_eU T.z_eT T.z_eI T.z_eN, ?_⟩
    walk_at "rd"
    refine ⟨_, e, _, _, _, true, rfl, rfl, by walk_at "hp", T_as_EmptyStay T, rfl, .own _, T.z_eA, ?_⟩
    walk_at "rd"
    refine ⟨_, e, _, _, _, true, rfl, rfl, by walk_at "hp", T_as_EmptyStay T, rfl, .ty _, T.z_eV, ?_⟩
    walk_at "rd"
    refine ⟨_, e, _, _, rfl, rfl, rfl, by walk_at "hp", T_xf_EmptyStay T, T.e_come, rfl, ?_⟩
    walk_at "rd"
    refine ⟨_, e, _, _, rfl, rfl, rfl, by walk_at "hp", T_xf_EmptyStay T, T.e_go, rfl, ?_⟩
    walk_at "rd"
    exact k _ (Same.new x1 htp)
theorem sc__law_caught : FnScope ["_law_come", "_law_go", "e"] ["_law_come", "_law_go"] (defScope s__law_caught) := ⟨rfl, rfl, rfl, by decide +kernel, rfl, by decide +kernel, by decide +kernel⟩
theorem ok__law_caught (T : Txt K mg D) : FnOk P w K mg base CX0 6 D.a__law_caught D.d__law_caught ["_law_come", "_law_go"] spEmpty := by
  have G_Stay_init := ok_Stay_init (P := P) (w := w) (base := base) T
  refine T.F__law_caught.ok sc__law_caught (fun vs H Q E h => ?_) (fun cdv A outer s H vs Q E hr h => ?_)
  · obtain ⟨a, b, rfl, _⟩ := h
    rfl
  · obtain ⟨a, b, rfl, hab, k⟩ := h
    refine ⟨_, (pss_cons (ps_try_as (i := 2) (Wout := fun _ _ _ _ => False) rfl rfl sc__law_caught.nd rfl rfl ⟨rfl, by decide, Or.inl T.g_ArchiveError⟩ takes0 (fun W pn xe tk _ => (pss_one (ps_expr (XR.pe_makeS (T_mk_Stay T) G_Stay_init (hr.mono (by decide)) (by rfl) T.g_Stay T.b_Stay_init (fun σ => passAt tk σ) (pa_cons (pv 0) (pa_cons (pv 1) pa_nil)))))) (fun a oe cls d pn hz hf => XR.cong_ts (by exact (pss_one (ps_ret (pe_callB (id := "isinstance") (XR.call_isPs hz hf) (by rfl) T.n_isinstance (by decide +kernel) (pa_cons (pv 2) (pa_cons (pe_glob (v := .ref D.c_EmptyStay) (by rfl) T.g_EmptyStay rfl) pa_nil)))))) (by rfl)))
      (pss_one (ps_ret pe_bl))), ?_⟩
    walk_at "rd"
    intro r dr n1 nd ne
    refine mk2 n1 nd ne (fun _ => ?_) (fun h => by omega)
    intro e H1 he x1
    refine ⟨true, T.m_ea, fun _ ea hea => ?_, fun h => by cases h⟩
    walk_at "rd"
    refine ⟨_, e, _, _, _, true, rfl, rfl, by walk_at "hp", T_as_EmptyStay T, rfl, .own _, T.z_eE, ?_⟩
    walk_at "rd"
    exact k _ x1
def spLaw (K : PySem.W.Frag) : Sp := fun vs H Q _ => ∃ (a : Addr) (ns : List Int), vs = [.ref a] ∧ SqL K H a (ns.map V.int) ∧ ns.length ≤ 63 ∧ ∀ H', Q (.bl true) H'
theorem sc_law : FnScope ["_law_script", "_law_box", "_law_first_here", "_law_second", "_law_many_here", "_law_one", "_law_two", "_law_day", "_law_less"] ["_law_script"] (defScope s_law) := ⟨rfl, rfl, rfl, by decide +kernel, rfl, by decide +kernel, by decide +kernel⟩
theorem ok_law (T : Txt K mg D) : FnOk P w K mg base CX0 10 D.a_law D.d_law ["_law_script"] (spLaw K) := by
  have G__law_draws := ok__law_draws (P := P) (w := w) (base := base) T
  have G__law_take := ok__law_take (P := P) (w := w) (base := base) T
  have G__law_far := ok__law_far (P := P) (w := w) (base := base) T
  have G__law_first := ok__law_first (P := P) (w := w) (base := base) T
  have G__law_near := ok__law_near (P := P) (w := w) (base := base) T
  have G__law_many := ok__law_many (P := P) (w := w) (base := base) T
  have G__law_is := ok__law_is (P := P) (w := w) (base := base) T
  have G__law_has := ok__law_has (P := P) (w := w) (base := base) T
  have G__law_moved := ok__law_moved (P := P) (w := w) (base := base) T
  have G__law_joined := ok__law_joined (P := P) (w := w) (base := base) T
  have G__law_alike := ok__law_alike (P := P) (w := w) (base := base) T
  have G__law_empty := ok__law_empty (P := P) (w := w) (base := base) T
  have G__law_caught := ok__law_caught (P := P) (w := w) (base := base) T
  have G_Stay_init := ok_Stay_init (P := P) (w := w) (base := base) T
  refine T.F_law.ok sc_law (fun vs H Q E h => ?_) (fun cdv A outer s H vs Q E hr h => ?_)
  · obtain ⟨a, ns, rfl, _⟩ := h
    rfl
  · obtain ⟨l, ns, rfl, hS, hl, k⟩ := h
    refine ⟨_, (pss_cons (ps_set (i := 1) sc_law.nd rfl (Or.inl rfl) (pe_call G__law_draws (hr.mono (by decide)) (by rfl) T.g__law_draws T.F__law_draws.kp T.b__law_draws .nil pass0 (pa_cons (pv 0) pa_nil)))
      (pss_cons (ps_set (i := 2) sc_law.nd rfl (Or.inl rfl) (pe_call G__law_first (hr.mono (by decide)) (by rfl) T.g__law_first T.F__law_first.kp T.b__law_first .nil pass0 (pa_cons (pv 1) pa_nil)))
      (pss_cons (ps_set (i := 3) sc_law.nd rfl (Or.inl rfl) (pe_call G__law_near (hr.mono (by decide)) (by rfl) T.g__law_near T.F__law_near.kp T.b__law_near .nil pass0 (pa_cons (pv 1) (pa_cons (pv 2) pa_nil))))
      (pss_cons (ps_set (i := 4) sc_law.nd rfl (Or.inl rfl) (pe_call G__law_many (hr.mono (by decide)) (by rfl) T.g__law_many T.F__law_many.kp T.b__law_many .nil pass0 (pa_cons (pv 1) pa_nil)))
      (pss_cons (ps_set (i := 5) sc_law.nd rfl (Or.inl rfl) (pe_make (T_mk_Stay T) G_Stay_init (hr.mono (by decide)) (by rfl) T.g_Stay T.b_Stay_init .nil passL (pa_cons (pe_ix ix_tup (pv 2) pe_int (fun _ _ => rfl)) (pa_cons (pe_ix ix_tup (pv 2) pe_int (fun _ _ => rfl)) pa_nil))))
      (pss_cons (ps_set (i := 6) sc_law.nd rfl (Or.inl rfl) (pe_makeK0 (T_mk_Stay T) G_Stay_init (hr.mono (by decide)) (by rfl) T.g_Stay (T_kb_Stay_go_come T) passL (pk_cons (pe_ix ix_tup (pv 3) pe_int (fun _ _ => rfl)) (pk_cons (pe_ix ix_tup (pv 3) pe_int (fun _ _ => rfl)) pk_nil))))
      (pss_cons (ps_if (PW.pt (pw_or (pt_not (pt_val (pe_call G__law_is (hr.mono (by decide)) (by rfl) T.g__law_is T.F__law_is.kp T.b__law_is .nil pass0 (pa_cons (pv 5) (pa_cons (pv 2) pa_nil))))) (pw_or1 (pt_not (pt_val (pe_call G__law_is (hr.mono (by decide)) (by rfl) T.g__law_is T.F__law_is.kp T.b__law_is .nil pass0 (pa_cons (pv 6) (pa_cons (pv 3) pa_nil))))))))
      (pss_one (ps_ret pe_bl))
      pss_nil)
      (pss_cons (ps_if (PW.pt (pw_or (pt_not (pt_val (pe_call G__law_has (hr.mono (by decide)) (by rfl) T.g__law_has T.F__law_has.kp T.b__law_has .nil pass0 (pa_cons (pv 5) (pa_cons (pv 2) (pa_cons (pv 3) pa_nil)))))) (pw_or1 (pt_not (pt_val (pe_call G__law_has (hr.mono (by decide)) (by rfl) T.g__law_has T.F__law_has.kp T.b__law_has .nil pass0 (pa_cons (pv 6) (pa_cons (pv 3) (pa_cons (pv 2) pa_nil)))))))))
      (pss_one (ps_ret pe_bl))
      pss_nil)
      (pss_cons (ps_if (PW.pt (pw_or (pt_not (pt_val (pe_call G__law_moved (hr.mono (by decide)) (by rfl) T.g__law_moved T.F__law_moved.kp T.b__law_moved .nil pass0 (pa_cons (pv 5) (pa_cons (pv 2) (pa_cons (pv 4) pa_nil)))))) (pw_or1 (pt_not (pt_val (pe_call G__law_moved (hr.mono (by decide)) (by rfl) T.g__law_moved T.F__law_moved.kp T.b__law_moved .nil pass0 (pa_cons (pv 6) (pa_cons (pv 3) (pa_cons pe_int pa_nil)))))))))
      (pss_one (ps_ret pe_bl))
      pss_nil)
      (pss_cons (ps_if (PW.pt (pw_or (pt_not (pt_val (pe_call G__law_joined (hr.mono (by decide)) (by rfl) T.g__law_joined T.F__law_joined.kp T.b__law_joined .nil pass0 (pa_cons (pv 5) (pa_cons (pv 6) (pa_cons (pv 2) (pa_cons (pv 3) pa_nil))))))) (pw_or1 (pt_not (pt_val (pe_call G__law_joined (hr.mono (by decide)) (by rfl) T.g__law_joined T.F__law_joined.kp T.b__law_joined .nil pass0 (pa_cons (pv 6) (pa_cons (pv 5) (pa_cons (pv 3) (pa_cons (pv 2) pa_nil))))))))))
      (pss_one (ps_ret pe_bl))
      pss_nil)
      (pss_cons (ps_if (PW.pt (pw_or (pt_not (pt_val (pe_call G__law_alike (hr.mono (by decide)) (by rfl) T.g__law_alike T.F__law_alike.kp T.b__law_alike .nil pass0 (pa_cons (pv 5) (pa_cons (pv 6) (pa_cons (pv 2) (pa_cons (pv 3) pa_nil))))))) (pw_or1 (pt_not (pt_val (pe_call G__law_alike (hr.mono (by decide)) (by rfl) T.g__law_alike T.F__law_alike.kp T.b__law_alike .nil pass0 (pa_cons (pv 6) (pa_cons (pv 5) (pa_cons (pv 3) (pa_cons (pv 2) pa_nil))))))))))
      (pss_one (ps_ret pe_bl))
      pss_nil)
      (pss_cons (ps_set (i := 7) sc_law.nd rfl (Or.inl rfl) (pe_ix ix_tup (pv 2) (pe_call G__law_take (hr.mono (by decide)) (by rfl) T.g__law_take T.F__law_take.kp T.b__law_take .nil pass0 (pa_cons (pv 1) (pa_cons pe_int pa_nil))) (fun _ _ => rfl)))
      (pss_cons (ps_set (i := 8) sc_law.nd rfl (Or.inl rfl) (pe_ix ix_list (pe_lst (pa_cons pe_int (pa_cons (pe_op op_add pe_int (pe_call G__law_take (hr.mono (by decide)) (by rfl) T.g__law_take T.F__law_take.kp T.b__law_take .nil pass0 (pa_cons (pv 1) (pa_cons pe_int pa_nil)))) (pa_cons (pe_op op_add pe_int (pe_op op_fdivW (pe_call G__law_far (hr.mono (by decide)) (by rfl) T.g__law_far T.F__law_far.kp T.b__law_far .nil pass0 (pa_cons (pv 1) pa_nil)) pe_int)) pa_nil)))) (pe_call G__law_take (hr.mono (by decide)) (by rfl) T.g__law_take T.F__law_take.kp T.b__law_take .nil pass0 (pa_cons (pv 1) (pa_cons pe_int pa_nil))) (fun _ _ => rfl)))
      (pss_cons (ps_if (PW.pt (pw_or (pt_not (pt_val (pe_call G__law_empty (hr.mono (by decide)) (by rfl) T.g__law_empty T.F__law_empty.kp T.b__law_empty .nil pass0 (pa_cons (pv 7) (pa_cons (pe_op op_sub (pv 7) (pv 8)) pa_nil))))) (pw_or1 (pt_not (pt_val (pe_call G__law_caught (hr.mono (by decide)) (by rfl) T.g__law_caught T.F__law_caught.kp T.b__law_caught .nil pass0 (pa_cons (pv 7) (pa_cons (pe_op op_sub (pv 7) (pv 8)) pa_nil))))))))
      (pss_one (ps_ret pe_bl))
      pss_nil)
      (pss_cons (ps_if (pt_not (pt_val (pe_call G__law_is (hr.mono (by decide)) (by rfl) T.g__law_is T.F__law_is.kp T.b__law_is .nil pass0 (pa_cons (pe_make (T_mk_Stay T) G_Stay_init (hr.mono (by decide)) (by rfl) T.g_Stay T.b_Stay_init .nil passL (pa_cons (pv 7) (pa_cons (pv 7) pa_nil))) (pa_cons (pe_tup (pa_cons (pv 7) (pa_cons (pv 7) pa_nil))) pa_nil)))))
      (pss_one (ps_ret pe_bl))
      pss_nil)
      (pss_one (ps_ret (pe_and (pe_call G__law_is (hr.mono (by decide)) (by rfl) T.g__law_is T.F__law_is.kp T.b__law_is .nil pass0 (pa_cons (pv 5) (pa_cons (pv 2) pa_nil))) (pe_one (pe_call G__law_is (hr.mono (by decide)) (by rfl) T.g__law_is T.F__law_is.kp T.b__law_is .nil pass0 (pa_cons (pv 6) (pa_cons (pv 3) pa_nil)))))))))))))))))))))), ?_⟩
    walk_at "rd"
    refine ⟨hl, fun bx H1 hb x1 B1 => ?_⟩
    walk_at "rd"
    refine ⟨B1, fun t H2 a b hab a1 b1 B2 x2 htb ht => ?_⟩
    walk_at "rd"
    refine ⟨bx, t, a, b, rfl, B2, htb, ht, hab, by omega, by omega, fun u H3 c d hcd c1 d1 B3 x3 hub hu => ?_⟩
    walk_at "rd"
    refine ⟨B3, fun m H4 m1 m2 B4 x4 => ?_⟩
    have ht4 := x4 _ _ htb (x3 _ _ htb ht)
    have hu4 := x4 _ _ hub hu
    walk_at "rd"
    intro p dp n5 nd5 ne5
    refine mk2 n5 nd5 ne5 (fun h => by omega) fun _ H5 x5 S5 => ?_
    have ht5 := x5 _ _ ht4
    have hu5 := x5 _ _ hu4
    walk_at "rd"
    intro q dq n6 nd6 ne6
    refine mk2 n6 nd6 ne6 (fun h => by omega) fun _ H6 x6 S6 => ?_
    have T6 := S5.same x6
    have ht6 := x6 _ _ ht5
    have hu6 := x6 _ _ hu5
    walk_at "rd"
    refine ⟨p, t, a, b, rfl, T6, ht6, by omega, by omega, by omega, by omega, fun H7 z7 => ?_⟩
    walk_at "rd"
    refine ⟨q, u, c, d, rfl, S6.same z7, z7 _ _ hu6, by omega, by omega, by omega, by omega, fun H8 z8 => ?_⟩
    have z8 := z7.trans z8
    walk_at "rd"
    refine ⟨p, t, u, a, b, c, d, rfl, T6.same z8, z8 _ _ ht6, z8 _ _ hu6, fun H9 z9 => ?_⟩
    have z9 := z8.trans z9
    walk_at "rd"
    refine ⟨q, u, t, c, d, a, b, rfl, S6.same z9, z9 _ _ hu6, z9 _ _ ht6, fun H10 z10 => ?_⟩
    have z10 := z9.trans z10
    walk_at "rd"
    refine ⟨p, t, a, b, m, rfl, T6.same z10, z10 _ _ ht6, hab, by omega, by omega, by omega, by omega, fun H11 z11 => ?_⟩
    have z11 := z10.trans z11
    walk_at "rd"
    refine ⟨q, u, c, d, 1, rfl, S6.same z11, z11 _ _ hu6, hcd, by omega, by omega, by omega, by omega, fun H12 z12 => ?_⟩
    have z12 := z11.trans z12
    walk_at "rd"
    refine ⟨p, q, t, u, a, b, c, d, rfl, T6.same z12, S6.same z12, z12 _ _ ht6, z12 _ _ hu6, hab, hcd, by omega, by omega, by omega, by omega, fun H13 z13 => ?_⟩
    have z13 := z12.trans z13
    walk_at "rd"
    refine ⟨q, p, u, t, c, d, a, b, rfl, S6.same z13, T6.same z13, z13 _ _ hu6, z13 _ _ ht6, hcd, hab, by omega, by omega, by omega, by omega, fun H14 z14 => ?_⟩
    have z14 := z13.trans z14
    walk_at "rd"
    refine ⟨p, q, t, u, a, b, c, d, rfl, T6.same z14, S6.same z14, z14 _ _ ht6, z14 _ _ hu6, hab, hcd, fun H15 z15 => ?_⟩
    have z15 := z14.trans z15
    walk_at "rd"
    refine ⟨q, p, u, t, c, d, a, b, rfl, S6.same z15, T6.same z15, z15 _ _ hu6, z15 _ _ ht6, hcd, hab, fun H16 z16 => ?_⟩
    have z16 := z15.trans z16
    have B16 := ((B4.same x5).same x6).same z16
    have hpb := BoxAt.ne B4 n5
    have hqb := BoxAt.ne (B4.same x5) n6
    walk_at "rd"
    walk_at "dr"
    intro r1 H17 p17 q17 B17 x17
    have ht17 := x17 _ _ htb (z16 _ _ ht6)
    have hu17 := x17 _ _ hub (z16 _ _ hu6)
    have S17 := (S6.same z16).exb hqb x17
    have T17 := (T6.same z16).exb hpb x17
    have all : ∀ v ∈ ([.int a, .int b] : List V), ∃ z : Int, v = .int z ∧ -(10 ^ 19) ≤ z ∧ z < 10 ^ 19 := by
      intro v hv
      simp only [List.mem_cons, List.not_mem_nil, or_false] at hv
      rcases hv with rfl | rfl <;> exact ⟨_, rfl, by omega, by omega⟩
    obtain ⟨v, av, mv⟩ := at_lt (xs := [V.int a, V.int b]) p17 q17
    obtain ⟨day, rfl, d17, d17'⟩ := all v mv
    refine ⟨_, _, _, _, rfl, rfl, SqT.of ht17, av, ?_⟩
    walk_at "rd"
    walk_at "dr"
    intro r2 H18 p18 q18 B18 x18
    walk_at "rd"
    walk_at "dr"
    intro r3 H19 p19 q19 B19 x19
    walk_at "rd"
    intro ls hls
    walk_at "rd"
    walk_at "dr"
    intro r4 H20 p20 q20 B20 x20
    have all2 : ∀ v ∈ ([.int 1, .int (1 + r2), .int (1 + r3 / 4)] : List V), ∃ z : Int, v = .int z ∧ 1 ≤ z := by
      intro v hv
      simp only [List.mem_cons, List.not_mem_nil, or_false] at hv
      rcases hv with rfl | rfl | rfl <;> exact ⟨_, rfl, by omega⟩
    obtain ⟨v2, av2, mv2⟩ := at_lt (xs := [V.int 1, .int (1 + r2), .int (1 + r3 / 4)]) p20 q20
    obtain ⟨less, rfl, l1⟩ := all2 v2 mv2
    have nls : ls ≠ bx := BoxAt.ne (by walk_at "pre") hls
    refine ⟨_, _, _, _, rfl, rfl, SqL.of (x20 ls _ nls upd_same), av2, ?_⟩
    have x20' := ((x18.trans x19).new hls).trans x20
    have ht20 := x20' _ _ htb ht17
    have hu20 := x20' _ _ hub hu17
    have S20 := S17.exb hqb x20'
    have T20 := T17.exb hpb x20'
    walk_at "rd"
    refine ⟨by omega, fun H21 z21 => ?_⟩
    walk_at "rd"
    refine ⟨by omega, fun H22 z22 => ?_⟩
    have z22 := z21.trans z22
    walk_at "rd"
    intro w1 dw n23 nd23 ne23
    refine mk2 n23 nd23 ne23 (fun h => by omega) fun _ H23 z23 S23 => ?_
    have z23 := z22.trans z23
    walk_at "rd"
    intro t1 ht1
    walk_at "rd"
    refine ⟨w1, t1, day, day, rfl, S23.new ht1, upd_same, by omega, by omega, by omega, by omega, fun H24 z24 => ?_⟩
    have z24 := (Same.new z23 ht1).trans z24
    walk_at "rd"
    refine ⟨p, t, a, b, rfl, T20.same z24, z24 _ _ ht20, by omega, by omega, by omega, by omega, fun H25 z25 => ?_⟩
    have z25 := z24.trans z25
    walk_at "rd"
    refine ⟨q, u, c, d, rfl, S20.same z25, z25 _ _ hu20, by omega, by omega, by omega, by omega, fun H26 z26 => ?_⟩
    exact k _
end
end Toy
set_option Elab.async false
set_option linter.all false
set_option maxRecDepth 100000
set_option maxHeartbeats 4000000
namespace Toy
open PySem L2 XR
theorem all_mk {l : PySem.W.OpenLaw} {w : World} {K : PySem.W.Frag} {h : Heap} {mg : Str → Option Value} {fa : Addr} (X : K.In h) (G : h.Ns mainGlobals mg) (hfa : mg "law" = some (.ref fa))
    {x_EmptyStay_init x_NoCommonDay_init x_Stay_init x_Stay___eq__ x_Stay___str__ x_Stay___contains__ x_Stay___add__ x_Stay___sub__ x_Stay___and__ x_Stay___or__ x_Stay_width x__law_draws x__law_take x__law_far x__law_number x__law_first x__law_near x__law_many x__law_is x__law_has x__law_moved x__law_apart x__law_joined x__law_alike x__law_empty x__law_caught x_law x_ArchiveError x_UnknownError x_TextError x_ImpossibleError x_EmptyStay x_NoCommonDay x_Stay q_Stay_width : Addr}
    {od_EmptyStay_init an_EmptyStay_init : Option Addr} {sl_EmptyStay_init : Array (Option Value)} {oc_EmptyStay_init kV_EmptyStay_init dc_EmptyStay_init pm_EmptyStay_init cd_EmptyStay_init ct_EmptyStay_init : Value}
    {od_NoCommonDay_init an_NoCommonDay_init : Option Addr} {sl_NoCommonDay_init : Array (Option Value)} {oc_NoCommonDay_init kV_NoCommonDay_init dc_NoCommonDay_init pm_NoCommonDay_init cd_NoCommonDay_init ct_NoCommonDay_init : Value}
    {od_Stay_init an_Stay_init : Option Addr} {sl_Stay_init : Array (Option Value)} {oc_Stay_init kV_Stay_init dc_Stay_init pm_Stay_init cd_Stay_init ct_Stay_init : Value}
    {od_Stay___eq__ an_Stay___eq__ : Option Addr} {sl_Stay___eq__ : Array (Option Value)} {oc_Stay___eq__ kV_Stay___eq__ dc_Stay___eq__ pm_Stay___eq__ cd_Stay___eq__ ct_Stay___eq__ : Value}
    {od_Stay___str__ an_Stay___str__ : Option Addr} {sl_Stay___str__ : Array (Option Value)} {oc_Stay___str__ kV_Stay___str__ dc_Stay___str__ pm_Stay___str__ cd_Stay___str__ ct_Stay___str__ : Value}
    {od_Stay___contains__ an_Stay___contains__ : Option Addr} {sl_Stay___contains__ : Array (Option Value)} {oc_Stay___contains__ kV_Stay___contains__ dc_Stay___contains__ pm_Stay___contains__ cd_Stay___contains__ ct_Stay___contains__ : Value}
    {od_Stay___add__ an_Stay___add__ : Option Addr} {sl_Stay___add__ : Array (Option Value)} {oc_Stay___add__ kV_Stay___add__ dc_Stay___add__ pm_Stay___add__ cd_Stay___add__ ct_Stay___add__ : Value}
    {od_Stay___sub__ an_Stay___sub__ : Option Addr} {sl_Stay___sub__ : Array (Option Value)} {oc_Stay___sub__ kV_Stay___sub__ dc_Stay___sub__ pm_Stay___sub__ cd_Stay___sub__ ct_Stay___sub__ : Value}
    {od_Stay___and__ an_Stay___and__ : Option Addr} {sl_Stay___and__ : Array (Option Value)} {oc_Stay___and__ kV_Stay___and__ dc_Stay___and__ pm_Stay___and__ cd_Stay___and__ ct_Stay___and__ : Value}
    {od_Stay___or__ an_Stay___or__ : Option Addr} {sl_Stay___or__ : Array (Option Value)} {oc_Stay___or__ kV_Stay___or__ dc_Stay___or__ pm_Stay___or__ cd_Stay___or__ ct_Stay___or__ : Value}
    {od_Stay_width an_Stay_width : Option Addr} {sl_Stay_width : Array (Option Value)} {oc_Stay_width kV_Stay_width dc_Stay_width pm_Stay_width cd_Stay_width ct_Stay_width : Value}
    {rest_Stay_width : List Value}
    {od__law_draws an__law_draws : Option Addr} {sl__law_draws : Array (Option Value)} {oc__law_draws kV__law_draws dc__law_draws pm__law_draws cd__law_draws ct__law_draws : Value}
    {od__law_take an__law_take : Option Addr} {sl__law_take : Array (Option Value)} {oc__law_take kV__law_take dc__law_take pm__law_take cd__law_take ct__law_take : Value}
    {od__law_far an__law_far : Option Addr} {sl__law_far : Array (Option Value)} {oc__law_far kV__law_far dc__law_far pm__law_far cd__law_far ct__law_far : Value}
    {od__law_number an__law_number : Option Addr} {sl__law_number : Array (Option Value)} {oc__law_number kV__law_number dc__law_number pm__law_number cd__law_number ct__law_number : Value}
    {od__law_first an__law_first : Option Addr} {sl__law_first : Array (Option Value)} {oc__law_first kV__law_first dc__law_first pm__law_first cd__law_first ct__law_first : Value}
    {od__law_near an__law_near : Option Addr} {sl__law_near : Array (Option Value)} {oc__law_near kV__law_near dc__law_near pm__law_near cd__law_near ct__law_near : Value}
    {od__law_many an__law_many : Option Addr} {sl__law_many : Array (Option Value)} {oc__law_many kV__law_many dc__law_many pm__law_many cd__law_many ct__law_many : Value}
    {od__law_is an__law_is : Option Addr} {sl__law_is : Array (Option Value)} {oc__law_is kV__law_is dc__law_is pm__law_is cd__law_is ct__law_is : Value}
    {od__law_has an__law_has : Option Addr} {sl__law_has : Array (Option Value)} {oc__law_has kV__law_has dc__law_has pm__law_has cd__law_has ct__law_has : Value}
    {od__law_moved an__law_moved : Option Addr} {sl__law_moved : Array (Option Value)} {oc__law_moved kV__law_moved dc__law_moved pm__law_moved cd__law_moved ct__law_moved : Value}
    {od__law_apart an__law_apart : Option Addr} {sl__law_apart : Array (Option Value)} {oc__law_apart kV__law_apart dc__law_apart pm__law_apart cd__law_apart ct__law_apart : Value}
    {od__law_joined an__law_joined : Option Addr} {sl__law_joined : Array (Option Value)} {oc__law_joined kV__law_joined dc__law_joined pm__law_joined cd__law_joined ct__law_joined : Value}
    {od__law_alike an__law_alike : Option Addr} {sl__law_alike : Array (Option Value)} {oc__law_alike kV__law_alike dc__law_alike pm__law_alike cd__law_alike ct__law_alike : Value}
    {od__law_empty an__law_empty : Option Addr} {sl__law_empty : Array (Option Value)} {oc__law_empty kV__law_empty dc__law_empty pm__law_empty cd__law_empty ct__law_empty : Value}
    {od__law_caught an__law_caught : Option Addr} {sl__law_caught : Array (Option Value)} {oc__law_caught kV__law_caught dc__law_caught pm__law_caught cd__law_caught ct__law_caught : Value}
    {od_law an_law : Option Addr} {sl_law : Array (Option Value)} {oc_law kV_law dc_law pm_law cd_law ct_law : Value}
    {nm_EmptyStay q_EmptyStay : Str} {N_EmptyStay : Addr} {bs_EmptyStay bm_EmptyStay : List Value} {sn_EmptyStay : List Str} {sub_EmptyStay : List Value} {ab_EmptyStay : Bool} {col_EmptyStay : Option Bool} {dd_EmptyStay : Option Addr} {m0_EmptyStay m1_EmptyStay m2_EmptyStay m3_EmptyStay m5_EmptyStay : Option Value}
    {nm_NoCommonDay q_NoCommonDay : Str} {N_NoCommonDay : Addr} {bs_NoCommonDay bm_NoCommonDay : List Value} {sn_NoCommonDay : List Str} {sub_NoCommonDay : List Value} {ab_NoCommonDay : Bool} {col_NoCommonDay : Option Bool} {dd_NoCommonDay : Option Addr} {m0_NoCommonDay m1_NoCommonDay m2_NoCommonDay m3_NoCommonDay m5_NoCommonDay : Option Value}
    {i_add_fo : Option Value}
    {j_add_fo : Option Value}
    {i_sub_fo : Option Value}
    {j_sub_fo : Option Value}
    (hC_ArchiveError : PySem.W.nsIn K mainGlobals "ArchiveError" = some (some (.ref x_ArchiveError)))
    (hK_ArchiveError : PySem.W.keepIn K (.ref x_ArchiveError) = true)
    (hC_UnknownError : PySem.W.nsIn K mainGlobals "UnknownError" = some (some (.ref x_UnknownError)))
    (hK_UnknownError : PySem.W.keepIn K (.ref x_UnknownError) = true)
    (hC_TextError : PySem.W.nsIn K mainGlobals "TextError" = some (some (.ref x_TextError)))
    (hK_TextError : PySem.W.keepIn K (.ref x_TextError) = true)
    (hC_ImpossibleError : PySem.W.nsIn K mainGlobals "ImpossibleError" = some (some (.ref x_ImpossibleError)))
    (hK_ImpossibleError : PySem.W.keepIn K (.ref x_ImpossibleError) = true)
    (hC_EmptyStay : PySem.W.nsIn K mainGlobals "EmptyStay" = some (some (.ref x_EmptyStay)))
    (hK_EmptyStay : PySem.W.keepIn K (.ref x_EmptyStay) = true)
    (hC_NoCommonDay : PySem.W.nsIn K mainGlobals "NoCommonDay" = some (some (.ref x_NoCommonDay)))
    (hK_NoCommonDay : PySem.W.keepIn K (.ref x_NoCommonDay) = true)
    (hC_Stay : PySem.W.nsIn K mainGlobals "Stay" = some (some (.ref x_Stay)))
    (hK_Stay : PySem.W.keepIn K (.ref x_Stay) = true)
    (ha_EmptyStay_init : PySem.W.findIn K (.ref x_EmptyStay) "__init__" = some (some (.ref x_EmptyStay_init)))
    (hi_EmptyStay_init : PySem.W.isFn K (.ref x_EmptyStay_init) = true)
    (hl_EmptyStay_init : K.lookup x_EmptyStay_init = some ⟨oc_EmptyStay_init, od_EmptyStay_init, .func (PySem.W.fnOf "__init__" "EmptyStay.__init__" (defArgs s_EmptyStay_init) (defBody s_EmptyStay_init) (defScope s_EmptyStay_init) .none kV_EmptyStay_init dc_EmptyStay_init pm_EmptyStay_init an_EmptyStay_init cd_EmptyStay_init ct_EmptyStay_init), sl_EmptyStay_init⟩)
    (hc_EmptyStay_init : PySem.W.codeIn K cd_EmptyStay_init "EmptyStay.__init__" = true)
    (hk_EmptyStay_init : PySem.W.keepIn K (.ref x_EmptyStay_init) = true)
    (ha_NoCommonDay_init : PySem.W.findIn K (.ref x_NoCommonDay) "__init__" = some (some (.ref x_NoCommonDay_init)))
    (hi_NoCommonDay_init : PySem.W.isFn K (.ref x_NoCommonDay_init) = true)
    (hl_NoCommonDay_init : K.lookup x_NoCommonDay_init = some ⟨oc_NoCommonDay_init, od_NoCommonDay_init, .func (PySem.W.fnOf "__init__" "NoCommonDay.__init__" (defArgs s_NoCommonDay_init) (defBody s_NoCommonDay_init) (defScope s_NoCommonDay_init) .none kV_NoCommonDay_init dc_NoCommonDay_init pm_NoCommonDay_init an_NoCommonDay_init cd_NoCommonDay_init ct_NoCommonDay_init), sl_NoCommonDay_init⟩)
    (hc_NoCommonDay_init : PySem.W.codeIn K cd_NoCommonDay_init "NoCommonDay.__init__" = true)
    (hk_NoCommonDay_init : PySem.W.keepIn K (.ref x_NoCommonDay_init) = true)
    (ha_Stay_init : PySem.W.findIn K (.ref x_Stay) "__init__" = some (some (.ref x_Stay_init)))
    (hi_Stay_init : PySem.W.isFn K (.ref x_Stay_init) = true)
    (hl_Stay_init : K.lookup x_Stay_init = some ⟨oc_Stay_init, od_Stay_init, .func (PySem.W.fnOf "__init__" "Stay.__init__" (defArgs s_Stay_init) (defBody s_Stay_init) (defScope s_Stay_init) .none kV_Stay_init dc_Stay_init pm_Stay_init an_Stay_init cd_Stay_init ct_Stay_init), sl_Stay_init⟩)
    (hc_Stay_init : PySem.W.codeIn K cd_Stay_init "Stay.__init__" = true)
    (hk_Stay_init : PySem.W.keepIn K (.ref x_Stay_init) = true)
    (ha_Stay___eq__ : PySem.W.findIn K (.ref x_Stay) "__eq__" = some (some (.ref x_Stay___eq__)))
    (hi_Stay___eq__ : PySem.W.isFn K (.ref x_Stay___eq__) = true)
    (hl_Stay___eq__ : K.lookup x_Stay___eq__ = some ⟨oc_Stay___eq__, od_Stay___eq__, .func (PySem.W.fnOf "__eq__" "Stay.__eq__" (defArgs s_Stay___eq__) (defBody s_Stay___eq__) (defScope s_Stay___eq__) .none kV_Stay___eq__ dc_Stay___eq__ pm_Stay___eq__ an_Stay___eq__ cd_Stay___eq__ ct_Stay___eq__), sl_Stay___eq__⟩)
    (hc_Stay___eq__ : PySem.W.codeIn K cd_Stay___eq__ "Stay.__eq__" = true)
    (hk_Stay___eq__ : PySem.W.keepIn K (.ref x_Stay___eq__) = true)
    (ha_Stay___str__ : PySem.W.findIn K (.ref x_Stay) "__str__" = some (some (.ref x_Stay___str__)))
    (hi_Stay___str__ : PySem.W.isFn K (.ref x_Stay___str__) = true)
    (hl_Stay___str__ : K.lookup x_Stay___str__ = some ⟨oc_Stay___str__, od_Stay___str__, .func (PySem.W.fnOf "__str__" "Stay.__str__" (defArgs s_Stay___str__) (defBody s_Stay___str__) (defScope s_Stay___str__) .none kV_Stay___str__ dc_Stay___str__ pm_Stay___str__ an_Stay___str__ cd_Stay___str__ ct_Stay___str__), sl_Stay___str__⟩)
    (hc_Stay___str__ : PySem.W.codeIn K cd_Stay___str__ "Stay.__str__" = true)
    (hk_Stay___str__ : PySem.W.keepIn K (.ref x_Stay___str__) = true)
    (ha_Stay___contains__ : PySem.W.findIn K (.ref x_Stay) "__contains__" = some (some (.ref x_Stay___contains__)))
    (hi_Stay___contains__ : PySem.W.isFn K (.ref x_Stay___contains__) = true)
    (hl_Stay___contains__ : K.lookup x_Stay___contains__ = some ⟨oc_Stay___contains__, od_Stay___contains__, .func (PySem.W.fnOf "__contains__" "Stay.__contains__" (defArgs s_Stay___contains__) (defBody s_Stay___contains__) (defScope s_Stay___contains__) .none kV_Stay___contains__ dc_Stay___contains__ pm_Stay___contains__ an_Stay___contains__ cd_Stay___contains__ ct_Stay___contains__), sl_Stay___contains__⟩)
    (hc_Stay___contains__ : PySem.W.codeIn K cd_Stay___contains__ "Stay.__contains__" = true)
    (hk_Stay___contains__ : PySem.W.keepIn K (.ref x_Stay___contains__) = true)
    (ha_Stay___add__ : PySem.W.findIn K (.ref x_Stay) "__add__" = some (some (.ref x_Stay___add__)))
    (hi_Stay___add__ : PySem.W.isFn K (.ref x_Stay___add__) = true)
    (hl_Stay___add__ : K.lookup x_Stay___add__ = some ⟨oc_Stay___add__, od_Stay___add__, .func (PySem.W.fnOf "__add__" "Stay.__add__" (defArgs s_Stay___add__) (defBody s_Stay___add__) (defScope s_Stay___add__) .none kV_Stay___add__ dc_Stay___add__ pm_Stay___add__ an_Stay___add__ cd_Stay___add__ ct_Stay___add__), sl_Stay___add__⟩)
    (hc_Stay___add__ : PySem.W.codeIn K cd_Stay___add__ "Stay.__add__" = true)
    (hk_Stay___add__ : PySem.W.keepIn K (.ref x_Stay___add__) = true)
    (ha_Stay___sub__ : PySem.W.findIn K (.ref x_Stay) "__sub__" = some (some (.ref x_Stay___sub__)))
    (hi_Stay___sub__ : PySem.W.isFn K (.ref x_Stay___sub__) = true)
    (hl_Stay___sub__ : K.lookup x_Stay___sub__ = some ⟨oc_Stay___sub__, od_Stay___sub__, .func (PySem.W.fnOf "__sub__" "Stay.__sub__" (defArgs s_Stay___sub__) (defBody s_Stay___sub__) (defScope s_Stay___sub__) .none kV_Stay___sub__ dc_Stay___sub__ pm_Stay___sub__ an_Stay___sub__ cd_Stay___sub__ ct_Stay___sub__), sl_Stay___sub__⟩)
    (hc_Stay___sub__ : PySem.W.codeIn K cd_Stay___sub__ "Stay.__sub__" = true)
    (hk_Stay___sub__ : PySem.W.keepIn K (.ref x_Stay___sub__) = true)
    (ha_Stay___and__ : PySem.W.findIn K (.ref x_Stay) "__and__" = some (some (.ref x_Stay___and__)))
    (hi_Stay___and__ : PySem.W.isFn K (.ref x_Stay___and__) = true)
    (hl_Stay___and__ : K.lookup x_Stay___and__ = some ⟨oc_Stay___and__, od_Stay___and__, .func (PySem.W.fnOf "__and__" "Stay.__and__" (defArgs s_Stay___and__) (defBody s_Stay___and__) (defScope s_Stay___and__) .none kV_Stay___and__ dc_Stay___and__ pm_Stay___and__ an_Stay___and__ cd_Stay___and__ ct_Stay___and__), sl_Stay___and__⟩)
    (hc_Stay___and__ : PySem.W.codeIn K cd_Stay___and__ "Stay.__and__" = true)
    (hk_Stay___and__ : PySem.W.keepIn K (.ref x_Stay___and__) = true)
    (ha_Stay___or__ : PySem.W.findIn K (.ref x_Stay) "__or__" = some (some (.ref x_Stay___or__)))
    (hi_Stay___or__ : PySem.W.isFn K (.ref x_Stay___or__) = true)
    (hl_Stay___or__ : K.lookup x_Stay___or__ = some ⟨oc_Stay___or__, od_Stay___or__, .func (PySem.W.fnOf "__or__" "Stay.__or__" (defArgs s_Stay___or__) (defBody s_Stay___or__) (defScope s_Stay___or__) .none kV_Stay___or__ dc_Stay___or__ pm_Stay___or__ an_Stay___or__ cd_Stay___or__ ct_Stay___or__), sl_Stay___or__⟩)
    (hc_Stay___or__ : PySem.W.codeIn K cd_Stay___or__ "Stay.__or__" = true)
    (hk_Stay___or__ : PySem.W.keepIn K (.ref x_Stay___or__) = true)
    (ha_Stay_width : PySem.W.findIn K (.ref x_Stay) "width" = some (some (.ref q_Stay_width)))
    (hg_Stay_width : PySem.W.specialIn K (.ref q_Stay_width) "__get__" = some (some (.builtin "property.__get__")))
    (ht_Stay_width : PySem.W.takesIn K (.ref q_Stay_width) = some true)
    (hr_Stay_width : PySem.W.recIn K q_Stay_width "property" = some (.ref x_Stay_width :: rest_Stay_width))
    (hl_Stay_width : K.lookup x_Stay_width = some ⟨oc_Stay_width, od_Stay_width, .func (PySem.W.fnOf "width" "Stay.width" (defArgs s_Stay_width) (defBody s_Stay_width) (defScope s_Stay_width) .none kV_Stay_width dc_Stay_width pm_Stay_width an_Stay_width cd_Stay_width ct_Stay_width), sl_Stay_width⟩)
    (hc_Stay_width : PySem.W.codeIn K cd_Stay_width "Stay.width" = true)
    (hk_Stay_width : PySem.W.keepIn K (.ref x_Stay_width) = true)
    (ha__law_draws : PySem.W.nsIn K mainGlobals "_law_draws" = some (some (.ref x__law_draws)))
    (hl__law_draws : K.lookup x__law_draws = some ⟨oc__law_draws, od__law_draws, .func (PySem.W.fnOf "_law_draws" "_law_draws" (defArgs s__law_draws) (defBody s__law_draws) (defScope s__law_draws) .none kV__law_draws dc__law_draws pm__law_draws an__law_draws cd__law_draws ct__law_draws), sl__law_draws⟩)
    (hc__law_draws : PySem.W.codeIn K cd__law_draws "_law_draws" = true)
    (hk__law_draws : PySem.W.keepIn K (.ref x__law_draws) = true)
    (ha__law_take : PySem.W.nsIn K mainGlobals "_law_take" = some (some (.ref x__law_take)))
    (hl__law_take : K.lookup x__law_take = some ⟨oc__law_take, od__law_take, .func (PySem.W.fnOf "_law_take" "_law_take" (defArgs s__law_take) (defBody s__law_take) (defScope s__law_take) .none kV__law_take dc__law_take pm__law_take an__law_take cd__law_take ct__law_take), sl__law_take⟩)
    (hc__law_take : PySem.W.codeIn K cd__law_take "_law_take" = true)
    (hk__law_take : PySem.W.keepIn K (.ref x__law_take) = true)
    (ha__law_far : PySem.W.nsIn K mainGlobals "_law_far" = some (some (.ref x__law_far)))
    (hl__law_far : K.lookup x__law_far = some ⟨oc__law_far, od__law_far, .func (PySem.W.fnOf "_law_far" "_law_far" (defArgs s__law_far) (defBody s__law_far) (defScope s__law_far) .none kV__law_far dc__law_far pm__law_far an__law_far cd__law_far ct__law_far), sl__law_far⟩)
    (hc__law_far : PySem.W.codeIn K cd__law_far "_law_far" = true)
    (hk__law_far : PySem.W.keepIn K (.ref x__law_far) = true)
    (ha__law_number : PySem.W.nsIn K mainGlobals "_law_number" = some (some (.ref x__law_number)))
    (hl__law_number : K.lookup x__law_number = some ⟨oc__law_number, od__law_number, .func (PySem.W.fnOf "_law_number" "_law_number" (defArgs s__law_number) (defBody s__law_number) (defScope s__law_number) .none kV__law_number dc__law_number pm__law_number an__law_number cd__law_number ct__law_number), sl__law_number⟩)
    (hc__law_number : PySem.W.codeIn K cd__law_number "_law_number" = true)
    (hk__law_number : PySem.W.keepIn K (.ref x__law_number) = true)
    (ha__law_first : PySem.W.nsIn K mainGlobals "_law_first" = some (some (.ref x__law_first)))
    (hl__law_first : K.lookup x__law_first = some ⟨oc__law_first, od__law_first, .func (PySem.W.fnOf "_law_first" "_law_first" (defArgs s__law_first) (defBody s__law_first) (defScope s__law_first) .none kV__law_first dc__law_first pm__law_first an__law_first cd__law_first ct__law_first), sl__law_first⟩)
    (hc__law_first : PySem.W.codeIn K cd__law_first "_law_first" = true)
    (hk__law_first : PySem.W.keepIn K (.ref x__law_first) = true)
    (ha__law_near : PySem.W.nsIn K mainGlobals "_law_near" = some (some (.ref x__law_near)))
    (hl__law_near : K.lookup x__law_near = some ⟨oc__law_near, od__law_near, .func (PySem.W.fnOf "_law_near" "_law_near" (defArgs s__law_near) (defBody s__law_near) (defScope s__law_near) .none kV__law_near dc__law_near pm__law_near an__law_near cd__law_near ct__law_near), sl__law_near⟩)
    (hc__law_near : PySem.W.codeIn K cd__law_near "_law_near" = true)
    (hk__law_near : PySem.W.keepIn K (.ref x__law_near) = true)
    (ha__law_many : PySem.W.nsIn K mainGlobals "_law_many" = some (some (.ref x__law_many)))
    (hl__law_many : K.lookup x__law_many = some ⟨oc__law_many, od__law_many, .func (PySem.W.fnOf "_law_many" "_law_many" (defArgs s__law_many) (defBody s__law_many) (defScope s__law_many) .none kV__law_many dc__law_many pm__law_many an__law_many cd__law_many ct__law_many), sl__law_many⟩)
    (hc__law_many : PySem.W.codeIn K cd__law_many "_law_many" = true)
    (hk__law_many : PySem.W.keepIn K (.ref x__law_many) = true)
    (ha__law_is : PySem.W.nsIn K mainGlobals "_law_is" = some (some (.ref x__law_is)))
    (hl__law_is : K.lookup x__law_is = some ⟨oc__law_is, od__law_is, .func (PySem.W.fnOf "_law_is" "_law_is" (defArgs s__law_is) (defBody s__law_is) (defScope s__law_is) .none kV__law_is dc__law_is pm__law_is an__law_is cd__law_is ct__law_is), sl__law_is⟩)
    (hc__law_is : PySem.W.codeIn K cd__law_is "_law_is" = true)
    (hk__law_is : PySem.W.keepIn K (.ref x__law_is) = true)
    (ha__law_has : PySem.W.nsIn K mainGlobals "_law_has" = some (some (.ref x__law_has)))
    (hl__law_has : K.lookup x__law_has = some ⟨oc__law_has, od__law_has, .func (PySem.W.fnOf "_law_has" "_law_has" (defArgs s__law_has) (defBody s__law_has) (defScope s__law_has) .none kV__law_has dc__law_has pm__law_has an__law_has cd__law_has ct__law_has), sl__law_has⟩)
    (hc__law_has : PySem.W.codeIn K cd__law_has "_law_has" = true)
    (hk__law_has : PySem.W.keepIn K (.ref x__law_has) = true)
    (ha__law_moved : PySem.W.nsIn K mainGlobals "_law_moved" = some (some (.ref x__law_moved)))
    (hl__law_moved : K.lookup x__law_moved = some ⟨oc__law_moved, od__law_moved, .func (PySem.W.fnOf "_law_moved" "_law_moved" (defArgs s__law_moved) (defBody s__law_moved) (defScope s__law_moved) .none kV__law_moved dc__law_moved pm__law_moved an__law_moved cd__law_moved ct__law_moved), sl__law_moved⟩)
    (hc__law_moved : PySem.W.codeIn K cd__law_moved "_law_moved" = true)
    (hk__law_moved : PySem.W.keepIn K (.ref x__law_moved) = true)
    (ha__law_apart : PySem.W.nsIn K mainGlobals "_law_apart" = some (some (.ref x__law_apart)))
    (hl__law_apart : K.lookup x__law_apart = some ⟨oc__law_apart, od__law_apart, .func (PySem.W.fnOf "_law_apart" "_law_apart" (defArgs s__law_apart) (defBody s__law_apart) (defScope s__law_apart) .none kV__law_apart dc__law_apart pm__law_apart an__law_apart cd__law_apart ct__law_apart), sl__law_apart⟩)
    (hc__law_apart : PySem.W.codeIn K cd__law_apart "_law_apart" = true)
    (hk__law_apart : PySem.W.keepIn K (.ref x__law_apart) = true)
    (ha__law_joined : PySem.W.nsIn K mainGlobals "_law_joined" = some (some (.ref x__law_joined)))
    (hl__law_joined : K.lookup x__law_joined = some ⟨oc__law_joined, od__law_joined, .func (PySem.W.fnOf "_law_joined" "_law_joined" (defArgs s__law_joined) (defBody s__law_joined) (defScope s__law_joined) .none kV__law_joined dc__law_joined pm__law_joined an__law_joined cd__law_joined ct__law_joined), sl__law_joined⟩)
    (hc__law_joined : PySem.W.codeIn K cd__law_joined "_law_joined" = true)
    (hk__law_joined : PySem.W.keepIn K (.ref x__law_joined) = true)
    (ha__law_alike : PySem.W.nsIn K mainGlobals "_law_alike" = some (some (.ref x__law_alike)))
    (hl__law_alike : K.lookup x__law_alike = some ⟨oc__law_alike, od__law_alike, .func (PySem.W.fnOf "_law_alike" "_law_alike" (defArgs s__law_alike) (defBody s__law_alike) (defScope s__law_alike) .none kV__law_alike dc__law_alike pm__law_alike an__law_alike cd__law_alike ct__law_alike), sl__law_alike⟩)
    (hc__law_alike : PySem.W.codeIn K cd__law_alike "_law_alike" = true)
    (hk__law_alike : PySem.W.keepIn K (.ref x__law_alike) = true)
    (ha__law_empty : PySem.W.nsIn K mainGlobals "_law_empty" = some (some (.ref x__law_empty)))
    (hl__law_empty : K.lookup x__law_empty = some ⟨oc__law_empty, od__law_empty, .func (PySem.W.fnOf "_law_empty" "_law_empty" (defArgs s__law_empty) (defBody s__law_empty) (defScope s__law_empty) .none kV__law_empty dc__law_empty pm__law_empty an__law_empty cd__law_empty ct__law_empty), sl__law_empty⟩)
    (hc__law_empty : PySem.W.codeIn K cd__law_empty "_law_empty" = true)
    (hk__law_empty : PySem.W.keepIn K (.ref x__law_empty) = true)
    (ha__law_caught : PySem.W.nsIn K mainGlobals "_law_caught" = some (some (.ref x__law_caught)))
    (hl__law_caught : K.lookup x__law_caught = some ⟨oc__law_caught, od__law_caught, .func (PySem.W.fnOf "_law_caught" "_law_caught" (defArgs s__law_caught) (defBody s__law_caught) (defScope s__law_caught) .none kV__law_caught dc__law_caught pm__law_caught an__law_caught cd__law_caught ct__law_caught), sl__law_caught⟩)
    (hc__law_caught : PySem.W.codeIn K cd__law_caught "_law_caught" = true)
    (hk__law_caught : PySem.W.keepIn K (.ref x__law_caught) = true)
    (ha_law : PySem.W.nsIn K mainGlobals "law" = some (some (.ref x_law)))
    (hl_law : K.lookup x_law = some ⟨oc_law, od_law, .func (PySem.W.fnOf "law" "law" (defArgs s_law) (defBody s_law) (defScope s_law) .none kV_law dc_law pm_law an_law cd_law ct_law), sl_law⟩)
    (hc_law : PySem.W.codeIn K cd_law "law" = true)
    (hk_law : PySem.W.keepIn K (.ref x_law) = true)
    (hn_ValueError : PySem.W.nsIn K mainGlobals "ValueError" = some none)
    (hn_bool : PySem.W.nsIn K mainGlobals "bool" = some none)
    (hn_int : PySem.W.nsIn K mainGlobals "int" = some none)
    (hn_isinstance : PySem.W.nsIn K mainGlobals "isinstance" = some none)
    (hn_len : PySem.W.nsIn K mainGlobals "len" = some none)
    (hn_max : PySem.W.nsIn K mainGlobals "max" = some none)
    (hn_min : PySem.W.nsIn K mainGlobals "min" = some none)
    (hn_str : PySem.W.nsIn K mainGlobals "str" = some none)
    (ol_EmptyStay : K.lookup x_EmptyStay = some (excClassObj nm_EmptyStay q_EmptyStay x_EmptyStay N_EmptyStay bs_EmptyStay bm_EmptyStay true sn_EmptyStay sub_EmptyStay ab_EmptyStay col_EmptyStay dd_EmptyStay m0_EmptyStay m1_EmptyStay m2_EmptyStay m3_EmptyStay m5_EmptyStay "ValueError.__new__"))
    (or_EmptyStay : PySem.HandSPX.refsVE bm_EmptyStay = true)
    (ol_NoCommonDay : K.lookup x_NoCommonDay = some (excClassObj nm_NoCommonDay q_NoCommonDay x_NoCommonDay N_NoCommonDay bs_NoCommonDay bm_NoCommonDay true sn_NoCommonDay sub_NoCommonDay ab_NoCommonDay col_NoCommonDay dd_NoCommonDay m0_NoCommonDay m1_NoCommonDay m2_NoCommonDay m3_NoCommonDay m5_NoCommonDay "ValueError.__new__"))
    (or_NoCommonDay : PySem.HandSPX.refsVE bm_NoCommonDay = true)
    (hx_xsa_EmptyStay : PySem.W.findIn K (.ref x_EmptyStay) "__setattr__" = some (some (.builtin "object.__setattr__")))
    (hx_xga_EmptyStay : PySem.W.findIn K (.ref x_EmptyStay) "__getattribute__" = some (some (.builtin "BaseException.__getattribute__")))
    (hx_xgg_EmptyStay : PySem.W.findIn K (.ref x_EmptyStay) "__getattr__" = some none)
    (hx_xbe_EmptyStay : PySem.W.subIn K (.ref x_EmptyStay) (.type "BaseException") = some true)
    (hx_xty_EmptyStay : PySem.W.typeIn K (.ref x_EmptyStay) = some (.type "type"))
    (hx_xhd_EmptyStay : PySem.W.hasDictIn K x_EmptyStay = true)
    (hx_xca_EmptyStay : PySem.W.findIn K (.ref x_EmptyStay) "__class__" = some (some (.builtin "object.__class__")))
    (hx_xmo_EmptyStay : PySem.W.mroIn K x_EmptyStay (.type "object") = some true)
    (hx_xti_EmptyStay : PySem.W.typeIn K (.ref x_EmptyStay_init) = some (.type "function"))
    (hx_xsa_NoCommonDay : PySem.W.findIn K (.ref x_NoCommonDay) "__setattr__" = some (some (.builtin "object.__setattr__")))
    (hx_xga_NoCommonDay : PySem.W.findIn K (.ref x_NoCommonDay) "__getattribute__" = some (some (.builtin "BaseException.__getattribute__")))
    (hx_xgg_NoCommonDay : PySem.W.findIn K (.ref x_NoCommonDay) "__getattr__" = some none)
    (hx_xbe_NoCommonDay : PySem.W.subIn K (.ref x_NoCommonDay) (.type "BaseException") = some true)
    (hx_xty_NoCommonDay : PySem.W.typeIn K (.ref x_NoCommonDay) = some (.type "type"))
    (hx_xhd_NoCommonDay : PySem.W.hasDictIn K x_NoCommonDay = true)
    (hx_xca_NoCommonDay : PySem.W.findIn K (.ref x_NoCommonDay) "__class__" = some (some (.builtin "object.__class__")))
    (hx_xmo_NoCommonDay : PySem.W.mroIn K x_NoCommonDay (.type "object") = some true)
    (hx_xti_NoCommonDay : PySem.W.typeIn K (.ref x_NoCommonDay_init) = some (.type "function"))
    (hx_cn_ : PySem.W.specialIn K (.builtin "object.__class__") "__get__" = some (some (.builtin "getset_descriptor.__get__")))
    (hx_ct_ : PySem.W.takesIn K (.builtin "object.__class__") = some true)
    (hx_ymk_Stay : PySem.W.makesIn K x_Stay = true)
    (hx_ypg_Stay : PySem.W.plainGet K x_Stay Str.empty = true)
    (hx_yhd_Stay : PySem.W.hasDictIn K x_Stay = true)
    (hx_ypo_Stay : PySem.W.plainOver K x_Stay = true)
    (hx_ysa_Stay : PySem.W.findIn K (.ref x_Stay) "__setattr__" = some (some (.builtin "object.__setattr__")))
    (hx_ysf_Stay : PySem.W.selfFirst K x_Stay = true)
    (hx_yca_Stay : PySem.W.findIn K (.ref x_Stay) "__class__" = some (some (.builtin "object.__class__")))
    (hx_ymo_Stay : PySem.W.mroIn K x_Stay (.type "object") = some true)
    (hx_no_come : PySem.W.findIn K (.ref x_Stay) "come" = some none)
    (hx_no_go : PySem.W.findIn K (.ref x_Stay) "go" = some none)
    (hx_e_come : PySem.W.findIn K (.ref x_EmptyStay) "come" = some none)
    (hx_e_go : PySem.W.findIn K (.ref x_EmptyStay) "go" = some none)
    (hx_e_gap : PySem.W.findIn K (.ref x_NoCommonDay) "gap" = some none)
    (hx_ne_ : PySem.W.findIn K (.ref x_Stay) "__ne__" = some (some (.builtin "object.__ne__")))
    (hx_h_add : PySem.W.findIn K (.ref x_Stay) (PySem.dunder Operator.Add.info.2) = some (some (.ref x_Stay___add__)))
    (hx_h_sub : PySem.W.findIn K (.ref x_Stay) (PySem.dunder Operator.Sub.info.2) = some (some (.ref x_Stay___sub__)))
    (hx_h_and : PySem.W.findIn K (.ref x_Stay) (PySem.dunder Operator.BitAnd.info.2) = some (some (.ref x_Stay___and__)))
    (hx_h_or : PySem.W.findIn K (.ref x_Stay) (PySem.dunder Operator.BitOr.info.2) = some (some (.ref x_Stay___or__)))
    (hx_r_add : PySem.W.findIn K (.ref x_Stay) (PySem.dunderR Operator.Add.info.2) = some none)
    (hx_r_sub : PySem.W.findIn K (.ref x_Stay) (PySem.dunderR Operator.Sub.info.2) = some none)
    (hx_r_and : PySem.W.findIn K (.ref x_Stay) (PySem.dunderR Operator.BitAnd.info.2) = some none)
    (hx_r_or : PySem.W.findIn K (.ref x_Stay) (PySem.dunderR Operator.BitOr.info.2) = some none)
    (hx_i_add : PySem.W.findIn K (.type "int") (PySem.dunder Operator.Add.info.2) = some i_add_fo)
    (hx_j_add : PySem.W.findIn K (.type "int") (PySem.dunderR Operator.Add.info.2) = some j_add_fo)
    (hx_i_sub : PySem.W.findIn K (.type "int") (PySem.dunder Operator.Sub.info.2) = some i_sub_fo)
    (hx_j_sub : PySem.W.findIn K (.type "int") (PySem.dunderR Operator.Sub.info.2) = some j_sub_fo)
    (hx_s_int : PySem.W.subIn K (.type "int") (.ref x_Stay) = some false)
    (hx_z_Stay : PySem.W.kitOne K (.ref x_Stay) (.ref x_Stay) = some true)
    (hx_z_eU : PySem.W.kitOne K (.ref x_EmptyStay) (.ref x_UnknownError) = some false)
    (hx_z_eT : PySem.W.kitOne K (.ref x_EmptyStay) (.ref x_TextError) = some false)
    (hx_z_eI : PySem.W.kitOne K (.ref x_EmptyStay) (.ref x_ImpossibleError) = some false)
    (hx_z_eN : PySem.W.kitOne K (.ref x_EmptyStay) (.ref x_NoCommonDay) = some false)
    (hx_z_eA : PySem.W.kitOne K (.ref x_EmptyStay) (.ref x_ArchiveError) = some true)
    (hx_z_eV : PySem.W.kitOne K (.ref x_EmptyStay) (.type "ValueError") = some true)
    (hx_z_eE : PySem.W.kitOne K (.ref x_EmptyStay) (.ref x_EmptyStay) = some true)
    (hx_z_nU : PySem.W.kitOne K (.ref x_NoCommonDay) (.ref x_UnknownError) = some false)
    (hx_z_nT : PySem.W.kitOne K (.ref x_NoCommonDay) (.ref x_TextError) = some false)
    (hx_z_nI : PySem.W.kitOne K (.ref x_NoCommonDay) (.ref x_ImpossibleError) = some false)
    (hx_z_nE : PySem.W.kitOne K (.ref x_NoCommonDay) (.ref x_EmptyStay) = some false)
    (hx_z_nA : PySem.W.kitOne K (.ref x_NoCommonDay) (.ref x_ArchiveError) = some true)
    (hx_z_nV : PySem.W.kitOne K (.ref x_NoCommonDay) (.type "ValueError") = some true)
    (hx_m_ee : PySem.W.exmOne K (.ref x_EmptyStay) (.ref x_EmptyStay) = some true)
    (hx_m_ea : PySem.W.exmOne K (.ref x_EmptyStay) (.ref x_ArchiveError) = some true)
    (hx_m_nn : PySem.W.exmOne K (.ref x_NoCommonDay) (.ref x_NoCommonDay) = some true) :
    ∃ fd : FuncData, (∀ (s : Shared) (v : Value), BindsTo s fd ⟨[v], []⟩ [("_law_script", v)]) ∧ ∀ base : Heap, K.In base → base.Ns mainGlobals mg → FnOk l.prog w K mg base CX0 10 fa fd ["_law_script"] (spLaw K) := by
  have e := hfa.symm.trans (PySem.W.mg_of X G ha_law)
  cases e
  have F_EmptyStay_init := fun_mk (st := s_EmptyStay_init) hl_EmptyStay_init hc_EmptyStay_init hk_EmptyStay_init
  have b_EmptyStay_init := F_EmptyStay_init.binds (ps := ["self", "come", "go"]) fun _ _ _ _ _ _ us hl => match us, hl with | [_, _, _], _ => rfl
  have F_NoCommonDay_init := fun_mk (st := s_NoCommonDay_init) hl_NoCommonDay_init hc_NoCommonDay_init hk_NoCommonDay_init
  have b_NoCommonDay_init := F_NoCommonDay_init.binds (ps := ["self", "gap"]) fun _ _ _ _ _ _ us hl => match us, hl with | [_, _], _ => rfl
  have F_Stay_init := fun_mk (st := s_Stay_init) hl_Stay_init hc_Stay_init hk_Stay_init
  have b_Stay_init := F_Stay_init.binds (ps := ["self", "come", "go"]) fun _ _ _ _ _ _ us hl => match us, hl with | [_, _, _], _ => rfl
  have F_Stay___eq__ := fun_mk (st := s_Stay___eq__) hl_Stay___eq__ hc_Stay___eq__ hk_Stay___eq__
  have b_Stay___eq__ := F_Stay___eq__.binds (ps := ["self", "other"]) fun _ _ _ _ _ _ us hl => match us, hl with | [_, _], _ => rfl
  have F_Stay___str__ := fun_mk (st := s_Stay___str__) hl_Stay___str__ hc_Stay___str__ hk_Stay___str__
  have b_Stay___str__ := F_Stay___str__.binds (ps := ["self"]) fun _ _ _ _ _ _ us hl => match us, hl with | [_], _ => rfl
  have F_Stay___contains__ := fun_mk (st := s_Stay___contains__) hl_Stay___contains__ hc_Stay___contains__ hk_Stay___contains__
  have b_Stay___contains__ := F_Stay___contains__.binds (ps := ["self", "day"]) fun _ _ _ _ _ _ us hl => match us, hl with | [_, _], _ => rfl
  have F_Stay___add__ := fun_mk (st := s_Stay___add__) hl_Stay___add__ hc_Stay___add__ hk_Stay___add__
  have b_Stay___add__ := F_Stay___add__.binds (ps := ["self", "many"]) fun _ _ _ _ _ _ us hl => match us, hl with | [_, _], _ => rfl
  have F_Stay___sub__ := fun_mk (st := s_Stay___sub__) hl_Stay___sub__ hc_Stay___sub__ hk_Stay___sub__
  have b_Stay___sub__ := F_Stay___sub__.binds (ps := ["self", "many"]) fun _ _ _ _ _ _ us hl => match us, hl with | [_, _], _ => rfl
  have F_Stay___and__ := fun_mk (st := s_Stay___and__) hl_Stay___and__ hc_Stay___and__ hk_Stay___and__
  have b_Stay___and__ := F_Stay___and__.binds (ps := ["self", "other"]) fun _ _ _ _ _ _ us hl => match us, hl with | [_, _], _ => rfl
  have F_Stay___or__ := fun_mk (st := s_Stay___or__) hl_Stay___or__ hc_Stay___or__ hk_Stay___or__
  have b_Stay___or__ := F_Stay___or__.binds (ps := ["self", "other"]) fun _ _ _ _ _ _ us hl => match us, hl with | [_, _], _ => rfl
  have F_Stay_width := fun_mk (st := s_Stay_width) hl_Stay_width hc_Stay_width hk_Stay_width
  have b_Stay_width := F_Stay_width.binds (ps := ["self"]) fun _ _ _ _ _ _ us hl => match us, hl with | [_], _ => rfl
  have F__law_draws := fun_mk (st := s__law_draws) hl__law_draws hc__law_draws hk__law_draws
  have b__law_draws := F__law_draws.binds (ps := ["_law_script"]) fun _ _ _ _ _ _ us hl => match us, hl with | [_], _ => rfl
  have F__law_take := fun_mk (st := s__law_take) hl__law_take hc__law_take hk__law_take
  have b__law_take := F__law_take.binds (ps := ["_law_box", "_law_limit"]) fun _ _ _ _ _ _ us hl => match us, hl with | [_, _], _ => rfl
  have F__law_far := fun_mk (st := s__law_far) hl__law_far hc__law_far hk__law_far
  have b__law_far := F__law_far.binds (ps := ["_law_box"]) fun _ _ _ _ _ _ us hl => match us, hl with | [_], _ => rfl
  have F__law_number := fun_mk (st := s__law_number) hl__law_number hc__law_number hk__law_number
  have b__law_number := F__law_number.binds (ps := ["_law_actual", "_law_due"]) fun _ _ _ _ _ _ us hl => match us, hl with | [_, _], _ => rfl
  have F__law_first := fun_mk (st := s__law_first) hl__law_first hc__law_first hk__law_first
  have b__law_first := F__law_first.binds (ps := ["_law_box"]) fun _ _ _ _ _ _ us hl => match us, hl with | [_], _ => rfl
  have F__law_near := fun_mk (st := s__law_near) hl__law_near hc__law_near hk__law_near
  have b__law_near := F__law_near.binds (ps := ["_law_box", "_law_first_here"]) fun _ _ _ _ _ _ us hl => match us, hl with | [_, _], _ => rfl
  have F__law_many := fun_mk (st := s__law_many) hl__law_many hc__law_many hk__law_many
  have b__law_many := F__law_many.binds (ps := ["_law_box"]) fun _ _ _ _ _ _ us hl => match us, hl with | [_], _ => rfl
  have F__law_is := fun_mk (st := s__law_is) hl__law_is hc__law_is hk__law_is
  have b__law_is := F__law_is.binds (ps := ["_law_stay", "_law_days"]) fun _ _ _ _ _ _ us hl => match us, hl with | [_, _], _ => rfl
  have F__law_has := fun_mk (st := s__law_has) hl__law_has hc__law_has hk__law_has
  have b__law_has := F__law_has.binds (ps := ["_law_stay", "_law_days", "_law_other"]) fun _ _ _ _ _ _ us hl => match us, hl with | [_, _, _], _ => rfl
  have F__law_moved := fun_mk (st := s__law_moved) hl__law_moved hc__law_moved hk__law_moved
  have b__law_moved := F__law_moved.binds (ps := ["_law_stay", "_law_days", "_law_many_here"]) fun _ _ _ _ _ _ us hl => match us, hl with | [_, _, _], _ => rfl
  have F__law_apart := fun_mk (st := s__law_apart) hl__law_apart hc__law_apart hk__law_apart
  have b__law_apart := F__law_apart.binds (ps := ["_law_one", "_law_two", "_law_gap"]) fun _ _ _ _ _ _ us hl => match us, hl with | [_, _, _], _ => rfl
  have F__law_joined := fun_mk (st := s__law_joined) hl__law_joined hc__law_joined hk__law_joined
  have b__law_joined := F__law_joined.binds (ps := ["_law_one", "_law_two", "_law_first_here", "_law_second"]) fun _ _ _ _ _ _ us hl => match us, hl with | [_, _, _, _], _ => rfl
  have F__law_alike := fun_mk (st := s__law_alike) hl__law_alike hc__law_alike hk__law_alike
  have b__law_alike := F__law_alike.binds (ps := ["_law_one", "_law_two", "_law_first_here", "_law_second"]) fun _ _ _ _ _ _ us hl => match us, hl with | [_, _, _, _], _ => rfl
  have F__law_empty := fun_mk (st := s__law_empty) hl__law_empty hc__law_empty hk__law_empty
  have b__law_empty := F__law_empty.binds (ps := ["_law_come", "_law_go"]) fun _ _ _ _ _ _ us hl => match us, hl with | [_, _], _ => rfl
  have F__law_caught := fun_mk (st := s__law_caught) hl__law_caught hc__law_caught hk__law_caught
  have b__law_caught := F__law_caught.binds (ps := ["_law_come", "_law_go"]) fun _ _ _ _ _ _ us hl => match us, hl with | [_, _], _ => rfl
  have F_law := fun_mk (st := s_law) hl_law hc_law hk_law
  have b_law := F_law.binds (ps := ["_law_script"]) fun _ _ _ _ _ _ us hl => match us, hl with | [_], _ => rfl
  let D : Ad := {
    a_EmptyStay_init := x_EmptyStay_init, d_EmptyStay_init := PySem.W.fnOf "__init__" "EmptyStay.__init__" (defArgs s_EmptyStay_init) (defBody s_EmptyStay_init) (defScope s_EmptyStay_init) .none kV_EmptyStay_init dc_EmptyStay_init pm_EmptyStay_init an_EmptyStay_init cd_EmptyStay_init ct_EmptyStay_init,
    a_NoCommonDay_init := x_NoCommonDay_init, d_NoCommonDay_init := PySem.W.fnOf "__init__" "NoCommonDay.__init__" (defArgs s_NoCommonDay_init) (defBody s_NoCommonDay_init) (defScope s_NoCommonDay_init) .none kV_NoCommonDay_init dc_NoCommonDay_init pm_NoCommonDay_init an_NoCommonDay_init cd_NoCommonDay_init ct_NoCommonDay_init,
    a_Stay_init := x_Stay_init, d_Stay_init := PySem.W.fnOf "__init__" "Stay.__init__" (defArgs s_Stay_init) (defBody s_Stay_init) (defScope s_Stay_init) .none kV_Stay_init dc_Stay_init pm_Stay_init an_Stay_init cd_Stay_init ct_Stay_init,
    a_Stay___eq__ := x_Stay___eq__, d_Stay___eq__ := PySem.W.fnOf "__eq__" "Stay.__eq__" (defArgs s_Stay___eq__) (defBody s_Stay___eq__) (defScope s_Stay___eq__) .none kV_Stay___eq__ dc_Stay___eq__ pm_Stay___eq__ an_Stay___eq__ cd_Stay___eq__ ct_Stay___eq__,
    a_Stay___str__ := x_Stay___str__, d_Stay___str__ := PySem.W.fnOf "__str__" "Stay.__str__" (defArgs s_Stay___str__) (defBody s_Stay___str__) (defScope s_Stay___str__) .none kV_Stay___str__ dc_Stay___str__ pm_Stay___str__ an_Stay___str__ cd_Stay___str__ ct_Stay___str__,
    a_Stay___contains__ := x_Stay___contains__, d_Stay___contains__ := PySem.W.fnOf "__contains__" "Stay.__contains__" (defArgs s_Stay___contains__) (defBody s_Stay___contains__) (defScope s_Stay___contains__) .none kV_Stay___contains__ dc_Stay___contains__ pm_Stay___contains__ an_Stay___contains__ cd_Stay___contains__ ct_Stay___contains__,
    a_Stay___add__ := x_Stay___add__, d_Stay___add__ := PySem.W.fnOf "__add__" "Stay.__add__" (defArgs s_Stay___add__) (defBody s_Stay___add__) (defScope s_Stay___add__) .none kV_Stay___add__ dc_Stay___add__ pm_Stay___add__ an_Stay___add__ cd_Stay___add__ ct_Stay___add__,
    a_Stay___sub__ := x_Stay___sub__, d_Stay___sub__ := PySem.W.fnOf "__sub__" "Stay.__sub__" (defArgs s_Stay___sub__) (defBody s_Stay___sub__) (defScope s_Stay___sub__) .none kV_Stay___sub__ dc_Stay___sub__ pm_Stay___sub__ an_Stay___sub__ cd_Stay___sub__ ct_Stay___sub__,
    a_Stay___and__ := x_Stay___and__, d_Stay___and__ := PySem.W.fnOf "__and__" "Stay.__and__" (defArgs s_Stay___and__) (defBody s_Stay___and__) (defScope s_Stay___and__) .none kV_Stay___and__ dc_Stay___and__ pm_Stay___and__ an_Stay___and__ cd_Stay___and__ ct_Stay___and__,
    a_Stay___or__ := x_Stay___or__, d_Stay___or__ := PySem.W.fnOf "__or__" "Stay.__or__" (defArgs s_Stay___or__) (defBody s_Stay___or__) (defScope s_Stay___or__) .none kV_Stay___or__ dc_Stay___or__ pm_Stay___or__ an_Stay___or__ cd_Stay___or__ ct_Stay___or__,
    a_Stay_width := x_Stay_width, d_Stay_width := PySem.W.fnOf "width" "Stay.width" (defArgs s_Stay_width) (defBody s_Stay_width) (defScope s_Stay_width) .none kV_Stay_width dc_Stay_width pm_Stay_width an_Stay_width cd_Stay_width ct_Stay_width,
    a__law_draws := x__law_draws, d__law_draws := PySem.W.fnOf "_law_draws" "_law_draws" (defArgs s__law_draws) (defBody s__law_draws) (defScope s__law_draws) .none kV__law_draws dc__law_draws pm__law_draws an__law_draws cd__law_draws ct__law_draws,
    a__law_take := x__law_take, d__law_take := PySem.W.fnOf "_law_take" "_law_take" (defArgs s__law_take) (defBody s__law_take) (defScope s__law_take) .none kV__law_take dc__law_take pm__law_take an__law_take cd__law_take ct__law_take,
    a__law_far := x__law_far, d__law_far := PySem.W.fnOf "_law_far" "_law_far" (defArgs s__law_far) (defBody s__law_far) (defScope s__law_far) .none kV__law_far dc__law_far pm__law_far an__law_far cd__law_far ct__law_far,
    a__law_number := x__law_number, d__law_number := PySem.W.fnOf "_law_number" "_law_number" (defArgs s__law_number) (defBody s__law_number) (defScope s__law_number) .none kV__law_number dc__law_number pm__law_number an__law_number cd__law_number ct__law_number,
    a__law_first := x__law_first, d__law_first := PySem.W.fnOf "_law_first" "_law_first" (defArgs s__law_first) (defBody s__law_first) (defScope s__law_first) .none kV__law_first dc__law_first pm__law_first an__law_first cd__law_first ct__law_first,
    a__law_near := x__law_near, d__law_near := PySem.W.fnOf "_law_near" "_law_near" (defArgs s__law_near) (defBody s__law_near) (defScope s__law_near) .none kV__law_near dc__law_near pm__law_near an__law_near cd__law_near ct__law_near,
    a__law_many := x__law_many, d__law_many := PySem.W.fnOf "_law_many" "_law_many" (defArgs s__law_many) (defBody s__law_many) (defScope s__law_many) .none kV__law_many dc__law_many pm__law_many an__law_many cd__law_many ct__law_many,
    a__law_is := x__law_is, d__law_is := PySem.W.fnOf "_law_is" "_law_is" (defArgs s__law_is) (defBody s__law_is) (defScope s__law_is) .none kV__law_is dc__law_is pm__law_is an__law_is cd__law_is ct__law_is,
    a__law_has := x__law_has, d__law_has := PySem.W.fnOf "_law_has" "_law_has" (defArgs s__law_has) (defBody s__law_has) (defScope s__law_has) .none kV__law_has dc__law_has pm__law_has an__law_has cd__law_has ct__law_has,
    a__law_moved := x__law_moved, d__law_moved := PySem.W.fnOf "_law_moved" "_law_moved" (defArgs s__law_moved) (defBody s__law_moved) (defScope s__law_moved) .none kV__law_moved dc__law_moved pm__law_moved an__law_moved cd__law_moved ct__law_moved,
    a__law_apart := x__law_apart, d__law_apart := PySem.W.fnOf "_law_apart" "_law_apart" (defArgs s__law_apart) (defBody s__law_apart) (defScope s__law_apart) .none kV__law_apart dc__law_apart pm__law_apart an__law_apart cd__law_apart ct__law_apart,
    a__law_joined := x__law_joined, d__law_joined := PySem.W.fnOf "_law_joined" "_law_joined" (defArgs s__law_joined) (defBody s__law_joined) (defScope s__law_joined) .none kV__law_joined dc__law_joined pm__law_joined an__law_joined cd__law_joined ct__law_joined,
    a__law_alike := x__law_alike, d__law_alike := PySem.W.fnOf "_law_alike" "_law_alike" (defArgs s__law_alike) (defBody s__law_alike) (defScope s__law_alike) .none kV__law_alike dc__law_alike pm__law_alike an__law_alike cd__law_alike ct__law_alike,
    a__law_empty := x__law_empty, d__law_empty := PySem.W.fnOf "_law_empty" "_law_empty" (defArgs s__law_empty) (defBody s__law_empty) (defScope s__law_empty) .none kV__law_empty dc__law_empty pm__law_empty an__law_empty cd__law_empty ct__law_empty,
    a__law_caught := x__law_caught, d__law_caught := PySem.W.fnOf "_law_caught" "_law_caught" (defArgs s__law_caught) (defBody s__law_caught) (defScope s__law_caught) .none kV__law_caught dc__law_caught pm__law_caught an__law_caught cd__law_caught ct__law_caught,
    a_law := fa, d_law := PySem.W.fnOf "law" "law" (defArgs s_law) (defBody s_law) (defScope s_law) .none kV_law dc_law pm_law an_law cd_law ct_law,
    c_ArchiveError := x_ArchiveError,
    c_UnknownError := x_UnknownError,
    c_TextError := x_TextError,
    c_ImpossibleError := x_ImpossibleError,
    c_EmptyStay := x_EmptyStay,
    c_NoCommonDay := x_NoCommonDay,
    c_Stay := x_Stay,
    p_Stay_width := q_Stay_width }
  have T : Txt K mg D := { F_EmptyStay_init := F_EmptyStay_init, b_EmptyStay_init := b_EmptyStay_init, m_EmptyStay_init := ha_EmptyStay_init, i_EmptyStay_init := hi_EmptyStay_init, F_NoCommonDay_init := F_NoCommonDay_init, b_NoCommonDay_init := b_NoCommonDay_init, m_NoCommonDay_init := ha_NoCommonDay_init, i_NoCommonDay_init := hi_NoCommonDay_init, F_Stay_init := F_Stay_init, b_Stay_init := b_Stay_init, m_Stay_init := ha_Stay_init, i_Stay_init := hi_Stay_init, F_Stay___eq__ := F_Stay___eq__, b_Stay___eq__ := b_Stay___eq__, m_Stay___eq__ := ha_Stay___eq__, i_Stay___eq__ := hi_Stay___eq__, F_Stay___str__ := F_Stay___str__, b_Stay___str__ := b_Stay___str__, m_Stay___str__ := ha_Stay___str__, i_Stay___str__ := hi_Stay___str__, F_Stay___contains__ := F_Stay___contains__, b_Stay___contains__ := b_Stay___contains__, m_Stay___contains__ := ha_Stay___contains__, i_Stay___contains__ := hi_Stay___contains__, F_Stay___add__ := F_Stay___add__, b_Stay___add__ := b_Stay___add__, m_Stay___add__ := ha_Stay___add__, i_Stay___add__ := hi_Stay___add__, F_Stay___sub__ := F_Stay___sub__, b_Stay___sub__ := b_Stay___sub__, m_Stay___sub__ := ha_Stay___sub__, i_Stay___sub__ := hi_Stay___sub__, F_Stay___and__ := F_Stay___and__, b_Stay___and__ := b_Stay___and__, m_Stay___and__ := ha_Stay___and__, i_Stay___and__ := hi_Stay___and__, F_Stay___or__ := F_Stay___or__, b_Stay___or__ := b_Stay___or__, m_Stay___or__ := ha_Stay___or__, i_Stay___or__ := hi_Stay___or__, F_Stay_width := F_Stay_width, b_Stay_width := b_Stay_width, pa_Stay_width := ha_Stay_width, pg_Stay_width := hg_Stay_width, pt_Stay_width := ht_Stay_width, pr_Stay_width := ⟨_, hr_Stay_width⟩, F__law_draws := F__law_draws, b__law_draws := b__law_draws, g__law_draws := PySem.W.mg_of X G ha__law_draws, F__law_take := F__law_take, b__law_take := b__law_take, g__law_take := PySem.W.mg_of X G ha__law_take, F__law_far := F__law_far, b__law_far := b__law_far, g__law_far := PySem.W.mg_of X G ha__law_far, F__law_number := F__law_number, b__law_number := b__law_number, g__law_number := PySem.W.mg_of X G ha__law_number, F__law_first := F__law_first, b__law_first := b__law_first, g__law_first := PySem.W.mg_of X G ha__law_first, F__law_near := F__law_near, b__law_near := b__law_near, g__law_near := PySem.W.mg_of X G ha__law_near, F__law_many := F__law_many, b__law_many := b__law_many, g__law_many := PySem.W.mg_of X G ha__law_many, F__law_is := F__law_is, b__law_is := b__law_is, g__law_is := PySem.W.mg_of X G ha__law_is, F__law_has := F__law_has, b__law_has := b__law_has, g__law_has := PySem.W.mg_of X G ha__law_has, F__law_moved := F__law_moved, b__law_moved := b__law_moved, g__law_moved := PySem.W.mg_of X G ha__law_moved, F__law_apart := F__law_apart, b__law_apart := b__law_apart, g__law_apart := PySem.W.mg_of X G ha__law_apart, F__law_joined := F__law_joined, b__law_joined := b__law_joined, g__law_joined := PySem.W.mg_of X G ha__law_joined, F__law_alike := F__law_alike, b__law_alike := b__law_alike, g__law_alike := PySem.W.mg_of X G ha__law_alike, F__law_empty := F__law_empty, b__law_empty := b__law_empty, g__law_empty := PySem.W.mg_of X G ha__law_empty, F__law_caught := F__law_caught, b__law_caught := b__law_caught, g__law_caught := PySem.W.mg_of X G ha__law_caught, F_law := F_law, b_law := b_law, g_law := PySem.W.mg_of X G ha_law, g_ArchiveError := PySem.W.mg_of X G hC_ArchiveError, k_ArchiveError := hK_ArchiveError, g_UnknownError := PySem.W.mg_of X G hC_UnknownError, k_UnknownError := hK_UnknownError, g_TextError := PySem.W.mg_of X G hC_TextError, k_TextError := hK_TextError, g_ImpossibleError := PySem.W.mg_of X G hC_ImpossibleError, k_ImpossibleError := hK_ImpossibleError, g_EmptyStay := PySem.W.mg_of X G hC_EmptyStay, k_EmptyStay := hK_EmptyStay, g_NoCommonDay := PySem.W.mg_of X G hC_NoCommonDay, k_NoCommonDay := hK_NoCommonDay, g_Stay := PySem.W.mg_of X G hC_Stay, k_Stay := hK_Stay, n_ValueError := PySem.W.mg_none_of X G hn_ValueError, n_bool := PySem.W.mg_none_of X G hn_bool, n_int := PySem.W.mg_none_of X G hn_int, n_isinstance := PySem.W.mg_none_of X G hn_isinstance, n_len := PySem.W.mg_none_of X G hn_len, n_max := PySem.W.mg_none_of X G hn_max, n_min := PySem.W.mg_none_of X G hn_min, n_str := PySem.W.mg_none_of X G hn_str, oxl_EmptyStay := ⟨_, _, _, _, _, _, _, _, _, _, _, _, _, _, _, ol_EmptyStay, or_EmptyStay⟩, xsa_EmptyStay := hx_xsa_EmptyStay, xga_EmptyStay := hx_xga_EmptyStay, xgg_EmptyStay := hx_xgg_EmptyStay, xbe_EmptyStay := hx_xbe_EmptyStay, xty_EmptyStay := hx_xty_EmptyStay, xhd_EmptyStay := hx_xhd_EmptyStay, xca_EmptyStay := hx_xca_EmptyStay, xmo_EmptyStay := hx_xmo_EmptyStay, xti_EmptyStay := hx_xti_EmptyStay, oxl_NoCommonDay := ⟨_, _, _, _, _, _, _, _, _, _, _, _, _, _, _, ol_NoCommonDay, or_NoCommonDay⟩, xsa_NoCommonDay := hx_xsa_NoCommonDay, xga_NoCommonDay := hx_xga_NoCommonDay, xgg_NoCommonDay := hx_xgg_NoCommonDay, xbe_NoCommonDay := hx_xbe_NoCommonDay, xty_NoCommonDay := hx_xty_NoCommonDay, xhd_NoCommonDay := hx_xhd_NoCommonDay, xca_NoCommonDay := hx_xca_NoCommonDay, xmo_NoCommonDay := hx_xmo_NoCommonDay, xti_NoCommonDay := hx_xti_NoCommonDay, cn_ := hx_cn_, ct_ := hx_ct_, ymk_Stay := hx_ymk_Stay, ypg_Stay := hx_ypg_Stay, yhd_Stay := hx_yhd_Stay, ypo_Stay := hx_ypo_Stay, ysa_Stay := hx_ysa_Stay, ysf_Stay := hx_ysf_Stay, yca_Stay := hx_yca_Stay, ymo_Stay := hx_ymo_Stay, no_come := hx_no_come, no_go := hx_no_go, e_come := hx_e_come, e_go := hx_e_go, e_gap := hx_e_gap, ne_ := hx_ne_, h_add := hx_h_add, h_sub := hx_h_sub, h_and := hx_h_and, h_or := hx_h_or, r_add := hx_r_add, r_sub := hx_r_sub, r_and := hx_r_and, r_or := hx_r_or, i_add := ⟨_, hx_i_add⟩, j_add := ⟨_, hx_j_add⟩, i_sub := ⟨_, hx_i_sub⟩, j_sub := ⟨_, hx_j_sub⟩, s_int := hx_s_int, z_Stay := hx_z_Stay, z_eU := hx_z_eU, z_eT := hx_z_eT, z_eI := hx_z_eI, z_eN := hx_z_eN, z_eA := hx_z_eA, z_eV := hx_z_eV, z_eE := hx_z_eE, z_nU := hx_z_nU, z_nT := hx_z_nT, z_nI := hx_z_nI, z_nE := hx_z_nE, z_nA := hx_z_nA, z_nV := hx_z_nV, m_ee := hx_m_ee, m_ea := hx_m_ea, m_nn := hx_m_nn }
  exact ⟨D.d_law, fun s v => .of_eq rfl, fun base _ _ => ok_law (D := D) T⟩

theorem walk {l : PySem.W.OpenLaw} {q : Program} {loose : List Str} {XP : (Str → Option Value) → Heap → Prop} {YP : World → Heap → Prop} {d : DefRec} {K : Params → PySem.W.Frag} (hn : l.most = some 63) (hdf : d.params.defaults = [])
    (hY : ∀ (w : World) (h : Heap), YP w h → (K w.params).In h)
    (F : ∀ (w : World) (mg : Str → Option Value) (fa : Addr) (h : Heap), (K w.params).In h → h.Ns mainGlobals mg → mg d.name = some (.ref fa) →
      ∃ fd : FuncData, (∀ (s : Shared) (u : Value), BindsTo s fd ⟨[u], []⟩ [("_law_script", u)]) ∧ ∀ base : Heap, (K w.params).In base → base.Ns mainGlobals mg → FnOk l.prog w (K w.params) mg base CX0 10 fa fd ["_law_script"] (spLaw (K w.params))) :
    PySem.W.WalkO q loose XP YP l.row.toRowW d [] (fun f vs => PySem.call f vs) :=
  L2.walk_of (n := 63) (k := 10) (x := "_law_script") (CX := fun _ => CX0) (sp := fun w => spLaw (K w.params)) hn (by decide) hdf ⟨rfl, by decide, by decide⟩ hY F (fun _ _ a ns hl _ hS => ⟨a, ns, rfl, hS, hl, fun _ => rfl⟩) fun _ _ _ _ _ z => z
end Toy

open PySem PySem.W PyProof.Rows in
set_option maxRecDepth 100000 in
set_option maxHeartbeats 0 in
theorem PySem.Challenge.cw_fittingpasts_k16_stay_signs_holds : PySem.Challenge.rw_fittingpasts_k16_stay_signs.Holds := by
  w_on; o_law; k_head; (case hw => w_witness2)
  k_fill
  refine Toy.walk (l := PySem.Challenge.rw_fittingpasts_k16_stay_signs) rfl rfl (fun w h Y => PySem.W.kIn_of Y) ?F
  case F =>
    intro w mg fa h KX G hmg
    refine' Toy.all_mk KX G hmg ?hC_ArchiveError ?hK_ArchiveError ?hC_UnknownError ?hK_UnknownError ?hC_TextError ?hK_TextError ?hC_ImpossibleError ?hK_ImpossibleError ?hC_EmptyStay ?hK_EmptyStay ?hC_NoCommonDay ?hK_NoCommonDay ?hC_Stay ?hK_Stay ?ha_EmptyStay_init ?hi_EmptyStay_init ?hl_EmptyStay_init ?hc_EmptyStay_init ?hk_EmptyStay_init ?ha_NoCommonDay_init ?hi_NoCommonDay_init ?hl_NoCommonDay_init ?hc_NoCommonDay_init ?hk_NoCommonDay_init ?ha_Stay_init ?hi_Stay_init ?hl_Stay_init ?hc_Stay_init ?hk_Stay_init ?ha_Stay___eq__ ?hi_Stay___eq__ ?hl_Stay___eq__ ?hc_Stay___eq__ ?hk_Stay___eq__ ?ha_Stay___str__ ?hi_Stay___str__ ?hl_Stay___str__ ?hc_Stay___str__ ?hk_Stay___str__ ?ha_Stay___contains__ ?hi_Stay___contains__ ?hl_Stay___contains__ ?hc_Stay___contains__ ?hk_Stay___contains__ ?ha_Stay___add__ ?hi_Stay___add__ ?hl_Stay___add__ ?hc_Stay___add__ ?hk_Stay___add__ ?ha_Stay___sub__ ?hi_Stay___sub__ ?hl_Stay___sub__ ?hc_Stay___sub__ ?hk_Stay___sub__ ?ha_Stay___and__ ?hi_Stay___and__ ?hl_Stay___and__ ?hc_Stay___and__ ?hk_Stay___and__ ?ha_Stay___or__ ?hi_Stay___or__ ?hl_Stay___or__ ?hc_Stay___or__ ?hk_Stay___or__ ?ha_Stay_width ?hg_Stay_width ?ht_Stay_width ?hr_Stay_width ?hl_Stay_width ?hc_Stay_width ?hk_Stay_width ?ha__law_draws ?hl__law_draws ?hc__law_draws ?hk__law_draws ?ha__law_take ?hl__law_take ?hc__law_take ?hk__law_take ?ha__law_far ?hl__law_far ?hc__law_far ?hk__law_far ?ha__law_number ?hl__law_number ?hc__law_number ?hk__law_number ?ha__law_first ?hl__law_first ?hc__law_first ?hk__law_first ?ha__law_near ?hl__law_near ?hc__law_near ?hk__law_near ?ha__law_many ?hl__law_many ?hc__law_many ?hk__law_many ?ha__law_is ?hl__law_is ?hc__law_is ?hk__law_is ?ha__law_has ?hl__law_has ?hc__law_has ?hk__law_has ?ha__law_moved ?hl__law_moved ?hc__law_moved ?hk__law_moved ?ha__law_apart ?hl__law_apart ?hc__law_apart ?hk__law_apart ?ha__law_joined ?hl__law_joined ?hc__law_joined ?hk__law_joined ?ha__law_alike ?hl__law_alike ?hc__law_alike ?hk__law_alike ?ha__law_empty ?hl__law_empty ?hc__law_empty ?hk__law_empty ?ha__law_caught ?hl__law_caught ?hc__law_caught ?hk__law_caught ?ha_law ?hl_law ?hc_law ?hk_law ?hn_ValueError ?hn_bool ?hn_int ?hn_isinstance ?hn_len ?hn_max ?hn_min ?hn_str ?ol_EmptyStay ?or_EmptyStay ?ol_NoCommonDay ?or_NoCommonDay ?hx_xsa_EmptyStay ?hx_xga_EmptyStay ?hx_xgg_EmptyStay ?hx_xbe_EmptyStay ?hx_xty_EmptyStay ?hx_xhd_EmptyStay ?hx_xca_EmptyStay ?hx_xmo_EmptyStay ?hx_xti_EmptyStay ?hx_xsa_NoCommonDay ?hx_xga_NoCommonDay ?hx_xgg_NoCommonDay ?hx_xbe_NoCommonDay ?hx_xty_NoCommonDay ?hx_xhd_NoCommonDay ?hx_xca_NoCommonDay ?hx_xmo_NoCommonDay ?hx_xti_NoCommonDay ?hx_cn_ ?hx_ct_ ?hx_ymk_Stay ?hx_ypg_Stay ?hx_yhd_Stay ?hx_ypo_Stay ?hx_ysa_Stay ?hx_ysf_Stay ?hx_yca_Stay ?hx_ymo_Stay ?hx_no_come ?hx_no_go ?hx_e_come ?hx_e_go ?hx_e_gap ?hx_ne_ ?hx_h_add ?hx_h_sub ?hx_h_and ?hx_h_or ?hx_r_add ?hx_r_sub ?hx_r_and ?hx_r_or ?hx_i_add ?hx_j_add ?hx_i_sub ?hx_j_sub ?hx_s_int ?hx_z_Stay ?hx_z_eU ?hx_z_eT ?hx_z_eI ?hx_z_eN ?hx_z_eA ?hx_z_eV ?hx_z_eE ?hx_z_nU ?hx_z_nT ?hx_z_nI ?hx_z_nE ?hx_z_nA ?hx_z_nV ?hx_m_ee ?hx_m_ea ?hx_m_nn
    (case hC_ArchiveError => first | k_is | rfl)
    (case hK_ArchiveError => first | k_is | rfl)
    (case hC_UnknownError => first | k_is | rfl)
    (case hK_UnknownError => first | k_is | rfl)
    (case hC_TextError => first | k_is | rfl)
    (case hK_TextError => first | k_is | rfl)
    (case hC_ImpossibleError => first | k_is | rfl)
    (case hK_ImpossibleError => first | k_is | rfl)
    (case hC_EmptyStay => first | k_is | rfl)
    (case hK_EmptyStay => first | k_is | rfl)
    (case hC_NoCommonDay => first | k_is | rfl)
    (case hK_NoCommonDay => first | k_is | rfl)
    (case hC_Stay => first | k_is | rfl)
    (case hK_Stay => first | k_is | rfl)
    (case ha_EmptyStay_init => first | k_is | rfl)
    (case hi_EmptyStay_init => first | k_is | rfl)
    (case hl_EmptyStay_init => first | k_is | rfl)
    (case hc_EmptyStay_init => first | k_is | rfl)
    (case hk_EmptyStay_init => first | k_is | rfl)
    (case ha_NoCommonDay_init => first | k_is | rfl)
    (case hi_NoCommonDay_init => first | k_is | rfl)
    (case hl_NoCommonDay_init => first | k_is | rfl)
    (case hc_NoCommonDay_init => first | k_is | rfl)
    (case hk_NoCommonDay_init => first | k_is | rfl)
    (case ha_Stay_init => first | k_is | rfl)
    (case hi_Stay_init => first | k_is | rfl)
    (case hl_Stay_init => first | k_is | rfl)
    (case hc_Stay_init => first | k_is | rfl)
    (case hk_Stay_init => first | k_is | rfl)
    (case ha_Stay___eq__ => first | k_is | rfl)
    (case hi_Stay___eq__ => first | k_is | rfl)
    (case hl_Stay___eq__ => first | k_is | rfl)
    (case hc_Stay___eq__ => first | k_is | rfl)
    (case hk_Stay___eq__ => first | k_is | rfl)
    (case ha_Stay___str__ => first | k_is | rfl)
    (case hi_Stay___str__ => first | k_is | rfl)
    (case hl_Stay___str__ => first | k_is | rfl)
    (case hc_Stay___str__ => first | k_is | rfl)
    (case hk_Stay___str__ => first | k_is | rfl)
    (case ha_Stay___contains__ => first | k_is | rfl)
    (case hi_Stay___contains__ => first | k_is | rfl)
    (case hl_Stay___contains__ => first | k_is | rfl)
    (case hc_Stay___contains__ => first | k_is | rfl)
    (case hk_Stay___contains__ => first | k_is | rfl)
    (case ha_Stay___add__ => first | k_is | rfl)
    (case hi_Stay___add__ => first | k_is | rfl)
    (case hl_Stay___add__ => first | k_is | rfl)
    (case hc_Stay___add__ => first | k_is | rfl)
    (case hk_Stay___add__ => first | k_is | rfl)
    (case ha_Stay___sub__ => first | k_is | rfl)
    (case hi_Stay___sub__ => first | k_is | rfl)
    (case hl_Stay___sub__ => first | k_is | rfl)
    (case hc_Stay___sub__ => first | k_is | rfl)
    (case hk_Stay___sub__ => first | k_is | rfl)
    (case ha_Stay___and__ => first | k_is | rfl)
    (case hi_Stay___and__ => first | k_is | rfl)
    (case hl_Stay___and__ => first | k_is | rfl)
    (case hc_Stay___and__ => first | k_is | rfl)
    (case hk_Stay___and__ => first | k_is | rfl)
    (case ha_Stay___or__ => first | k_is | rfl)
    (case hi_Stay___or__ => first | k_is | rfl)
    (case hl_Stay___or__ => first | k_is | rfl)
    (case hc_Stay___or__ => first | k_is | rfl)
    (case hk_Stay___or__ => first | k_is | rfl)
    (case ha_Stay_width => first | k_is | rfl)
    (case hg_Stay_width => first | k_is | rfl)
    (case ht_Stay_width => first | k_is | rfl)
    (case hr_Stay_width => first | k_is | rfl)
    (case hl_Stay_width => first | k_is | rfl)
    (case hc_Stay_width => first | k_is | rfl)
    (case hk_Stay_width => first | k_is | rfl)
    (case ha__law_draws => first | k_is | rfl)
    (case hl__law_draws => first | k_is | rfl)
    (case hc__law_draws => first | k_is | rfl)
    (case hk__law_draws => first | k_is | rfl)
    (case ha__law_take => first | k_is | rfl)
    (case hl__law_take => first | k_is | rfl)
    (case hc__law_take => first | k_is | rfl)
    (case hk__law_take => first | k_is | rfl)
    (case ha__law_far => first | k_is | rfl)
    (case hl__law_far => first | k_is | rfl)
    (case hc__law_far => first | k_is | rfl)
    (case hk__law_far => first | k_is | rfl)
    (case ha__law_number => first | k_is | rfl)
    (case hl__law_number => first | k_is | rfl)
    (case hc__law_number => first | k_is | rfl)
    (case hk__law_number => first | k_is | rfl)
    (case ha__law_first => first | k_is | rfl)
    (case hl__law_first => first | k_is | rfl)
    (case hc__law_first => first | k_is | rfl)
    (case hk__law_first => first | k_is | rfl)
    (case ha__law_near => first | k_is | rfl)
    (case hl__law_near => first | k_is | rfl)
    (case hc__law_near => first | k_is | rfl)
    (case hk__law_near => first | k_is | rfl)
    (case ha__law_many => first | k_is | rfl)
    (case hl__law_many => first | k_is | rfl)
    (case hc__law_many => first | k_is | rfl)
    (case hk__law_many => first | k_is | rfl)
    (case ha__law_is => first | k_is | rfl)
    (case hl__law_is => first | k_is | rfl)
    (case hc__law_is => first | k_is | rfl)
    (case hk__law_is => first | k_is | rfl)
    (case ha__law_has => first | k_is | rfl)
    (case hl__law_has => first | k_is | rfl)
    (case hc__law_has => first | k_is | rfl)
    (case hk__law_has => first | k_is | rfl)
    (case ha__law_moved => first | k_is | rfl)
    (case hl__law_moved => first | k_is | rfl)
    (case hc__law_moved => first | k_is | rfl)
    (case hk__law_moved => first | k_is | rfl)
    (case ha__law_apart => first | k_is | rfl)
    (case hl__law_apart => first | k_is | rfl)
    (case hc__law_apart => first | k_is | rfl)
    (case hk__law_apart => first | k_is | rfl)
    (case ha__law_joined => first | k_is | rfl)
    (case hl__law_joined => first | k_is | rfl)
    (case hc__law_joined => first | k_is | rfl)
    (case hk__law_joined => first | k_is | rfl)
    (case ha__law_alike => first | k_is | rfl)
    (case hl__law_alike => first | k_is | rfl)
    (case hc__law_alike => first | k_is | rfl)
    (case hk__law_alike => first | k_is | rfl)
    (case ha__law_empty => first | k_is | rfl)
    (case hl__law_empty => first | k_is | rfl)
    (case hc__law_empty => first | k_is | rfl)
    (case hk__law_empty => first | k_is | rfl)
    (case ha__law_caught => first | k_is | rfl)
    (case hl__law_caught => first | k_is | rfl)
    (case hc__law_caught => first | k_is | rfl)
    (case hk__law_caught => first | k_is | rfl)
    (case ha_law => first | k_is | rfl)
    (case hl_law => first | k_is | rfl)
    (case hc_law => first | k_is | rfl)
    (case hk_law => first | k_is | rfl)
    (case hn_ValueError => first | k_is | rfl)
    (case hn_bool => first | k_is | rfl)
    (case hn_int => first | k_is | rfl)
    (case hn_isinstance => first | k_is | rfl)
    (case hn_len => first | k_is | rfl)
    (case hn_max => first | k_is | rfl)
    (case hn_min => first | k_is | rfl)
    (case hn_str => first | k_is | rfl)
    (case ol_EmptyStay => first | k_is | rfl)
    (case or_EmptyStay => decide +kernel)
    (case ol_NoCommonDay => first | k_is | rfl)
    (case or_NoCommonDay => decide +kernel)
    (case hx_xsa_EmptyStay => first | k_is | rfl)
    (case hx_xga_EmptyStay => first | k_is | rfl)
    (case hx_xgg_EmptyStay => first | k_is | rfl)
    (case hx_xbe_EmptyStay => first | k_is | rfl)
    (case hx_xty_EmptyStay => first | k_is | rfl)
    (case hx_xhd_EmptyStay => first | k_is | rfl)
    (case hx_xca_EmptyStay => first | k_is | rfl)
    (case hx_xmo_EmptyStay => first | k_is | rfl)
    (case hx_xti_EmptyStay => first | k_is | rfl)
    (case hx_xsa_NoCommonDay => first | k_is | rfl)
    (case hx_xga_NoCommonDay => first | k_is | rfl)
    (case hx_xgg_NoCommonDay => first | k_is | rfl)
    (case hx_xbe_NoCommonDay => first | k_is | rfl)
    (case hx_xty_NoCommonDay => first | k_is | rfl)
    (case hx_xhd_NoCommonDay => first | k_is | rfl)
    (case hx_xca_NoCommonDay => first | k_is | rfl)
    (case hx_xmo_NoCommonDay => first | k_is | rfl)
    (case hx_xti_NoCommonDay => first | k_is | rfl)
    (case hx_cn_ => first | k_is | rfl)
    (case hx_ct_ => first | k_is | rfl)
    (case hx_ymk_Stay => first | k_is | rfl)
    (case hx_ypg_Stay => first | k_is | rfl)
    (case hx_yhd_Stay => first | k_is | rfl)
    (case hx_ypo_Stay => first | k_is | rfl)
    (case hx_ysa_Stay => first | k_is | rfl)
    (case hx_ysf_Stay => first | k_is | rfl)
    (case hx_yca_Stay => first | k_is | rfl)
    (case hx_ymo_Stay => first | k_is | rfl)
    (case hx_no_come => first | k_is | rfl)
    (case hx_no_go => first | k_is | rfl)
    (case hx_e_come => first | k_is | rfl)
    (case hx_e_go => first | k_is | rfl)
    (case hx_e_gap => first | k_is | rfl)
    (case hx_ne_ => first | k_is | rfl)
    (case hx_h_add => first | k_is | rfl)
    (case hx_h_sub => first | k_is | rfl)
    (case hx_h_and => first | k_is | rfl)
    (case hx_h_or => first | k_is | rfl)
    (case hx_r_add => first | k_is | rfl)
    (case hx_r_sub => first | k_is | rfl)
    (case hx_r_and => first | k_is | rfl)
    (case hx_r_or => first | k_is | rfl)
    (case hx_i_add => first | k_is | rfl)
    (case hx_j_add => first | k_is | rfl)
    (case hx_i_sub => first | k_is | rfl)
    (case hx_j_sub => first | k_is | rfl)
    (case hx_s_int => first | k_is | rfl)
    (case hx_z_Stay => first | k_is | rfl)
    (case hx_z_eU => first | k_is | rfl)
    (case hx_z_eT => first | k_is | rfl)
    (case hx_z_eI => first | k_is | rfl)
    (case hx_z_eN => first | k_is | rfl)
    (case hx_z_eA => first | k_is | rfl)
    (case hx_z_eV => first | k_is | rfl)
    (case hx_z_eE => first | k_is | rfl)
    (case hx_z_nU => first | k_is | rfl)
    (case hx_z_nT => first | k_is | rfl)
    (case hx_z_nI => first | k_is | rfl)
    (case hx_z_nE => first | k_is | rfl)
    (case hx_z_nA => first | k_is | rfl)
    (case hx_z_nV => first | k_is | rfl)
    (case hx_m_ee => first | k_is | rfl)
    (case hx_m_ea => first | k_is | rfl)
    (case hx_m_nn => first | k_is | rfl)

