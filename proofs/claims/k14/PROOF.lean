import PyProof.Rows.All
import Wide.All
import OpenK.AllK
import Wide.FinOn
import HandS.ForExc
import HandS.Comp
import HandS.Wide
import HandS.IsInst
import HandS.Property
import HandS.FStr
import HandS.MakeKw
import HandS.MakeKwOnly
import HandS.ExcInit
import HandS.ExcField
import HandS.ExcIs
import HandS.HotCalls
import HandS.OwnEq
import HandS.Evl
import KE.KCallOwn
import HandS.Gcd
import HandS.Walk
import KE.GoesMore
import KE.GoesEnum
import KE.GoesNew
import HandS.ExcOwn
import HandS.Dict
import HandS.Text
import HandS.List
import HandS.Conv
import PyProof.StrOps2
import PySem.Challenge.RW_fittingpasts_k14_stack_play
set_option Elab.async false
set_option linter.all false
set_option maxRecDepth 100000
set_option maxHeartbeats 4000000
/-! own rules: operators that a class of the program defines -/
namespace XR
open PySem PySem.Spec PyProof.Rows L2
section
variable {X : Cx} {CX : CXT} {k : Nat} {C f : Addr} {fd : FuncData} {ps : List Str} {sp : Sp} {E : XK}
/-- the callee runs, somewhere below the body -/
theorem run_at {A : Around} {pins : List (Addr × Obj)} {σ : L2.St} {H : Hp} {s : Shared} {Q : VK} {us : List Value} {vs : List V} (F : FnOk X.prog X.w X.K X.mg X.base CX k f fd ps sp) (hr : Room k A) (hA : A.frames = X.A.frames) (hb : Binds X.K fd ps []) (hx : PassesAt CX X σ E)
    (I : Inv X pins σ H s) (r : Vals vs us) (h : sp vs H Q E) : wpAny (model X.prog X.w) A (call (.ref f) us) (EP X pins σ Q) X.xe s := by
  have hl : us.length = ps.length := by rw [← r.length]; exact F.len _ _ _ _ h
  have e0 : Env0 X.prog X.w X.K X.mg X.base A X.stack s H := by
    have e := I.env0
    exact ⟨by rw [hA]; exact e.frames, e.mod, e.bs, e.bsz, e.funs, e.frf, e.hok, e.bare⟩
  have b := hb s us I.kIn (by rw [List.append_nil]; exact hl)
  rw [List.append_nil] at b
  refine wpAny_call (codeAny_mono (F.run A X.stack s H ⟨us, []⟩ us vs Q E hr e0 b r h) fun r s' hq => ?_)
  cases r with
  | error e => exact hx pins H s e s' I hq
  | ok fl =>
    cases fl with
    | ret u => exact I.after hq
    | next => exact False.elim hq
    | brk => exact False.elim hq
    | cont => exact False.elim hq
/-- an instance of the class at C -/
theorem inst_at {pins : List (Addr × Obj)} {σ : L2.St} {H : Hp} {s : Shared} {a dx : Addr} {fs : List (Str × V)} (I : Inv X pins σ H s) (ha : H a = some (.ins C dx fs)) : ∃ od, PySem.W.InstAt s.heap a (PySem.W.instObj C dx) C (some od) := by
  obtain ⟨mA, J, _⟩ := ins_get I.hok ha
  obtain ⟨od, J, _⟩ := J.look
  exact ⟨od, J⟩
theorem back_of {pins : List (Addr × Obj)} {σ : L2.St} {Q : VK} {v : Value} {s' : Shared} (h : EP X pins σ Q v s') : PySem.W.CmpBack (EP X pins σ Q) v s' := by
  obtain ⟨x, H', I', r, q⟩ := h
  have keep : EP X pins σ Q v s' := ⟨x, H', I', r, q⟩
  cases x with
  | non =>
    obtain rfl : v = Value.none := r
    exact keep
  | bl _ =>
    obtain rfl : v = Value.bool _ := r
    exact keep
  | int _ =>
    obtain ⟨t, rfl⟩ := r
    exact keep
  | str _ =>
    obtain ⟨t, rfl⟩ := r
    exact keep
  | byt _ =>
    obtain ⟨t, rfl⟩ := r
    exact keep
  | flt _ =>
    obtain ⟨t, rfl⟩ := r
    exact keep
  | ref _ =>
    obtain rfl : v = Value.ref _ := r
    exact keep
  | ty _ =>
    obtain rfl : v = Value.type _ := r
    exact keep

/-! ### a op b -/
structure OwnB (K : PySem.W.Frag) (C f : Addr) (op : Operator) : Prop where
  sf : PySem.W.selfFirst K C = true
  hs : PySem.W.findIn K (.ref C) (PySem.dunder op.info.2) = some (some (.ref f))
  hf : PySem.W.isFn K (.ref f) = true
  hr : PySem.W.findIn K (.ref C) (PySem.dunderR op.info.2) = some none
/-- .. an int on the right -/
structure OwnBI (K : PySem.W.Frag) (C : Addr) (op : Operator) : Prop where
  h1 : ∃ fo, PySem.W.findIn K (.type "int") (PySem.dunder op.info.2) = some fo
  h2 : ∃ ro, PySem.W.findIn K (.type "int") (PySem.dunderR op.info.2) = some ro
  sub : PySem.W.subIn K (.type "int") (.ref C) = some false
/-- by the left one's own method: an int or an instance of the same class on the right -/
def rOwnI (C : Addr) (sp : Sp) (E : XK) : R2 := fun x y H Q => ∃ a dx fs i, x = .ref a ∧ y = .int i ∧ H a = some (.ins C dx fs) ∧ sp [.ref a, .int i] H Q E
def rOwnC (C : Addr) (sp : Sp) (E : XK) : R2 := fun x y H Q => ∃ a b dx dy fs gs, x = .ref a ∧ y = .ref b ∧ H a = some (.ins C dx fs) ∧ H b = some (.ins C dy gs) ∧ sp [.ref a, .ref b] H Q E
theorem ownI {op : Operator} {pins : List (Addr × Obj)} {s : Shared} {σ : L2.St} {H : Hp} {x y : V} {v u : Value} {Q : VK} (O : OwnB X.K C f op) (OI : OwnBI X.K C op) (F : FnOk X.prog X.w X.K X.mg X.base CX k f fd ps sp) (hr : Room k X.A) (hb : Binds X.K fd ps []) (hx : PassesAt CX X σ E)
    (I : Inv X pins σ H s) (rx : RelV x v) (ry : RelV y u) (hq : rOwnI C sp E x y H Q) : wpAny (model X.prog X.w) X.A (binaryOp op v u) (EP X pins σ Q) X.xe s := by
  obtain ⟨a, dx, fs, i, rfl, rfl, ha, q⟩ := hq
  cases rx
  obtain ⟨t, rfl⟩ := ry
  obtain ⟨od, J⟩ := inst_at I ha
  obtain ⟨m, hF⟩ := I.fr
  obtain ⟨fo, h1⟩ := OI.h1
  obtain ⟨ro, h2⟩ := OI.h2
  exact PySem.W.ksp_binT (T := "int") hF I.ok.mod.kin J rfl O.sf O.hs O.hf O.hr (.inl rfl) h1 h2 OI.sub
    (thn (run_at (vs := [.ref a, .int i]) F hr rfl hb hx I (.cons rfl (.cons ⟨t, rfl⟩ .nil)) q) fun _ _ z => back_of z)
theorem ownC {op : Operator} {pins : List (Addr × Obj)} {s : Shared} {σ : L2.St} {H : Hp} {x y : V} {v u : Value} {Q : VK} (O : OwnB X.K C f op) (F : FnOk X.prog X.w X.K X.mg X.base CX k f fd ps sp) (hr : Room k X.A) (hb : Binds X.K fd ps []) (hx : PassesAt CX X σ E)
    (I : Inv X pins σ H s) (rx : RelV x v) (ry : RelV y u) (hq : rOwnC C sp E x y H Q) : wpAny (model X.prog X.w) X.A (binaryOp op v u) (EP X pins σ Q) X.xe s := by
  obtain ⟨a, b, dx, dy, fs, gs, rfl, rfl, ha, hb', q⟩ := hq
  cases rx
  cases ry
  obtain ⟨od, J⟩ := inst_at I ha
  obtain ⟨od', J'⟩ := inst_at I hb'
  obtain ⟨m, hF⟩ := I.fr
  exact PySem.W.binop_K hF I.ok.mod.kin J J'.type O.sf O.hs O.hf
    (thn (run_at (vs := [.ref a, .ref b]) F hr rfl hb hx I (.cons rfl (.cons rfl .nil)) q) fun _ _ z => back_of z)
theorem at_of_passes {σ : L2.St} (hx : Passes CX X E) : PassesAt CX X σ E := fun pins H s e s' I c => hx pins σ H s e s' I c
theorem op_ownI {op : Operator} (O : OwnB X.K C f op) (OI : OwnBI X.K C op) (F : FnOk X.prog X.w X.K X.mg X.base CX k f fd ps sp) (hr : Room k X.A) (hb : Binds X.K fd ps []) (hx : Passes CX X E) : OpR X (binaryOp op) (rOwnI C sp E) :=
  fun pins s σ H x y v u Q I rx ry hq => ownI O OI F hr hb (at_of_passes hx) I rx ry hq
theorem op_ownC {op : Operator} (O : OwnB X.K C f op) (F : FnOk X.prog X.w X.K X.mg X.base CX k f fd ps sp) (hr : Room k X.A) (hb : Binds X.K fd ps []) (hx : Passes CX X E) : OpR X (binaryOp op) (rOwnC C sp E) :=
  fun pins s σ H x y v u Q I rx ry hq => ownC O F hr hb (at_of_passes hx) I rx ry hq
/-- .. in a try's body -/
def tOpS (r : L2.St → R2) (ta tb : TE) : TE := fun σ H Q => ta σ H fun x H1 => tb σ H1 fun y H2 => r σ x y H2 Q
theorem pe_opCS {op : Operator} {a b : Expr} {pos : Pos} {ta tb : TE} {ES : L2.St → XK} (O : OwnB X.K C f op) (F : FnOk X.prog X.w X.K X.mg X.base CX k f fd ps sp) (hr : Room k X.A) (hb : Binds X.K fd ps []) (hx : ∀ σ, PassesAt CX X σ (ES σ)) (ha : PE X a ta) (hb2 : PE X b tb) :
    PE X (.BinOp a op b pos) (tOpS (fun σ => rOwnC C sp (ES σ)) ta tb) := by
  refine ⟨fun pins s σ H Q I h => ?_⟩
  exact (wpAny_BinOp (binT ha hb2 I (R := fun x y H2 => rOwnC C sp (ES σ) x y H2 Q) (by exact h) fun v u s1 x y H1 I1 r1 r2 q => ownC O F hr hb (hx σ) I1 r1 r2 q))
/-! ### x in o, x not in o -/
structure OwnM (K : PySem.W.Frag) (C f : Addr) (name : Str) : Prop where
  hs : PySem.W.findIn K (.ref C) name = some (some (.ref f))
  hf : PySem.W.isFn K (.ref f) = true
def rInOwn (C : Addr) (sp : Sp) (E : XK) (neg : Bool) : R2 := fun x y H Q => ∃ a dx fs, y = .ref a ∧ H a = some (.ins C dx fs) ∧ sp [.ref a, x] H (fun v H' => ∃ b, v = .bl b ∧ Q (.bl (if neg then !b else b)) H') E
theorem op_in_own (O : OwnM X.K C f "__contains__") (F : FnOk X.prog X.w X.K X.mg X.base CX k f fd ps sp) (hr : Room k X.A) (hb : Binds X.K fd ps []) (hx : Passes CX X E) : OpR X (compareOp .In) (rInOwn C sp E false) := by
  intro pins s σ H x y v u Q I rx ry hq
  obtain ⟨a, dx, fs, rfl, ha, q⟩ := hq
  cases ry
  obtain ⟨od, J⟩ := inst_at I ha
  obtain ⟨m, hF⟩ := I.fr
  refine PySem.W.in_K hF I.ok.mod.kin J O.hs O.hf (thn (run_at (vs := [.ref a, x]) F hr rfl hb (at_of_passes hx) I (.cons rfl (.cons rx .nil)) q) fun r s' z => ?_)
  obtain ⟨w', H', I', rw', b, rfl, q2⟩ := z
  cases rw'
  exact wpAny_truthy_bool ⟨.bl b, H', I', rfl, q2⟩
theorem op_notIn_own (O : OwnM X.K C f "__contains__") (F : FnOk X.prog X.w X.K X.mg X.base CX k f fd ps sp) (hr : Room k X.A) (hb : Binds X.K fd ps []) (hx : Passes CX X E) : OpR X (compareOp .NotIn) (rInOwn C sp E true) := by
  intro pins s σ H x y v u Q I rx ry hq
  obtain ⟨a, dx, fs, rfl, ha, q⟩ := hq
  cases ry
  obtain ⟨od, J⟩ := inst_at I ha
  obtain ⟨m, hF⟩ := I.fr
  refine PySem.W.notIn_K hF I.ok.mod.kin J O.hs O.hf (thn (run_at (vs := [.ref a, x]) F hr rfl hb (at_of_passes hx) I (.cons rfl (.cons rx .nil)) q) fun r s' z => ?_)
  obtain ⟨w', H', I', rw', b, rfl, q2⟩ := z
  cases rw'
  exact wpAny_truthy_bool ⟨.bl (!b), H', I', rfl, q2⟩
/-! ### a == b, a != b by the class's __eq__ (no __ne__ of its own) -/
structure OwnE (K : PySem.W.Frag) (C f : Addr) : Prop where
  hs : PySem.W.findIn K (.ref C) "__eq__" = some (some (.ref f))
  hf : PySem.W.isFn K (.ref f) = true
  hn : PySem.W.findIn K (.ref C) "__ne__" = some (some (.builtin "object.__ne__"))
  ob : PySem.W.mroIn K C (.type "object") = some true
def rEqOwn (C : Addr) (sp : Sp) (E : XK) (neg : Bool) : R2 := fun x y H Q => ∃ a b dx dy fs gs, x = .ref a ∧ y = .ref b ∧ H a = some (.ins C dx fs) ∧ H b = some (.ins C dy gs) ∧ sp [.ref a, .ref b] H (fun v H' => ∃ c, v = .bl c ∧ Q (.bl (if neg then !c else c)) H') E
theorem op_eq_own (O : OwnE X.K C f) (F : FnOk X.prog X.w X.K X.mg X.base CX k f fd ps sp) (hr : Room k X.A) (hb : Binds X.K fd ps []) (hx : Passes CX X E) : OpR X (compareOp .Eq) (rEqOwn C sp E false) := by
  intro pins s σ H x y v u Q I rx ry hq
  obtain ⟨a, b, dx, dy, fs, gs, rfl, rfl, ha, hb', q⟩ := hq
  cases rx
  cases ry
  obtain ⟨od, J⟩ := inst_at I ha
  obtain ⟨od', J'⟩ := inst_at I hb'
  obtain ⟨m, hF⟩ := I.fr
  refine PySem.W.cmp_K (op := .Eq) (tb := .ref C) hr.units0 hF I.ok.mod.kin J J'.type (by simp [PySem.W.notFirst]) O.hs O.hf ?_
  refine thn (run_at (vs := [.ref a, .ref b]) F hr rfl hb (at_of_passes hx) I (.cons rfl (.cons rfl .nil)) q) fun _ _ z => ?_
  obtain ⟨w', H', I', rw', c, rfl, q2⟩ := z
  cases rw'
  exact (⟨.bl c, H', I', rfl, q2⟩ : EP X pins σ Q (.bool c) _)
theorem objNe_entry {prog : Program} {w : World} {A : Around} {E : Value → Shared → Prop} {K : PySem.W.Frag} {x C f : Addr} {ox : Obj} {od : Option Obj} {b : Value} {s : Shared} {Q : PySem.Fin → Shared → Prop} (hu : A.units < cLine) (Xk : K.In s.heap) (I : PySem.W.InstAt s.heap x ox C od)
    (hs : PySem.W.findIn K (.ref C) "__eq__" = some (some (.ref f))) (hf : PySem.W.isFn K (.ref f) = true)
    (h : wpAny (model prog w) A (call (.ref f) [.ref x, b]) (fun v s' => ∃ c, v = .bool c ∧ Q (.done (.ret (.bool (!c)))) s') E s) :
    wpAny (model prog w) A (Builtin.«object.__ne__» ⟨[.ref x, b], []⟩) Q E s := by
  unfold Builtin.«object.__ne__»
  refine wpAny_bind (wpAny_of_eq (a := ((Value.ref x : Value), [b])) (by first | rfl | (simp only [Builtin.slotArgs]; rfl)) ?_)
  refine wpAny_bind (wpAny_cRoomFor hu ?_)
  refine wpAny_bind (PySem.W.ifBound_K Xk I hs hf (thn h fun v s' z => ?_))
  obtain ⟨c, rfl, q⟩ := z
  exact wpAny_bind (wpAny_truthy_bool (wpAny_pure q))
theorem cmp_ne {prog : Program} {w : World} {A : Around} {E : Value → Shared → Prop} {K : PySem.W.Frag} {x C f : Addr} {ox : Obj} {od : Option Obj} {b : Value} {s : Shared} {Q : Value → Shared → Prop} (hu : A.units + 1 < cLine) (Xk : K.In s.heap) (I : PySem.W.InstAt s.heap x ox C od)
    (hb : PySem.W.Looks (model prog w) s.heap (typeOf b) (.ref C)) (hn : PySem.W.findIn K (.ref C) "__ne__" = some (some (.builtin "object.__ne__"))) (ob : PySem.W.mroIn K C (.type "object") = some true)
    (hs : PySem.W.findIn K (.ref C) "__eq__" = some (some (.ref f))) (hf : PySem.W.isFn K (.ref f) = true)
    (h : wpAny (model prog w) A.in1 (call (.ref f) [.ref x, b]) (fun v s' => ∃ c, v = .bool c ∧ Q (.bool (!c)) s') E s) :
    wpAny (model prog w) A (richCompare .NotEq (.ref x) b) Q E s := by
  have sub : PySem.W.Looks (model prog w) s.heap (isInstance (.ref x) (.type "object")) true := I.type.andThen (PySem.W.looks_mroIn Xk ob)
  have callN : wpAny (model prog w) A (call (.builtin "object.__ne__") [.ref x, b]) (fun v s' => ∃ c, v = .bool c ∧ Q v s') E s := by
    refine wpAny_call (codeAny_call_builtin PySem.F.cmp_object.ne.plain PySem.F.cmpEntry_ne ?_)
    refine @PySem.W.check_slot (model prog w) _ _ s "object.__ne__" "object" "__ne__" (.ref x) [b] [] _ PySem.F.cmpKind_ne PySem.F.cmpSplit_ne sub (PySem.F.cmpArgs_ne _ _) ?_
    refine objNe_entry (A := A.in1) (by show A.units + 1 < cLine; exact hu) Xk I hs hf (thn h fun v s' z => ?_)
    obtain ⟨c, rfl, q⟩ := z
    exact ⟨c, rfl, ⟨!c, rfl, q⟩⟩
  have L1 := PySem.W.looks_findIn (M := model prog w) Xk hn
  have one : wpAny (model prog w) A (tryCompare (.ref x) "__ne__" b) (fun r s' => ∃ v, r = some v ∧ Q v s') E s := by
    unfold tryCompare
    refine wpAny_bind ?_
    simp only [callSpecialIfBound?, bindSpecialIfBound?]
    refine wpAny_holding (wpAny_bind (wpAny_bind (wpAny_bind (I.type.here (L1.here ?_)))))
    simp only [PySem.F.cmp_object.ne.bind]
    refine wpAny_bind (wpAny_askSetting (wpAny_ite ?_))
    have go : wpAny (model prog w) A (do
        let r ← call (.builtin "object.__ne__") ([.ref x] ++ [b])
        pure (some r)) (fun a s' => wpAny (model prog w) A (match a with
          | some Value.notImplemented => pure none
          | none => pure none
          | some v => pure (some v)) (fun r s' => ∃ v, r = some v ∧ Q v s') E s') E s := by
      refine wpAny_bind (thn callN fun v s' z => ?_)
      obtain ⟨c, rfl, q⟩ := z
      exact wpAny_pure (wpAny_pure ⟨_, rfl, q⟩)
    split
    · exact wpAny_bind (wpAny_pure (wpAny_pure (by exact go)))
    · refine wpAny_tryCatch ?_
      exact wpAny_bind (wpAny_pure (wpAny_pure (by exact go)))
  have hu0 : A.units < cLine := Nat.lt_of_succ_lt hu
  unfold richCompare
  simp only [oneThing_ref]
  refine wpAny_holding (wpAny_bind (wpAny_cRoomFor hu0 ?_))
  refine wpAny_bind (I.type.here (wpAny_bind (hb.here ?_)))
  split
  · rename_i q
    simp at q
  · refine wpAny_bind (wpAny_pure ?_)
    simp only [Bool.false_eq_true, if_false]
    refine wpAny_bind (wpAny_mono one (fun r s' z => ?_) fun _ _ e => e)
    obtain ⟨v, rfl, hq⟩ := z
    exact wpAny_pure hq
theorem op_ne_own (O : OwnE X.K C f) (F : FnOk X.prog X.w X.K X.mg X.base CX k f fd ps sp) (hr : Room (k + 1) X.A) (hb : Binds X.K fd ps []) (hx : Passes CX X E) : OpR X (compareOp .NotEq) (rEqOwn C sp E true) := by
  intro pins s σ H x y v u Q I rx ry hq
  obtain ⟨a, b, dx, dy, fs, gs, rfl, rfl, ha, hb', q⟩ := hq
  cases rx
  cases ry
  obtain ⟨od, J⟩ := inst_at I ha
  obtain ⟨od', J'⟩ := inst_at I hb'
  refine cmp_ne (by have := hr.units; omega) I.kIn J J'.type O.hn O.ob O.hs O.hf ?_
  refine thn (run_at (A := X.A.in1) (vs := [.ref a, .ref b]) F hr.in1 rfl hb (at_of_passes hx) I (.cons rfl (.cons rfl .nil)) q) fun _ _ z => ?_
  obtain ⟨w', H', I', rw', c, rfl, q2⟩ := z
  cases rw'
  exact ⟨c, rfl, (⟨.bl (!c), H', I', rfl, q2⟩ : EP X pins σ Q (.bool (!c)) _)⟩
/-! ### str(o) by the class's __str__ -/
def rStrOwn (C : Addr) (sp : Sp) (E : XK) : List V → Hp → VK → Prop := fun vs H Q => ∃ a dx fs, vs = [.ref a] ∧ H a = some (.ins C dx fs) ∧ sp [.ref a] H (fun v H' => ∃ z, v = .str z ∧ Q v H') E
theorem call_str_own (O : OwnM X.K C f "__str__") (F : FnOk X.prog X.w X.K X.mg X.base CX k f fd ps sp) (hr : Room (k + 2) X.A) (hb : Binds X.K fd ps []) (hx : Passes CX X E) : CallR X (.type "str") (rStrOwn C sp E) := by
  intro pins s σ H xs us Q I r hq
  obtain ⟨a, dx, fs, rfl, ha, q⟩ := hq
  cases r with
  | cons rx rr =>
    cases rr
    cases rx
    obtain ⟨od, J⟩ := inst_at I ha
    have hr2 : Room k X.A.in1.in1 := hr.in1.in1
    refine PySem.W.kso_call hr2.units0 I.kIn J O.hs O.hf ?_
    refine thn (run_at (A := X.A.in1.in1) (vs := [.ref a]) F hr2 rfl hb (at_of_passes hx) I (.cons rfl .nil) q) fun _ _ z => ?_
    obtain ⟨w', H', I', rw', z, rfl, q2⟩ := z
    obtain ⟨t, rfl⟩ := rw'
    exact (⟨.str z, H', I', ⟨t, rfl⟩, q2⟩ : EP X pins σ Q (.str z t) _)
/-! ### -o -/
def rNegOwn (C : Addr) (sp : Sp) (E : XK) : V → Hp → VK → Prop := fun x H Q => ∃ a dx fs, x = .ref a ∧ H a = some (.ins C dx fs) ∧ sp [.ref a] H Q E
theorem un_neg_own (O : OwnM X.K C f "__neg__") (F : FnOk X.prog X.w X.K X.mg X.base CX k f fd ps sp) (hr : Room k X.A) (hb : Binds X.K fd ps []) (hx : Passes CX X E) : UnR X (unaryOp .USub) (rNegOwn C sp E) := by
  intro pins s σ H x v Q I rx hq
  obtain ⟨a, dx, fs, rfl, ha, q⟩ := hq
  cases rx
  obtain ⟨od, J⟩ := inst_at I ha
  obtain ⟨m, hF⟩ := I.fr
  exact PySem.W.ksp_neg hF I.ok.mod.kin J O.hs O.hf (run_at (vs := [.ref a]) F hr rfl hb (at_of_passes hx) I (.cons rfl .nil) q)
end
end XR
/-! ### isinstance of a caught error that has a dict of its own -/
namespace XR
open PySem PySem.Spec PySem.Calls PyProof.Rows PySem.W
section
variable {prog : Program} {w : World} {A : Around} {E : Value → Shared → Prop} {s : Shared} {K : Frag} {x D : Addr} {ox od : Obj}
/-- what a class of errors must say, so that isinstance reads its instances rightly (L2.ExcC's facts) -/
abbrev Asks (K : Frag) (D : Addr) : Prop := L2.ExcC K D
theorem excD_class {Q : Option Value → Shared → Prop} (c : Asks K D) (X : K.In s.heap)
    (I : InstAt s.heap x ox D (some od)) (h : Q (some (.ref D)) { s with toks := s.toks + 1 }) :
    wpAny (model prog w) A (getAttr? (.ref x) "__class__") Q E s := by
  have isC : (clsIn K D).isSome = true := by
    obtain ⟨cd, hc, _⟩ := any_some c.hd
    rw [hc] <;> rfl
  have fnd := looks_find (M := model prog w) X I (findObj_data isC c.ha c.hn c.ht)
  obtain ⟨hp, g, d, t, os⟩ := s
  have lt := I.type (M := model prog w)
  have la := looks_findIn (M := model prog w) X c.hg
  have lb := looks_findIn (M := model prog w) X c.hk
  have isB : Looks (model prog w) hp (isInstance (.ref x) (.type "BaseException")) true :=
    lt.andThen (looks_subIn X c.hs)
  have z0 : (false && onTheHeap (Value.builtin "BaseException.__getattribute__")) = false := by
    rfl
  have z2 : (Value.builtin "BaseException.__getattribute__" ==
      Value.builtin "object.__getattribute__") = false := by decide +kernel
  have z1 : (onTheHeap (Value.ref D) && (Value.builtin "BaseException.__getattribute__" ==
      Value.builtin "object.__getattribute__")) = false := by rw [z2, Bool.and_false]
  unfold getAttr? getAttrBy? getAttrBy
  refine wpAny_bind (wpAny_mkText ?_)
  refine wpAny_bind (wpAny_attempt ?_)
  refine wpAny_holding (wpAny_bind (lt.at ?_))
  refine wpAny_bind (la.at ?_)
  show wpAny _ _ (if (onTheHeap (Value.ref D) && (Value.builtin "BaseException.__getattribute__" ==
    Value.builtin "object.__getattribute__")) = true then _ else _) _ _ _
  rw [z1, if_neg (by decide)]
  unfold getAttrByItsOwn hookBefore
  refine wpAny_bind ?_
  rw [if_pos (by rfl : onTheHeap (Value.ref D) = true)]
  refine lb.at (wpAny_bind (wpAny_attempt ?_))
  refine wpAny_holding ?_
  unfold callGetattribute
  rw [z0, if_neg (by decide)]
  unfold boundAndCalled
  rw [PySem.F.excAttr_ValueError.ga.bind]
  refine wpAny_bind (wpAny_pure ?_)
  show wpAny _ _ (call (.builtin "BaseException.__getattribute__")
    [.ref x, .str "__class__" t]) _ _ _
  refine wpAny_call (codeAny_call_builtin PySem.F.excAttr_ValueError.ga.plain
    PySem.F.entry_bexc_ga ?_)
  refine @check_slot (model prog w) _ _ ⟨hp, g, d, t + 1, os⟩ "BaseException.__getattribute__" "BaseException"
    "__getattribute__" (.ref x) [.str "__class__" t] [] _ (by decide +kernel) (by decide +kernel) isB
    (PySem.F.args_bexc_ga _ _) ?_
  unfold Builtin.«object.__getattribute__»
  refine wpAny_bind (wpAny_of_eq (a := ((Value.ref x : Value), [Value.str "__class__" t]))
    (by first | rfl | (simp only [Builtin.slotArgs] <;> rfl)) ?_)
  refine wpAny_bind (wpAny_pure ?_)
  refine wpAny_bind (lt.at (wpAny_bind (fnd.at ?_)))
  show wpAny _ _ (holding [Value.builtin "object.__class__"]
    (call (.builtin "getset_descriptor.__get__") [.builtin "object.__class__", .ref x, .ref D]) >>= ret) _ _ _
  refine wpAny_bind (wpAny_holding ?_)
  refine wpAny_call (class_get (s := ⟨hp, g, d, t + 1, os⟩) (ox := ox) (od := some od) X I c.hm ?_)
  refine wpAny_pure ?_
  show wpAny _ _ (handedOut (.ref D)) _ _ _
  rw [handedOut_of (v := .ref D) (by rfl)]
  first
    | exact wpAny_pure (wpAny_bind (wpAny_pure (wpAny_pure h)))
    | exact wpAny_pure (wpAny_pure h)
    | exact wpAny_pure h
theorem kit_excD (c : Asks K D) : KitX K (.ref x) (.ref D) (fun h => InstAt h x ox D (some od)) where
  ty := fun _ _ _ i => i.type
  it := fun m h X' i => by
    obtain ⟨cd, hc, _⟩ := any_some c.hd
    unfold clsIn at hc
    split at hc
    next c' d' cd' sl' ho =>
      intro A' Q' E' s' k q
      unfold isType loadHead
      refine wpAny_bind (wpAny_loadPart (k _ _ (X' _ _ ho)) ?_)
      exact wpAny_pure q
    next => cases hc
  ne := fun h tp dd its n sl X' htp => by
    obtain ⟨cd, hc, _⟩ := any_some c.hd
    refine Bool.eq_false_iff.mpr fun q => ?_
    obtain rfl : D = tp := Value.ref.inj (beq_iff_eq.mp q)
    unfold clsIn at hc
    split at hc
    next c' d' cd' sl' ho => cases (X' _ _ ho).symm.trans htp
    next => cases hc
  ca := fun X' i q => excD_class c X' i q
end
end XR
namespace XR
open PySem PySem.Spec PyProof.Rows L2
/-! ### a caught error, pinned: isinstance, fields -/
section
variable {X : Cx} {a : Addr} {oe : Obj} {cls : Value} {d : Option Addr}
theorem pinned_inst {pins : List (Addr × Obj)} {s : Shared} {σ : L2.St} {H : Hp} {D dd : Addr} {fs : List (Str × V)}
    (hp : (a, oe) ∈ X.pn) (hz : Zc (.ref D) (some dd) oe) (hf : ∃ vs, oe.data = .fields vs) (I : Inv X pins σ H s)
    (e : H dd = some (.xd fs)) : ∃ od, PySem.W.InstAt s.heap a oe D (some od) ∧ ∃ mA : Str → Option Value,
      (∀ n, PySem.W.lookIn n od = some (mA n)) ∧ ∀ n, RelO (fs.lookup n) (mA n) := by
  have at_ := (I.pin (a, oe) (List.mem_append_left _ hp)).1
  obtain ⟨vs, hv⟩ := hf
  have ok : ObjOk X.prog X.w H s.heap dd (.xd fs) := I.hok dd _ e
  obtain ⟨mA, hns, rel⟩ := ok
  obtain ⟨od, ho, hl⟩ := lookIn_ns hns
  refine ⟨od, ⟨at_, hz.1, ?_, ?_⟩, mA, hl, rel⟩
  · unfold PySem.W.notCls
    rw [hv] <;> rfl
  · rw [hz.2]
    exact ho
def rIsP (K : PySem.W.Frag) (cls : Value) (d : Option Addr) (a : Addr) : List V → Hp → VK → Prop := fun xs H Q =>
  ∃ (D dd : Addr) (fs : List (Str × V)) (c : V) (cv : Value) (b : Bool), cls = .ref D ∧ d = some dd ∧ H dd = some (.xd fs) ∧
    Asks K D ∧ xs = [.ref a, c] ∧ ClsV c cv ∧ PySem.W.kitOne K (.ref D) cv = some b ∧ Q (.bl b) H
def rIsPT (K : PySem.W.Frag) (cls : Value) (d : Option Addr) (a : Addr) : List V → Hp → VK → Prop := fun xs H Q =>
  ∃ (D dd tp : Addr) (fs : List (Str × V)) (cs : List V) (us : List Value) (b : Bool), cls = .ref D ∧ d = some dd ∧ H dd = some (.xd fs) ∧
    Asks K D ∧ xs = [.ref a, .ref tp] ∧ H tp = some (.tup cs) ∧ Paired ClsV cs us ∧ PySem.W.kitAny K (.ref D) us = some b ∧ Q (.bl b) H
theorem call_isP (hp : (a, oe) ∈ X.pn) (hz : Zc cls d oe) (hf : ∃ vs, oe.data = .fields vs) :
    CallR X (.builtin "isinstance") (rIsP X.K cls d a) := by
  intro pins s σ H xs us Q I r h
  obtain ⟨D, dd, fs, c, cv, b, rfl, rfl, e, as, rfl, kc, ek, q⟩ := h
  obtain ⟨u1, u2, rfl, r1, r2⟩ := vals2 r
  obtain rfl : u1 = Value.ref a := r1
  obtain rfl := kc.eq r2
  obtain ⟨od, J, _⟩ := pinned_inst hp hz hf I e
  exact PySem.W.kia_one (kit_excD as) I.kIn J ek (fun z => nomatch z) fun tk => ⟨.bl b, H, I.tok tk, rfl, q⟩
theorem call_isPT (hp : (a, oe) ∈ X.pn) (hz : Zc cls d oe) (hf : ∃ vs, oe.data = .fields vs) :
    CallR X (.builtin "isinstance") (rIsPT X.K cls d a) := by
  intro pins s σ H xs us Q I r h
  obtain ⟨D, dd, tp, fs, cs, ws, b, rfl, rfl, e, as, rfl, hT, kc, ek, q⟩ := h
  obtain ⟨u1, u2, rfl, r1, r2⟩ := vals2 r
  obtain rfl : u1 = Value.ref a := r1
  obtain rfl : u2 = Value.ref tp := r2
  obtain ⟨od, J, _⟩ := pinned_inst hp hz hf I e
  have okT : ObjOk X.prog X.w H s.heap tp (.tup cs) := I.hok tp _ hT
  obtain ⟨_, its, rv, ⟨oc, od2, dt, sl⟩, h1, h2, n, h3⟩ := okT
  dsimp only at h2 h3
  subst h2 h3
  obtain rfl := ClsV.all kc rv
  exact PySem.W.kia_tup (kit_excD as) I.kIn J h1 ek (fun z => nomatch z) fun tk => ⟨.bl b, H, I.tok tk, rfl, q⟩
/-- e.n, e the pinned error -/
def tPf (K : PySem.W.Frag) (a : Addr) (cls : Value) (d : Option Addr) (n : Str) (te : TE) : TE := fun σ H Q => te σ H fun x H1 =>
  ∃ (D dd : Addr) (fs : List (Str × V)) (v : V), x = .ref a ∧ cls = .ref D ∧ d = some dd ∧ H1 dd = some (.xd fs) ∧ XfC K D ∧
    PySem.W.findIn K (.ref D) n = some none ∧ fs.lookup n = some v ∧ Q v H1
theorem pe_pf {e : Expr} {te : TE} {pos : Pos} {n : Str} (hp : (a, oe) ∈ X.pn) (hz : Zc cls d oe) (hf : ∃ vs, oe.data = .fields vs) (he : PE X e te)
    (hb : attributeBase e n X.env (eval e X.env) = eval e X.env := by rfl) : PE X (.Attribute e n pos) (tPf X.K a cls d n te) := by
  refine ⟨fun pins s σ H Q I h => attr_of hb (thn (he.run pins s σ H _ I h) fun u s1 z => ?_)⟩
  obtain ⟨x, H1, I1, rx, D, dd, fs, v, rfl, rfl, rfl, ea, xf, hno, l, q⟩ := z
  obtain rfl : u = Value.ref a := rx
  obtain ⟨od, J, mA, hl, rel⟩ := pinned_inst hp hz hf I1 ea
  have rn := rel n
  rw [l] at rn
  obtain ⟨u, hu, ru⟩ := RelO.some_of rn
  refine HandSPX.exc_get I1.kIn J xf.ga xf.gg xf.exC (PySem.W.findObj_own xf.hdC hno rfl ?_) (handed_of ru) ⟨v, H1, I1.tok _, ru, q⟩
  rw [hl, hu]
end
/-! ### a def called while an error is handled: it raises nothing itself -/
abbrev SpQ := Addr × Obj → Sp
structure FnQ (P : Program) (w : World) (K : PySem.W.Frag) (mg : Str → Option Value) (base : Heap) (k : Nat) (f : Addr) (fd : FuncData) (ps : List Str) (sp : SpQ) : Prop where
  len : ∀ p vs H Q E, sp p vs H Q E → vs.length = ps.length
  run : ∀ (A : Around) (outer : List Env) (s : Shared) (H : Hp) (args : Args) (us : List Value) (vs : List V) (Q : VK) (p : Addr × Obj),
    L2H.RoomH k A → L2H.PinOk outer H s p → Env0 P w K mg base A outer s H → BindsTo s fd args (ps.zip us) → Vals vs us → sp p vs H Q E0 →
    codeAny (model P w) A (.call (.ref f) args) (CR CX0 outer P w H s Q E0) s
section
variable {P : Program} {w : World} {K : PySem.W.Frag} {mg : Str → Option Value} {base : Heap}
theorem okQ {x qual : Str} {st : Stmt} {f : Addr} {fd : FuncData} {N ps : List Str} {k : Nat} {sp : SpQ} (F : Fun K x qual st f fd) (S : FnScope N ps (defScope st))
    (len : ∀ p vs H Q E, sp p vs H Q E → vs.length = ps.length)
    (body : ∀ (cdv : Value) (A : Around) (outer : List Env) (s : Shared) (H : Hp) (vs : List V) (Q : VK) (p : Addr × Obj),
      L2H.RoomH k (A.deeper (envOfC qual (defScope st) s.heap.objs.size f cdv)) → sp p vs H Q E0 →
      ∃ t, PSs (L2H.cxH CX0 P w K mg base N qual (defScope st) f cdv A outer s H E0 p).nox (defBody st) t ∧
        t { nx := fun _ H' => Q .non H', rt := Q } (start N vs) H) : FnQ P w K mg base (k + 1) f fd ps sp := by
  obtain ⟨oc, od, kV, doc, pm, an, cdv, ct, osl, rfl, lk, hcd⟩ := F.ex
  refine ⟨len, fun A outer s H args us vs Q p hr pin e0 hb r hsp => ?_⟩
  have hl := len _ _ _ _ _ hsp
  have old : ∀ b o, base.get? b = some o → s.heap.get? b = some o := fun b o e => (e0.bs b o e).1
  have KX : K.In s.heap := e0.mod.kin.keeps old
  have lim : s.heap.NoLimit := e0.mod.nolimit.keeps old
  have kinds : ∀ y ∈ ps.zip us, (defScope st).names.lookup y.1 = some .local ∨
      ((defScope st).names.lookup y.1 = some .cell ∧ ((cellsFrom (s.heap.objs.size + 1) (defScope st).names []).lookup y.1).isSome = true) := by
    rintro ⟨n, v⟩ hy
    refine (S.par n (List.of_mem_zip hy).1).imp (fun q => q) fun q => ⟨q, ?_⟩
    exact PySem.W.cellsFrom_some _ _ _ (.inl q)
  refine codeAny_call_function hr.depth (KX _ _ lk) rfl S.co S.gen rfl (PySem.W.codeRec_of KX hcd) (hb _ _ _ _ ?_)
  refine wpAny_newFunctionEnv_cells S.kind kinds fun env he s1 x => ?_
  subst he
  refine ⟨lim.keeps x.toInCall.keep, codeAny_func ?_⟩
  obtain ⟨t, ht, hq⟩ := body cdv A outer s H vs Q p (hr.deeper _) hsp
  have I := L2H.inv_startH (CX := CX0) (E := E0) (cd := cdv) (qual := qual) S pin e0 hl r x
  have run := (PSs.nox ht).run [] s1 (start N vs) H _ I hq
  have out : ∀ {σ' : L2.St} {H' : Hp} {v : V} {u : Value} {s' : Shared},
      Inv (L2H.cxH CX0 P w K mg base N qual (defScope st) f cdv A outer s H E0 p) [] σ' H' s' → RelV v u → Q v H' → CE outer P w H s Q u s' :=
    fun J rv q => ⟨_, _, J.os, J.bare, J.base, J.hok, rv, q⟩
  refine wpAny_mono run (fun fl s' z => ?_) fun _ _ z => z
  cases fl with
  | next =>
    obtain ⟨σ', H', J, q⟩ := z
    exact out (v := V.non) (u := Value.none) J rfl q
  | ret u =>
    obtain ⟨v, σ', H', J, rv, q⟩ := z
    exact out J rv q
  | brk => exact z.elim fun _ y => y.elim fun _ y => y.2.elim
  | cont => exact z.elim fun _ y => y.elim fun _ y => y.2.elim
end
section
variable {X : Cx} {k : Nat} {f : Addr} {fd : FuncData} {ps : List Str} {sp : SpQ} {x : Str} {q pos : Pos} {e : Expr} {es : List Expr} {t : TA} {p : Addr × Obj}
def tCallQ (sp : Sp) (t : TA) : TE := fun σ H Q => t σ H fun vs H1 => sp vs H1 Q E0
theorem pe_callQ (F : FnQ X.prog X.w X.K X.mg X.base k f fd ps sp) (hr : L2H.RoomH k X.A) (hp : p ∈ X.pn) (hg : Gl X x) (hm : X.mg x = some (.ref f))
    (hk : PySem.W.keepIn X.K (.ref f) = true) (hb : Binds X.K fd ps []) (ha : PA X (e :: es) t) (hdb : (x == ("__debug__" : Str)) = false := by decide)
    (he : starEach (e :: es) X.env = (false, eval e X.env) :: starEach es X.env := by rfl) (hpl : (backTo pos (starEach es X.env)).any (·.1) = false := by rfl) :
    PE X (.Call (.Name x q) (e :: es) [] pos) (tCallQ (sp p) t) := by
  refine ⟨fun pins s σ H Q I h => wpAny_Call_Name_kw (ld_glob I hg hm ?_ hdb)⟩
  refine PySem.W.callWith_K (h₀ := X.base) I.ok.mod.kin hk (thn (ha.run pos pins s σ H _ I h) fun us s1 z => ?_) he hpl
  obtain ⟨vs, H1, I1, r, hsp⟩ := z
  refine ⟨I1.kIn, ?_⟩
  have hl : us.length = ps.length := r.length.symm.trans (F.len _ _ _ _ _ hsp)
  have b := hb s1 us I1.kIn (by rw [List.append_nil]; exact hl)
  rw [List.append_nil] at b
  obtain ⟨p1, p2, p3, p4, p5⟩ := I1.pin p (List.mem_append_left _ hp)
  have pin : L2H.PinOk X.stack H1 s1 p := ⟨p1, p2, fun hm => (List.mem_cons.mp (I1.stkSub p.1 hm)).elim p3 p4, p5⟩
  refine wpAny_call (codeAny_mono (F.run X.A X.stack s1 H1 ⟨us, []⟩ us vs Q p hr pin I1.env0 b r hsp) fun r s' z => ?_)
  cases r with
  | error e => exact z.elim
  | ok fl =>
    cases fl with
    | ret u => exact I1.after z
    | next => exact z.elim
    | brk => exact z.elim
    | cont => exact z.elim
end
end XR
namespace XR
open PySem PySem.Spec PyProof.Rows L2
/-! ### C(e, ..) where __init__ may raise, the wish told at the caller's slots -/
section
variable {X : Cx} {CX : CXT} {k : Nat} {C f : Addr} {fd : FuncData} {ps : List Str} {sp : Sp} {E : L2.St → XK} {x : Str} {p pos : Pos} {e : Expr} {es : List Expr} {t : TA}
def tMakeS (C : Addr) (sp : Sp) (E : L2.St → XK) (t : TA) : TE := fun σ H Q => t σ H fun vs H1 => ∀ x dx, H1 x = none → H1 dx = none → dx ≠ x →
  sp (.ref x :: vs) (upd (upd H1 dx (.own x)) x (.ins C dx [])) (fun v H2 => v = .non ∧ Q (.ref x) H2) (E σ)
theorem pe_makeS (M : Mk X.K C f) (F : FnOk X.prog X.w X.K X.mg X.base CX k f fd ps sp) (hr : Room (k + 1) X.A) (hg : Gl X x) (hm : X.mg x = some (.ref C)) (hb : Binds X.K fd ps [])
    (hx : ∀ σ, PassesAt CX X σ (E σ)) (ha : PA X (e :: es) t) (hdb : (x == ("__debug__" : Str)) = false := by decide)
    (he : starEach (e :: es) X.env = (false, eval e X.env) :: starEach es X.env := by rfl) (hpl : (backTo pos (starEach es X.env)).any (·.1) = false := by rfl) :
    PE X (.Call (.Name x p) (e :: es) [] pos) (tMakeS C sp E t) := by
  refine ⟨fun pins s σ H Q I h => wpAny_Call_Name_kw (ld_glob I hg hm ?_ hdb)⟩
  refine PySem.W.callWith_K (h₀ := X.base) I.ok.mod.kin M.kp (thn (ha.run pos pins s σ H _ I h) fun us s1 z => ?_) he hpl
  obtain ⟨vs, H1, I1, r, q⟩ := z
  refine ⟨I1.kIn, ?_⟩
  have fr := I1.hok.fresh (a := s1.heap.objs.size) (Nat.le_refl _)
  have fr1 := I1.hok.fresh (a := s1.heap.objs.size + 1) (Nat.le_add_right _ 1)
  have hsp := q (s1.heap.objs.size + 1) s1.heap.objs.size fr1 fr (Nat.ne_of_lt (Nat.lt_succ_self _))
  have I2 := Inv.made (C := C) I1
  have r2 : Vals (V.ref (s1.heap.objs.size + 1) :: vs) (Value.ref (s1.heap.objs.size + 1) :: us) := .cons rfl r
  have hl : (Value.ref (s1.heap.objs.size + 1) :: us).length = ps.length := r2.length.symm.trans (F.len _ _ _ _ hsp)
  have b := hb _ (Value.ref (s1.heap.objs.size + 1) :: us) I2.kIn (by rw [List.append_nil]; exact hl)
  rw [List.append_nil] at b
  have run := F.run _ X.stack _ _ ⟨Value.ref (s1.heap.objs.size + 1) :: us, []⟩ _ _ _ (E σ) (hr.make C us []) (I2.env0.make C us []) b r2 hsp
  refine wpAny_call (make_map (f := f) I1.kIn M.makes M.init (beq_iff_eq.mp M.fn) (codeAny_mono run fun r s' z => ?_))
  cases r with
  | error er => exact hx σ pins _ _ er s' I2 z
  | ok fl =>
    cases fl with
    | ret u =>
      obtain ⟨v, H', I3, rv, ev, q3⟩ := I2.after z
      subst ev
      exact ⟨rv, .ref (s1.heap.objs.size + 1), H', I3, rfl, q3⟩
    | next => exact z.elim
    | brk => exact z.elim
    | cont => exact z.elim
end
end XR
set_option Elab.async false
set_option linter.all false
set_option maxRecDepth 100000
set_option maxHeartbeats 4000000
/-! common lemmas: lists of ints, heaps with one object that changes, errors made and raised -/
namespace XR
open PySem PySem.Spec PyProof.Rows L2
theorem divw {i j : Int} (h : 0 < j) (h2 : j < 2 ^ 63) : CDivW i j := wide_div (b := 63) h (by omega) (by decide) (by decide)
theorem cmul_mod {i j : Int} (h : 0 < j ∧ j < 2 ^ 64) : -(2 ^ 64) < i % j ∧ i % j < 2 ^ 64 := ⟨by have := Int.emod_nonneg i (b := j) (by omega); omega, by have := Int.emod_lt_of_pos i h.1; omega⟩
theorem log_lt {i : Int} (h1 : -(10 ^ 40) < i) (h2 : i < 10 ^ 40) : i.natAbs.log2 < 1920 := by
  have h : i.natAbs < 10 ^ 40 := by omega
  have h3 : (10 : Nat) ^ 40 < 2 ^ 1920 := by decide +kernel
  by_cases z : i.natAbs = 0
  · rw [z]; decide
  · exact (Nat.log2_lt z).mpr (Nat.lt_trans h h3)
/-- a word at which the reading stops (two makers, so that no anonymous one fits) -/
inductive Stop (p : Prop) : Prop where
  | go (h : p)
  | too (h : p)
theorem Stop.out {p : Prop} : Stop p → p
  | .go h => h
  | .too h => h
/-- xs[:n] -/
theorem cutV_take (ns : List Int) (n : Nat) : cutV (ns.map V.int) none (some (n : Int)) = (ns.take n).map V.int := by
  unfold cutV
  have e0 : HT.sIx (ns.map V.int).length 0 none = 0 := rfl
  have e1 : HT.sIx (ns.map V.int).length (ns.map V.int).length (some (n : Int)) = min n (ns.map V.int).length := by
    unfold HT.sIx
    simp
    omega
  rw [e0, e1]
  simp [List.map_take]
theorem get_int {ms : List Int} {i : Nat} {x : V} (h : (ms.map V.int)[i]? = some x) : ∃ z, ms[i]? = some z ∧ x = .int z := by
  rw [List.getElem?_map] at h
  cases e : ms[i]? with
  | none => rw [e] at h; cases h
  | some z => rw [e] at h; exact ⟨z, rfl, (Option.some.inj h).symm⟩
theorem take_one {α : Type} {ms : List α} {i : Nat} {z : α} (h : ms[i]? = some z) : ms.take (i + 1) = ms.take i ++ [z] := by
  rw [List.take_succ, h] <;> rfl
theorem ne_fresh {H : Hp} {a b : Addr} {o : HO} (h : H b = none) (e : H a = some o) : a ≠ b := ne_of_none e h
theorem empty_app (x : Str) : Str.empty ++ x = x := by
  cases x with
  | mk a =>
    show (⟨#[] ++ a⟩ : Str) = ⟨a⟩
    simp
theorem max_if (a c : Int) : (if c > a then c else a) = max a c := by omega
theorem min_if (a c : Int) : (if c < a then c else a) = min a c := by omega
theorem at_ints {cs : List Int} {i : Int} (h0 : 0 ≤ i) (h : i < ((cs.map V.int).length : Nat)) : ∃ z, atI (cs.map V.int) i = some (.int z) := by
  have hl : i.toNat < cs.length := by rw [List.length_map] at h; omega
  refine ⟨cs[i.toNat], at_of (j := i.toNat) (by omega) ?_⟩
  rw [List.getElem?_map, List.getElem?_eq_getElem hl] <;> rfl
/-- the item at a drawn place of a written list -/
theorem at_lt {α : Type} {xs : List α} {i : Int} (h0 : 0 ≤ i) (h : i < (xs.length : Int)) : ∃ x, atI xs i = some x ∧ x ∈ xs := by
  have hl : i.toNat < xs.length := by omega
  refine ⟨xs[i.toNat], ?_, List.getElem_mem hl⟩
  have e := atI_nat (List.getElem?_eq_getElem hl)
  rw [show ((i.toNat : Nat) : Int) = i by omega] at e
  exact e
/-- all but b stands as it stood -/
def ExB (b : Addr) (H H' : Hp) : Prop := ∀ a o, a ≠ b → H a = some o → H' a = some o
theorem ExB.refl {b : Addr} {H : Hp} : ExB b H H := fun _ _ _ e => e
theorem ExB.trans {b : Addr} {H H1 H2 : Hp} (x : ExB b H H1) (y : ExB b H1 H2) : ExB b H H2 := fun a o n e => y a o n (x a o n e)
theorem ExB.same {b : Addr} {H H1 H2 : Hp} (x : ExB b H H1) (y : Same H1 H2) : ExB b H H2 := fun a o n e => y a o (x a o n e)
theorem ExB.of {b : Addr} {H H1 : Hp} (y : Same H H1) : ExB b H H1 := fun a o _ e => y a o e
theorem ExB.upd {b : Addr} {H H' : Hp} {o : HO} (x : ExB b H H') : ExB b H (upd H' b o) := fun a u ha e => by rw [upd_ne ha]; exact x a u ha e
theorem Same.new {H H' : Hp} {p : Addr} {o : HO} (x : Same H H') (h : H' p = none) : Same H (upd H' p o) := fun a u e => by
  have q := x a u e
  rw [upd_ne (ne_of_none q h)]
  exact q
theorem ExB.new {b : Addr} {H H' : Hp} {p : Addr} {o : HO} (x : ExB b H H') (h : H' p = none) : ExB b H (L2.upd H' p o) := fun a u n e => by
  have q := x a u n e
  rw [upd_ne (ne_of_none q h)]
  exact q
/-- nothing stands at p behind either -/
theorem none_back {H H' : Hp} {p : Addr} (x : Same H H') (h : H' p = none) : H p = none := Same.free x h
theorem none_backB {b : Addr} {H H' : Hp} {p : Addr} (x : ExB b H H') (n : p ≠ b) (h : H' p = none) : H p = none := by
  cases e : H p with
  | none => rfl
  | some o => rw [x p o n e] at h; cases h

theorem hot_of {A : Around} {k : Nat} {v : Option Value} (r : Room k A) : L2H.RoomH k (A.mark v) := ⟨r.dp, r.un⟩
/-! ### an error of the program with fields: made, raised -/
/-- what its __init__ leaves -/
def spEx (C : Addr) (fs : List V → Option (List (Str × V))) : Sp := fun vs H Q _ => ∃ (a : Addr) (ws : List V) (l : List (Str × V)), vs = .ref a :: ws ∧ fs ws = some l ∧
  H a = some (exo a C none) ∧ ∀ d H', H d = none → d ≠ a → H' a = some (exo a C (some d)) → H' d = some (exd d l) → (∀ q o, q ≠ a → H q = some o → H' q = some o) → Q .non H'
/-- the wish of what is raised: an error of the class at C with these fields, all else as it stood -/
def Wish (C : Addr) (l : List (Str × V)) (H : Hp) (E : Value → Option Addr → Hp → Prop) : Prop := ∀ d H', H' d = some (.xd l) → Same H H' → E (.ref C) (some d) H'
theorem mk_ex {C : Addr} {fs : List V → Option (List (Str × V))} {vs : List V} {l : List (Str × V)} {H : Hp} {E : XK} (hl : vs.length ≤ 1000) (hf : fs vs = some l) (k : Wish C l H E) :
    vs.length ≤ 1000 ∧ ∀ a, H a = none → spEx C fs (.ref a :: (vs ++ [])) (upd H a (exo a C none))
      (fun v H2 => v = .non ∧ ∃ (d : Addr) (g : List (Str × V)), H2 a = some (exo a C (some d)) ∧ H2 d = some (exd d g) ∧ H d = none ∧ E (.ref C) (some d) (upd (del H2 a) d (.xd g))) (fun _ _ _ => False) := by
  refine ⟨hl, fun a ha => ⟨a, vs, l, by rw [List.append_nil], hf, upd_same, fun d H' hd hda ea ed x => ⟨rfl, d, l, ea, ed, ?_, k d _ upd_same fun q o e => ?_⟩⟩⟩
  · rw [upd_ne hda] at hd
    exact hd
  · have hqa : q ≠ a := ne_of_none e ha
    have hqd : q ≠ d := fun z => by
      rw [upd_ne hda] at hd
      rw [z, hd] at e
      cases e
    rw [upd_ne hqd, del_ne hqa]
    refine x q o hqa ?_
    rw [upd_ne hqa]
    exact e
theorem init_ex1 {K : PySem.W.Frag} {C a : Addr} {f : Str} {v : V} {H : Hp} {Q : Hp → Prop} (oc : OexC K C) (hn : PySem.W.findIn K (.ref C) f = some none) (ha : H a = some (exo a C none))
    (k : ∀ d H', H d = none → d ≠ a → H' a = some (exo a C (some d)) → H' d = some (exd d [(f, v)]) → (∀ q o, q ≠ a → H q = some o → H' q = some o) → Q H') :
    ∃ a' C' : Addr, V.ref a = .ref a' ∧ OexC K C' ∧ PySem.W.findIn K (.ref C') f = some none ∧
      ((H a' = some (exo a' C' none) ∧ ∀ dx, H dx = none → dx ≠ a' → Q (upd (upd H dx (exd dx [(f, v)])) a' (exo a' C' (some dx)))) ∨
        ∃ (dx : Addr) (fs : List (Str × V)), H a' = some (exo a' C' (some dx)) ∧ H dx = some (exd dx fs) ∧ fs.length ≤ 900 ∧ Q (upd H dx (exd dx ((f, v) :: fs)))) := by
  refine ⟨a, C, rfl, oc, hn, .inl ⟨ha, fun dx hd hne => k dx _ hd hne upd_same (by rw [upd_ne hne]; exact upd_same) fun q o hq e => ?_⟩⟩
  rw [upd_ne hq, upd_ne (ne_of_none e hd)]
  exact e
theorem init_ex2 {K : PySem.W.Frag} {C a d : Addr} {f : Str} {v : V} {l : List (Str × V)} {H : Hp} {Q : Hp → Prop} (oc : OexC K C) (hn : PySem.W.findIn K (.ref C) f = some none) (hl : l.length ≤ 900)
    (ha : H a = some (exo a C (some d))) (hd : H d = some (exd d l)) (hda : d ≠ a)
    (k : ∀ H', H' a = some (exo a C (some d)) → H' d = some (exd d ((f, v) :: l)) → (∀ q o, q ≠ a → q ≠ d → H q = some o → H' q = some o) → Q H') :
    ∃ a' C' : Addr, V.ref a = .ref a' ∧ OexC K C' ∧ PySem.W.findIn K (.ref C') f = some none ∧
      ((H a' = some (exo a' C' none) ∧ ∀ dx, H dx = none → dx ≠ a' → Q (upd (upd H dx (exd dx [(f, v)])) a' (exo a' C' (some dx)))) ∨
        ∃ (dx : Addr) (fs : List (Str × V)), H a' = some (exo a' C' (some dx)) ∧ H dx = some (exd dx fs) ∧ fs.length ≤ 900 ∧ Q (upd H dx (exd dx ((f, v) :: fs)))) := by
  refine ⟨a, C, rfl, oc, hn, .inr ⟨d, l, ha, hd, hl, k _ (by rw [upd_ne hda.symm]; exact ha) upd_same fun q o _ hq e => by rw [upd_ne hq]; exact e⟩⟩
end XR
namespace XR
open PySem L2
theorem ifF {c : Bool} {P Q : Prop} (h : c = false) (k : Q) : if c = true then P else Q := by rw [h, if_neg (by decide)]; exact k
theorem ifT {c : Bool} {P Q : Prop} (h : c = true) (k : P) : if c = true then P else Q := by rw [if_pos h]; exact k
end XR
namespace XR
open PySem L2
section
variable {X : Cx} {a b : Addr} {oe : Obj} {cls : Value} {d : Option Addr} {pn : List (Addr × Obj)}
theorem call_isPs (hz : Zc cls d oe) (hf : ∃ vs, oe.data = .fields vs) : CallR (X.suite b ((a, oe) :: pn)) (.builtin "isinstance") (rIsP X.K cls d a) := call_isP List.mem_cons_self hz hf
theorem call_isPTs (hz : Zc cls d oe) (hf : ∃ vs, oe.data = .fields vs) : CallR (X.suite b ((a, oe) :: pn)) (.builtin "isinstance") (rIsPT X.K cls d a) := call_isPT List.mem_cons_self hz hf
theorem pe_pfs {e : Expr} {te : TE} {pos : Pos} {n : Str} (hz : Zc cls d oe) (hf : ∃ vs, oe.data = .fields vs) (he : PE (X.suite b ((a, oe) :: pn)) e te)
    (hb : attributeBase e n (X.suite b ((a, oe) :: pn)).env (eval e (X.suite b ((a, oe) :: pn)).env) = eval e (X.suite b ((a, oe) :: pn)).env := by rfl) : PE (X.suite b ((a, oe) :: pn)) (.Attribute e n pos) (tPf X.K a cls d n te) :=
  pe_pf List.mem_cons_self hz hf he hb
theorem pe_callQs {k : Nat} {f : Addr} {fd : FuncData} {ps : List Str} {sp : SpQ} {x : Str} {q pos : Pos} {e : Expr} {es : List Expr} {t : TA}
    (F : FnQ (X.suite b ((a, oe) :: pn)).prog (X.suite b ((a, oe) :: pn)).w (X.suite b ((a, oe) :: pn)).K (X.suite b ((a, oe) :: pn)).mg (X.suite b ((a, oe) :: pn)).base k f fd ps sp) (hr : L2H.RoomH k (X.suite b ((a, oe) :: pn)).A) (hg : Gl (X.suite b ((a, oe) :: pn)) x) (hm : (X.suite b ((a, oe) :: pn)).mg x = some (.ref f))
    (hk : PySem.W.keepIn (X.suite b ((a, oe) :: pn)).K (.ref f) = true) (hb : Binds (X.suite b ((a, oe) :: pn)).K fd ps []) (ha : PA (X.suite b ((a, oe) :: pn)) (e :: es) t) (hdb : (x == ("__debug__" : Str)) = false := by decide)
    (he : starEach (e :: es) (X.suite b ((a, oe) :: pn)).env = (false, eval e (X.suite b ((a, oe) :: pn)).env) :: starEach es (X.suite b ((a, oe) :: pn)).env := by rfl) (hpl : (backTo pos (starEach es (X.suite b ((a, oe) :: pn)).env)).any (·.1) = false := by rfl) :
    PE (X.suite b ((a, oe) :: pn)) (.Call (.Name x q) (e :: es) [] pos) (tCallQ (sp (a, oe)) t) := pe_callQ (p := (a, oe)) F hr List.mem_cons_self hg hm hk hb ha hdb he hpl
end
end XR
namespace XR
open PySem L2
theorem cong_ts {X : Cx} {ss : List Stmt} {t t' : TS} (h : PSs X ss t) (e : t = t') : PSs X ss t' := e ▸ h
end XR
namespace XR
open PySem L2
theorem kitAny_cons {K : PySem.W.Frag} {t c : Value} {r : List Value} (h : PySem.W.kitOne K t c = some false) (hr : PySem.W.kitAny K t r = some false) : PySem.W.kitAny K t (c :: r) = some false := by
  unfold PySem.W.kitAny
  rw [h]
  exact hr
theorem kitAny_4 {K : PySem.W.Frag} {t a b c d : Value} (h1 : PySem.W.kitOne K t a = some false) (h2 : PySem.W.kitOne K t b = some false) (h3 : PySem.W.kitOne K t c = some false) (h4 : PySem.W.kitOne K t d = some false) : PySem.W.kitAny K t [a, b, c, d] = some false :=
  kitAny_cons h1 (kitAny_cons h2 (kitAny_cons h3 (kitAny_cons h4 rfl)))
end XR
namespace XR
open PySem L2
/-- .. in a comprehension's block -/
theorem ix_listb {X : Cx} {s : Shared} {H : Hp} {sc : Scope} {ce : Env} {fp : List Addr} : IxR (X.blk s H sc ce fp) (rIxL X.K) := ix_list
theorem ix_tupb {X : Cx} {s : Shared} {H : Hp} {sc : Scope} {ce : Env} {fp : List Addr} : IxR (X.blk s H sc ce fp) (rIxT X.K) := ix_tup
end XR
namespace XR
open PySem PySem.Spec PyProof.Rows L2
structure CStat (K : PySem.W.Frag) (C p g : Addr) (m : Str) : Prop where
  rd : PySem.W.readsIn K C (.type "type") = true
  ga : PySem.W.specialIn K (.ref C) "__getattribute__" = some (some (.builtin "type.__getattribute__"))
  at_ : PySem.W.findCls K (.ref C) (.type "type") m = some (.get (.builtin "staticmethod.__get__") (.ref p) .none (.ref C))
  rc : ∃ rest, PySem.W.recIn K p "staticmethod" = some (.ref g :: rest)
section
variable {X : Cx} {pins : List (Addr × Obj)} {σ : L2.St} {H : Hp} {s : Shared} {C p g : Addr} {m : Str} {A : Around} {E : Value → Shared → Prop}
theorem getstat_ok {pl : Sem Bool} {Q : Value × List Value → Shared → Prop} (I : Inv X pins σ H s) (r : CStat X.K C p g m) (h : ∀ s', Inv X pins σ H s' → Q (.ref g, []) s') : wpAny (model X.prog X.w) A (getMethod (.ref C) m pl) Q E s := by
  obtain ⟨rest, hp⟩ := r.rc
  exact PySem.W.method_cls I.kIn r.ga (PySem.W.cls_bind I.kIn r.rd r.at_ (wpAny_call (PySem.W.sm_get (s := { s with toks := s.toks + 1 }) I.kIn hp (PySem.W.handed_on rfl (h _ (I.tok _))))))
end
/-- C.m(..), m a staticmethod; E told at the caller's slots -/
def tStat (C : Addr) (sp : Sp) (E : L2.St → XK) (ta : TE) (t : TA) : TE := fun σ H Q => ta σ H fun x H1 => x = .ref C ∧ t σ H1 fun vs H2 => sp vs H2 Q (E σ)
section
variable {X : Cx} {CX : CXT} {k : Nat} {C p g : Addr} {fd : FuncData} {ps : List Str} {sp : Sp} {ES : L2.St → XK} {o e : Expr} {es : List Expr} {m : Str} {pos apos : Pos} {ta : TE} {t : TA} {pl : Sem Bool}
theorem pe_stat (he : PE X o ta) (r : CStat X.K C p g m) (F : FnOk X.prog X.w X.K X.mg X.base CX k g fd ps sp) (hr : Room k X.A) (hk : PySem.W.keepIn X.K (.ref g) = true) (hb : Binds X.K fd ps []) (hx : ∀ σ, PassesAt CX X σ (ES σ)) (ha : PA X (e :: es) t)
    (hst : starEach (e :: es) X.env = (false, eval e X.env) :: starEach es X.env := by rfl) (hpl : (backTo pos (starEach es X.env)).any (·.1) = false := by rfl)
    (ht : eval (.Call (.Attribute o m apos) (e :: es) [] pos) X.env = (do
      let ov ← eval o X.env
      standAt apos.atName
      let (f, first) ← holding [ov] (getMethod ov m pl)
      callWith pos f first (backTo pos (starEach (e :: es) X.env)) (backToKw pos (keywordEach [] X.env))) := by rfl) :
    PE X (.Call (.Attribute o m apos) (e :: es) [] pos) (tStat C sp ES ta t) := by
  refine ⟨fun pins s σ H Q I h => ?_⟩
  refine PySem.W.methodCall_KW (pl := pl) (thn (he.run pins s σ H _ I h) fun u s1 ⟨x, H1, I1, rx, ex, q⟩ => ?_) ht
  subst ex
  obtain rfl : u = Value.ref C := rx
  refine getstat_ok I1 r fun s2 I2 => ?_
  refine PySem.W.callWith_K (h₀ := X.base) I.ok.mod.kin hk (thn (ha.run pos _ s2 σ H1 _ I2 q) fun us s3 ⟨vs, H2, I3, rv, q2⟩ => ⟨I3.kIn, ?_⟩) hst hpl
  exact run_at F hr rfl hb (hx σ) I3 rv q2
theorem pe_stat0 (he : PE X o ta) (r : CStat X.K C p g m) (F : FnOk X.prog X.w X.K X.mg X.base CX k g fd ps sp) (hr : Room k X.A) (hk : PySem.W.keepIn X.K (.ref g) = true) (hb : Binds X.K fd ps []) (hx : ∀ σ, PassesAt CX X σ (ES σ))
    (ht : eval (.Call (.Attribute o m apos) [] [] pos) X.env = (do
      let ov ← eval o X.env
      standAt apos.atName
      let (f, first) ← holding [ov] (getMethod ov m pl)
      callWith pos f first (backTo pos (starEach [] X.env)) (backToKw pos (keywordEach [] X.env))) := by rfl) :
    PE X (.Call (.Attribute o m apos) [] [] pos) (tStat C sp ES ta tNil) := by
  refine ⟨fun pins s σ H Q I h => ?_⟩
  refine PySem.W.methodCall_KW (pl := pl) (thn (he.run pins s σ H _ I h) fun u s1 ⟨x, H1, I1, rx, ex, q⟩ => ?_) ht
  subst ex
  obtain rfl : u = Value.ref C := rx
  refine getstat_ok I1 r fun s2 I2 => ?_
  exact PySem.W.callWith_K0 I2.kIn hk (run_at (us := []) F hr rfl hb (hx σ) I2 .nil q)
end
end XR
namespace XR
open PySem L2
/-- turns over a range, whatever a turn does -/
theorem turn_range {lo : Int} {n : Nat} {H0 : Hp} {Qd : Hp → Prop} {Body : V → Hp → (Hp → Prop) → Prop} (Pv : Nat → Hp → Prop) (h0 : Pv 0 H0) (hs : ∀ i H, i < n → Pv i H → Body (.int (lo + i)) H (Pv (i + 1))) (hd : ∀ H, Pv n H → Qd H) :
    ∃ W : Nat → Nat → Hp → Prop, (∃ m, W 0 m H0) ∧ ∀ i m H, W i m H →
      ((Itr lo n).stop i H ∧ Qd H) ∨ ((Itr lo n).go i H ∧ ∃ Nx : Hp → Prop, (∀ H', Nx H' → ∃ m', m' < m ∧ W (i + 1) m' H') ∧ ∀ x H', (Itr lo n).yld i H x H' → Body x H' Nx) := by
  refine ⟨fun i m H => m = n - i ∧ i ≤ n ∧ Pv i H, ⟨n, by simp, Nat.zero_le _, h0⟩, ?_⟩
  rintro i m H ⟨rfl, hi, p⟩
  by_cases hlt : i < n
  · refine .inr ⟨hlt, Pv (i + 1), fun H' p' => ⟨n - (i + 1), by omega, rfl, hlt, p'⟩, fun x H' y => ?_⟩
    obtain ⟨e, y⟩ := y
    subst e y
    exact hs i _ hlt p
  · have e : i = n := by omega
    subst e
    exact .inl ⟨Nat.le_refl _, hd H p⟩
end XR
set_option Elab.async false
set_option linter.all false
set_option maxRecDepth 100000
set_option maxHeartbeats 4000000
/-! views: what is settled (G) within the heap (H); data by PyData -/
namespace XR
open PySem PySem.Spec PyProof.Rows L2
theorem SqL.same {K : PySem.W.Frag} {G H : Hp} {a : Addr} {xs : List V} (h : SqL K G a xs) (v : Same G H) : SqL K H a xs := Same.seq v h
theorem SqT.same {K : PySem.W.Frag} {G H : Hp} {a : Addr} {xs : List V} (h : SqT K G a xs) (v : Same G H) : SqT K H a xs := by
  rcases h with h | h
  · rcases h with h | ⟨o, h⟩
    · exact .inl (.inl (v _ _ h))
    · exact .inl (.inr ⟨o, v _ _ h⟩)
  · exact .inr h
mutual
theorem Dp.same {K : PySem.W.Frag} {G H : Hp} (v : Same G H) : ∀ {x : V} {d : PyData}, Dp K G x d → Dp K H x d
  | _, _, .non => .non
  | _, _, .bl b => .bl b
  | _, _, .int i => .int i
  | _, _, .str i => .str i
  | _, _, .lst s a => .lst (SqL.same s v) (DpAll.same v a)
  | _, _, .tup s a => .tup (SqT.same s v) (DpAll.same v a)
theorem DpAll.same {K : PySem.W.Frag} {G H : Hp} (v : Same G H) : ∀ {xs : List V} {ds : List PyData}, DpAll K G xs ds → DpAll K H xs ds
  | _, _, .nil => .nil
  | _, _, .cons a b => .cons (Dp.same v a) (DpAll.same v b)
end
theorem Dp.int_inv {K : PySem.W.Frag} {G : Hp} {x : V} {z : Int} (h : Dp K G x (.int z)) : x = .int z := by cases h; rfl
theorem Dp.bl_inv {K : PySem.W.Frag} {G : Hp} {x : V} {z : Bool} (h : Dp K G x (.bool z)) : x = .bl z := by cases h; rfl
theorem Dp.str_inv {K : PySem.W.Frag} {G : Hp} {x : V} {z : Str} (h : Dp K G x (.str z)) : x = .str z := by cases h; rfl
theorem Dp.non_inv {K : PySem.W.Frag} {G : Hp} {x : V} (h : Dp K G x .none) : x = .non := by cases h; rfl
theorem Dp.lst_inv {K : PySem.W.Frag} {G : Hp} {x : V} {ds : List PyData} (h : Dp K G x (.list ds)) : ∃ p xs, x = .ref p ∧ SqL K G p xs ∧ DpAll K G xs ds := by
  cases h with | lst s a => exact ⟨_, _, rfl, s, a⟩
theorem Dp.tup_inv {K : PySem.W.Frag} {G : Hp} {x : V} {ds : List PyData} (h : Dp K G x (.tuple ds)) : ∃ p xs, x = .ref p ∧ SqT K G p xs ∧ DpAll K G xs ds := by
  cases h with | tup s a => exact ⟨_, _, rfl, s, a⟩
theorem DpAll.length {K : PySem.W.Frag} {G : Hp} : ∀ {xs : List V} {ds : List PyData}, DpAll K G xs ds → xs.length = ds.length
  | _, _, .nil => rfl
  | _, _, .cons _ b => congrArg (· + 1) (DpAll.length b)
theorem DpAll.get {K : PySem.W.Frag} {G : Hp} : ∀ {xs : List V} {ds : List PyData} {i : Nat} {x : V}, DpAll K G xs ds → xs[i]? = some x → ∃ d, ds[i]? = some d ∧ Dp K G x d
  | _, _, _, _, .nil, e => by cases e
  | _, _, 0, _, .cons a _, e => by cases e; exact ⟨_, rfl, a⟩
  | _, _, i + 1, _, .cons _ b, e => DpAll.get (i := i) b e
theorem DpAll.get' {K : PySem.W.Frag} {G : Hp} : ∀ {xs : List V} {ds : List PyData} {i : Nat} {d : PyData}, DpAll K G xs ds → ds[i]? = some d → ∃ x, xs[i]? = some x ∧ Dp K G x d
  | _, _, _, _, .nil, e => by cases e
  | _, _, 0, _, .cons a _, e => by cases e; exact ⟨_, rfl, a⟩
  | _, _, i + 1, _, .cons _ b, e => DpAll.get' (i := i) b e
theorem DpAll.append {K : PySem.W.Frag} {G : Hp} {ys : List V} {es : List PyData} (q : DpAll K G ys es) : ∀ {xs : List V} {ds : List PyData}, DpAll K G xs ds → DpAll K G (xs ++ ys) (ds ++ es)
  | _, _, .nil => q
  | _, _, .cons a b => .cons a (DpAll.append q b)
theorem DpAll.snoc {K : PySem.W.Frag} {G : Hp} {xs : List V} {ds : List PyData} {y : V} {e : PyData} (p : DpAll K G xs ds) (q : Dp K G y e) : DpAll K G (xs ++ [y]) (ds ++ [e]) := DpAll.append (.cons q .nil) p
theorem DpAll.ints {K : PySem.W.Frag} {G : Hp} : ∀ {xs : List V} {ns : List Int}, DpAll K G xs (ns.map PyData.int) → xs = ns.map V.int
  | _, [], .nil => rfl
  | _, _ :: _, .cons a b => by rw [Dp.int_inv a, DpAll.ints b]; rfl
theorem DpAll.of_ints {K : PySem.W.Frag} {G : Hp} : ∀ (ns : List Int), DpAll K G (ns.map V.int) (ns.map PyData.int)
  | [] => .nil
  | n :: r => .cons (.int n) (DpAll.of_ints r)
/-- a pair of ints -/
abbrev pD : Int × Int → PyData := fun c => .tuple [.int c.1, .int c.2]
abbrev pDs (cs : List (Int × Int)) : List PyData := cs.map pD
theorem Dp.pair {K : PySem.W.Frag} {G : Hp} {x : V} {c : Int × Int} (h : Dp K G x (pD c)) : ∃ p, x = .ref p ∧ SqT K G p [.int c.1, .int c.2] := by
  obtain ⟨p, xs, rfl, s, a⟩ := Dp.tup_inv h
  cases a with | cons a1 a2 =>
  cases a2 with | cons b1 b2 =>
  cases b2
  rw [Dp.int_inv a1, Dp.int_inv b1] at s
  exact ⟨p, rfl, s⟩
theorem Dp.mk_pair {K : PySem.W.Frag} {G : Hp} {p : Addr} {a b : Int} (h : SqT K G p [.int a, .int b]) : Dp K G (.ref p) (pD (a, b)) := .tup h (.cons (.int a) (.cons (.int b) .nil))
theorem pairs_get {K : PySem.W.Frag} {G : Hp} {xs : List V} {cs : List (Int × Int)} {i : Nat} {x : V} (h : DpAll K G xs (pDs cs)) (e : xs[i]? = some x) : ∃ c p, cs[i]? = some c ∧ x = .ref p ∧ SqT K G p [.int c.1, .int c.2] ∧ Dp K G (.ref p) (pD c) := by
  obtain ⟨d, hd, q⟩ := DpAll.get h e
  rw [List.getElem?_map] at hd
  cases ec : cs[i]? with
  | none => rw [ec] at hd; cases hd
  | some c =>
    rw [ec] at hd
    cases hd
    obtain ⟨p, rfl, s⟩ := Dp.pair q
    exact ⟨c, p, rfl, rfl, s, q⟩
theorem pairs_at {K : PySem.W.Frag} {G : Hp} {xs : List V} {cs : List (Int × Int)} {i : Nat} {c : Int × Int} (h : DpAll K G xs (pDs cs)) (e : cs[i]? = some c) : ∃ p, xs[i]? = some (.ref p) ∧ SqT K G p [.int c.1, .int c.2] ∧ Dp K G (.ref p) (pD c) := by
  obtain ⟨x, hx, q⟩ := DpAll.get' (i := i) (d := pD c) h (by rw [List.getElem?_map, e]; rfl)
  obtain ⟨p, rfl, s⟩ := Dp.pair q
  exact ⟨p, hx, s, q⟩
/-! ### steps -/
/-- from (G, H) to (G', H'): nothing changes, what is new in the view is new -/
structure Step (G H G' H' : Hp) : Prop where
  vw : Same G' H'
  gg : Same G G'
  hh : Same H H'
  fr : ∀ a, H a ≠ none → G a = none → G' a = none
theorem Step.refl {G H : Hp} (v : Same G H) : Step G H G H := ⟨v, Same.refl _, Same.refl _, fun _ _ e => e⟩
theorem Same.some {H H' : Hp} {a : Addr} (x : Same H H') (h : H a ≠ none) : H' a ≠ none := fun e => h (Same.free x e)
theorem Step.trans {G H G1 H1 G2 H2 : Hp} (a : Step G H G1 H1) (b : Step G1 H1 G2 H2) : Step G H G2 H2 :=
  ⟨b.vw, a.gg.trans b.gg, a.hh.trans b.hh, fun p h e => b.fr p (Same.some a.hh h) (a.fr p h e)⟩
theorem Step.same {G H H' : Hp} (v : Same G H) (x : Same H H') : Step G H G H' := ⟨v.trans x, Same.refl _, x, fun _ _ e => e⟩
theorem Step.more {G H G1 H1 H2 : Hp} (a : Step G H G1 H1) (x : Same H1 H2) : Step G H G1 H2 := a.trans (Step.same a.vw x)
theorem Same.upd2 {G H : Hp} {p : Addr} {o : HO} (v : Same G H) : Same (upd G p o) (upd H p o) := fun q u e => by
  by_cases z : q = p
  · subst z
    rw [upd_same] at e
    rw [upd_same]
    exact e
  · rw [upd_ne z] at e
    rw [upd_ne z]
    exact v _ _ e
theorem Same.add {H : Hp} {p : Addr} {o : HO} (h : H p = none) : Same H (upd H p o) := fun q u e => by rw [upd_ne (ne_of_none e h)]; exact e
theorem fr_add {G H : Hp} {p : Addr} {o : HO} (h : H p = none) : ∀ a, H a ≠ none → G a = none → (upd G p o) a = none := fun a ha e => by
  rw [upd_ne (fun z => ha (by rw [z]; exact h))]
  exact e
/-- a new settled object -/
theorem Step.new {G H : Hp} {p : Addr} {o : HO} (v : Same G H) (h : H p = none) : Step G H (upd G p o) (upd H p o) :=
  ⟨Same.upd2 v, Same.add (Same.free v h), Same.add h, fr_add h⟩
/-- .. made by a callee -/
theorem Step.lift {G H H' : Hp} {p : Addr} {o : HO} (v : Same G H) (h : H p = none) (x : Same H H') (e : H' p = some o) : Step G H (upd G p o) H' :=
  ⟨fun q u z => by
    by_cases n : q = p
    · subst n
      rw [upd_same] at z
      exact e.trans z
    · rw [upd_ne n] at z
      exact x _ _ (v _ _ z), Same.add (Same.free v h), x, fr_add h⟩
/-- a new object that may still change -/
theorem Step.mut {G H : Hp} {p : Addr} {o : HO} (v : Same G H) (h : H p = none) : Step G H G (upd H p o) := Step.same v (Same.add h)
/-- .. changed -/
theorem Step.upd {G H G' H' : Hp} {l : Addr} {o : HO} (s : Step G H G' H') (h : H l = none) (g : G' l = none) : Step G H G' (upd H' l o) :=
  ⟨fun q u e => by rw [upd_ne (ne_of_none e g)]; exact s.vw _ _ e, s.gg, fun q u e => by rw [upd_ne (ne_of_none e h)]; exact s.hh _ _ e, s.fr⟩
/-- .. settled -/
theorem Step.freeze {G H G' H' : Hp} {l : Addr} {o : HO} (s : Step G H G' H') (h : H l = none) (g : G' l = none) (e : H' l = some o) : Step G H (L2.upd G' l o) H' :=
  ⟨fun q u z => by
    by_cases n : q = l
    · subst n
      rw [L2.upd_same] at z
      exact e.trans z
    · rw [upd_ne n] at z
      exact s.vw _ _ z, s.gg.trans (Same.add g), s.hh, fun a ha ea => by rw [upd_ne (fun z => ha (by rw [z]; exact h))]; exact s.fr a ha ea⟩
/-- a list that grows -/
structure Grow (K : PySem.W.Frag) (G H : Hp) (l : Addr) (out : List PyData) (G' H' : Hp) (acc : List V) : Prop where
  st : XR.Step G H G' H'
  nl : H l = none
  gl : G' l = none
  el : H' l = some (.lst acc)
  ds : DpAll K G' acc out
/-- .. somehow -/
def LcI (K : PySem.W.Frag) (G H : Hp) (l : Addr) (out : List PyData) (H' : Hp) : Prop := ∃ G' acc, Grow K G H l out G' H' acc
section
variable {K : PySem.W.Frag} {G H G' H' G1 H1 : Hp} {l : Addr} {out : List PyData} {acc : List V}
theorem Grow.start (v : Same G H) (h : H l = none) : Grow K G H l [] G (upd H l (.lst [])) [] := ⟨Step.mut v h, h, Same.free v h, upd_same, .nil⟩
theorem LcI.start (v : Same G H) (h : H l = none) : LcI K G H l [] (upd H l (.lst [])) := ⟨_, _, Grow.start v h⟩
theorem Grow.len (g : Grow K G H l out G' H' acc) : acc.length = out.length := XR.DpAll.length g.ds
theorem Grow.step (g : Grow K G H l out G' H' acc) (s : Step G' H' G1 H1) : Grow K G H l out G1 H1 acc :=
  ⟨g.st.trans s, g.nl, s.fr _ (by rw [g.el]; exact fun z => by cases z) g.gl, s.hh _ _ g.el, DpAll.same s.gg g.ds⟩
theorem Grow.add (g : Grow K G H l out G' H' acc) {v : V} {d : PyData} (q : Dp K G' v d) : Grow K G H l (out ++ [d]) G' (upd H' l (.lst (acc ++ [v]))) (acc ++ [v]) :=
  ⟨g.st.upd g.nl g.gl, g.nl, g.gl, upd_same, DpAll.snoc g.ds q⟩
/-- a comprehension's turn that adds -/
theorem Grow.push (g : Grow K G H l out G' H' acc) {v : V} {d : PyData} (q : Dp K G' v d) (hl : out.length < sizeLine) :
    ∃ acc, H' l = some (.lst acc) ∧ acc.length < sizeLine ∧ LcI K G H l (out ++ [d]) (upd H' l (.lst (acc ++ [v]))) :=
  ⟨acc, g.el, by rw [g.len]; exact hl, _, _, g.add q⟩
/-- the list is settled -/
theorem Grow.freeze (g : Grow K G H l out G' H' acc) : Step G H (upd G' l (.lst acc)) H' ∧ Dp K (upd G' l (.lst acc)) (.ref l) (.list out) :=
  ⟨g.st.freeze g.nl g.gl g.el, .lst (SqL.of upd_same) (DpAll.same (Same.add g.gl) g.ds)⟩
end
/-! ### steps with one object b that changes (a law's box) -/
structure StB (b : Addr) (G H G' H' : Hp) : Prop where
  vw : Same G' H'
  gg : Same G G'
  gb : G' b = none
  hh : ExB b H H'
section
variable {K : PySem.W.Frag} {b p l : Addr} {G H G1 H1 G2 H2 : Hp} {o : HO} {out : List PyData} {acc : List V}
theorem StB.refl (v : Same G H) (g : G b = none) : StB b G H G H := ⟨v, Same.refl _, g, ExB.refl⟩
theorem StB.trans (s : StB b G H G1 H1) (t : StB b G1 H1 G2 H2) : StB b G H G2 H2 := ⟨t.vw, s.gg.trans t.gg, t.gb, s.hh.trans t.hh⟩
theorem StB.draw (s : StB b G H G1 H1) (x : ExB b H1 H2) : StB b G H G1 H2 :=
  ⟨fun a u e => x a u (fun z => by rw [z, s.gb] at e; cases e) (s.vw a u e), s.gg, s.gb, s.hh.trans x⟩
theorem StB.new (s : StB b G H G1 H1) (h : H1 p = none) (n : p ≠ b) : StB b G H (upd G1 p o) (upd H1 p o) :=
  ⟨Same.upd2 s.vw, s.gg.trans (Same.add (Same.free s.vw h)), by rw [upd_ne n.symm]; exact s.gb, s.hh.new h⟩
theorem StB.mut (s : StB b G H G1 H1) (h : H1 p = none) : StB b G H G1 (upd H1 p o) := ⟨s.vw.trans (Same.add h), s.gg, s.gb, s.hh.new h⟩
theorem StB.upd (s : StB b G H G1 H1) (h : H p = none) (g : G1 p = none) : StB b G H G1 (L2.upd H1 p o) :=
  ⟨fun q u e => by rw [upd_ne (ne_of_none e g)]; exact s.vw _ _ e, s.gg, s.gb, fun q u n e => by rw [upd_ne (ne_of_none e h)]; exact s.hh _ _ n e⟩
theorem StB.step (s : StB b G H G1 H1) (hb : H1 b ≠ none) (t : Step G1 H1 G2 H2) : StB b G H G2 H2 := ⟨t.vw, s.gg.trans t.gg, t.fr _ hb s.gb, s.hh.same t.hh⟩
theorem StB.same (s : StB b G H G1 H1) (t : Same H1 H2) : StB b G H G1 H2 := ⟨s.vw.trans t, s.gg, s.gb, s.hh.same t⟩
theorem StB.freeze (s : StB b G H G1 H1) (n : p ≠ b) (g : G1 p = none) (e : H1 p = some o) : StB b G H (L2.upd G1 p o) H1 :=
  ⟨fun q u z => by
    by_cases n : q = p
    · subst n
      rw [upd_same] at z
      exact e.trans z
    · rw [upd_ne n] at z
      exact s.vw _ _ z, s.gg.trans (Same.add g), by rw [upd_ne n.symm]; exact s.gb, s.hh⟩
/-- a list that grows between the draws -/
structure GrowB (K : PySem.W.Frag) (b : Addr) (G H : Hp) (l : Addr) (out : List PyData) (G' H' : Hp) (acc : List V) : Prop where
  st : StB b G H G' H'
  nl : H l = none
  lb : l ≠ b
  gl : G' l = none
  el : H' l = some (.lst acc)
  ds : DpAll K G' acc out
theorem GrowB.start (s : StB b G H G H) (h : H p = none) (n : p ≠ b) : GrowB K b G H p [] G (L2.upd H p (.lst [])) [] := ⟨s.mut h, h, n, Same.free s.vw h, upd_same, .nil⟩
theorem GrowB.draw (g : GrowB K b G H l out G1 H1 acc) (x : ExB b H1 H2) : GrowB K b G H l out G1 H2 acc := ⟨g.st.draw x, g.nl, g.lb, g.gl, x _ _ g.lb g.el, g.ds⟩
theorem GrowB.new (g : GrowB K b G H l out G1 H1 acc) (h : H1 p = none) (n : p ≠ b) : GrowB K b G H l out (L2.upd G1 p o) (L2.upd H1 p o) acc :=
  have np : l ≠ p := ne_of_none g.el h
  ⟨g.st.new h n, g.nl, g.lb, by rw [upd_ne np]; exact g.gl, by rw [upd_ne np]; exact g.el, DpAll.same (Same.add (Same.free g.st.vw h)) g.ds⟩
theorem GrowB.mut (g : GrowB K b G H l out G1 H1 acc) (h : H1 p = none) : GrowB K b G H l out G1 (L2.upd H1 p o) acc :=
  have np : l ≠ p := ne_of_none g.el h
  ⟨g.st.mut h, g.nl, g.lb, g.gl, by rw [upd_ne np]; exact g.el, g.ds⟩
theorem GrowB.step (g : GrowB K b G H l out G1 H1 acc) (hb : H1 b ≠ none) (t : XR.Step G1 H1 G2 H2) : GrowB K b G H l out G2 H2 acc :=
  ⟨g.st.step hb t, g.nl, g.lb, t.fr _ (by rw [g.el]; exact fun z => by cases z) g.gl, t.hh _ _ g.el, DpAll.same t.gg g.ds⟩
theorem GrowB.add (g : GrowB K b G H l out G1 H1 acc) {v : V} {d : PyData} (q : Dp K G1 v d) : GrowB K b G H l (out ++ [d]) G1 (L2.upd H1 l (.lst (acc ++ [v]))) (acc ++ [v]) :=
  ⟨g.st.upd g.nl g.gl, g.nl, g.lb, g.gl, upd_same, DpAll.snoc g.ds q⟩
theorem GrowB.len (g : GrowB K b G H l out G1 H1 acc) : acc.length = out.length := XR.DpAll.length g.ds
theorem GrowB.freeze (g : GrowB K b G H l out G1 H1 acc) : StB b G H (L2.upd G1 l (.lst acc)) H1 ∧ Dp K (L2.upd G1 l (.lst acc)) (.ref l) (.list out) :=
  ⟨g.st.freeze g.lb g.gl g.el, .lst (SqL.of upd_same) (DpAll.same (Same.add g.gl) g.ds)⟩
end
/-! ### options -/
def oV : Option Int → V
  | none => .non
  | some z => .int z
def oD : Option Int → PyData
  | none => .none
  | some z => .int z
theorem DpAll.opts {K : PySem.W.Frag} {G : Hp} : ∀ (ns : List (Option Int)), DpAll K G (ns.map oV) (ns.map oD)
  | [] => .nil
  | none :: r => .cons .non (DpAll.opts r)
  | some n :: r => .cons (.int n) (DpAll.opts r)
theorem DpAll.opts_inv {K : PySem.W.Frag} {G : Hp} : ∀ {xs : List V} {ns : List (Option Int)}, DpAll K G xs (ns.map oD) → xs = ns.map oV
  | _, [], .nil => rfl
  | _, none :: _, .cons a b => by rw [Dp.non_inv a, DpAll.opts_inv b]; rfl
  | _, some _ :: _, .cons a b => by rw [Dp.int_inv a, DpAll.opts_inv b]; rfl
section
variable {K : PySem.W.Frag} {G H G' H' : Hp} {l : Addr} {acc : List V} {out : List PyData} {α : Type} {cs : List α} {i : Nat} {c : α} {v : V} {d : PyData}
theorem LcI.vw (h : LcI K G H l out H') : Same G H' := let ⟨_, _, g⟩ := h; g.st.gg.trans g.st.vw
theorem LcI.hh (h : LcI K G H l out H') : Same H H' := let ⟨_, _, g⟩ := h; g.st.hh
theorem Grow.vv (g : Grow K G H l out G' H' acc) : Same G H' := g.st.gg.trans g.st.vw
theorem LcI.start_map {f : α → PyData} (v : Same G H) (h : H l = none) : LcI K G H l ((cs.take 0).map f) (upd H l (.lst [])) := LcI.start v h
theorem LcI.start_fm {f : α → Option PyData} (v : Same G H) (h : H l = none) : LcI K G H l ((cs.take 0).filterMap f) (upd H l (.lst [])) := LcI.start v h
theorem Grow.push_map {f : α → PyData} (g : Grow K G H l ((cs.take i).map f) G' H' acc) (hc : cs[i]? = some c) (q : Dp K G' v (f c)) (hl : cs.length ≤ 1000000) :
    ∃ acc, H' l = some (.lst acc) ∧ acc.length < sizeLine ∧ LcI K G H l ((cs.take (i + 1)).map f) (upd H' l (.lst (acc ++ [v]))) := by
  rw [take_one hc, List.map_append]
  refine g.push q ?_
  rw [List.length_map, List.length_take, sizeLine_eq]
  omega
theorem Grow.push_some {f : α → Option PyData} (g : Grow K G H l ((cs.take i).filterMap f) G' H' acc) (hc : cs[i]? = some c) (e : f c = some d) (q : Dp K G' v d) (hl : cs.length ≤ 1000000) :
    ∃ acc, H' l = some (.lst acc) ∧ acc.length < sizeLine ∧ LcI K G H l ((cs.take (i + 1)).filterMap f) (upd H' l (.lst (acc ++ [v]))) := by
  have e2 : (cs.take (i + 1)).filterMap f = (cs.take i).filterMap f ++ [d] := by rw [take_one hc, List.filterMap_append]; simp [e]
  rw [e2]
  refine g.push q ?_
  have := List.length_filterMap_le f (cs.take i)
  rw [List.length_take] at this
  rw [sizeLine_eq]
  omega
theorem Grow.push_none {f : α → Option PyData} (g : Grow K G H l ((cs.take i).filterMap f) G' H' acc) (hc : cs[i]? = some c) (e : f c = none) : LcI K G H l ((cs.take (i + 1)).filterMap f) H' := by
  have e2 : (cs.take (i + 1)).filterMap f = (cs.take i).filterMap f := by rw [take_one hc, List.filterMap_append]; simp [e]
  rw [e2]
  exact ⟨_, _, g⟩
theorem LcI.all_map {f : α → PyData} {n : Nat} (h : LcI K G H l ((cs.take n).map f) H') (e : cs.length ≤ n) : ∃ G' acc, Grow K G H l (cs.map f) G' H' acc := by
  rw [List.take_of_length_le e] at h
  exact h
theorem LcI.all_fm {f : α → Option PyData} {n : Nat} (h : LcI K G H l ((cs.take n).filterMap f) H') (e : cs.length ≤ n) : ∃ G' acc, Grow K G H l (cs.filterMap f) G' H' acc := by
  rw [List.take_of_length_le e] at h
  exact h
end
theorem at0 {α : Type} {x : α} {xs : List α} : atI (x :: xs) 0 = some x := atI_nat (j := 0) rfl
theorem at1 {α : Type} {x y : α} {xs : List α} : atI (x :: y :: xs) 1 = some y := atI_nat (j := 1) rfl
theorem ix_seqb {X : Cx} {s : Shared} {H : Hp} {sc : Scope} {ce : Env} {fp : List Addr} : IxR (X.blk s H sc ce fp) (rIx X.K) := ix_seq
theorem ints_at {P : Int → Prop} (ns : List Int) {i : Int} (h0 : 0 ≤ i) (h : i < (ns.length : Int)) (p : ∀ n ∈ ns, P n) : ∃ z, atI (ns.map V.int) i = some (.int z) ∧ P z := by
  have hl : i.toNat < ns.length := by omega
  refine ⟨ns[i.toNat], at_of (j := i.toNat) (by omega) ?_, p _ (List.getElem_mem hl)⟩
  rw [List.getElem?_map, List.getElem?_eq_getElem hl] <;> rfl
theorem GrowB.base {K : PySem.W.Frag} {b l : Addr} {G0 H0 G H G1 H1 : Hp} {out : List PyData} {acc : List V} (s : StB b G0 H0 G H) (g : GrowB K b G H l out G1 H1 acc) : GrowB K b G0 H0 l out G1 H1 acc :=
  ⟨s.trans g.st, none_backB s.hh g.lb g.nl, g.lb, g.gl, g.el, g.ds⟩
theorem tyT {K : PySem.W.Frag} {H : Hp} {a : Addr} {xs : List V} (h : SqT K H a xs) : TyX K H (.ref a) (.type "tuple") := by
  rcases h with (h | ⟨o, h⟩) | ⟨o, its, n, e, c, _⟩
  · exact .base (.tup h)
  · exact .fTuple h
  · exact .kTuple e c
theorem tyL {K : PySem.W.Frag} {H : Hp} {a : Addr} {xs : List V} (h : SqL K H a xs) : TyX K H (.ref a) (.type "list") := by
  rcases h with (h | ⟨o, h⟩) | ⟨o, its, n, e, c, _⟩
  · exact .base (.lst h)
  · exact .base (.frz h)
  · exact .kList e c
theorem pairs_can : ∀ cs : List (Int × Int), PyData.canLayAll0 (pDs cs) = true
  | [] => rfl
  | _ :: r => by
    show (PyData.canLay0 _ && PyData.canLayAll0 (pDs r)) = true
    rw [pairs_can r]
    rfl
theorem pairs_eqv : ∀ cs : List (Int × Int), PyData.eqvAll (pDs cs) (pDs cs) = true
  | [] => rfl
  | c :: r => by
    show (PyData.eqv (pD c) (pD c) && PyData.eqvAll (pDs r) (pDs r)) = true
    rw [pairs_eqv r]
    simp [PyData.eqv, PyData.eqvAll]
theorem pairs_depth : ∀ cs : List (Int × Int), PyData.depthAll (pDs cs) ≤ 8
  | [] => by decide
  | c :: r => by
    have := pairs_depth r
    show max (PyData.depth (pD c)) (PyData.depthAll (pDs r)) ≤ 8
    have h : PyData.depth (pD c) ≤ 8 := by simp [PyData.depth, PyData.depthAll]
    omega
theorem shaped_pDs (cs : List (Int × Int)) : SeqAt.shaped (.list (pDs cs)) = true := by
  show (PyData.canLayAll0 (pDs cs) && decide (PyData.depthAll (pDs cs) + 1 ≤ 64)) = true
  rw [pairs_can]
  have := pairs_depth cs
  simp
  omega
theorem eqv_pDs (cs : List (Int × Int)) : PyData.eqv (.list (pDs cs)) (.list (pDs cs)) = true := pairs_eqv cs
theorem eqv_nil (cs : List (Int × Int)) : PyData.eqv (.list (pDs cs)) (.list []) = decide (cs = []) := by
  cases cs with
  | nil => rfl
  | cons c r => rfl
theorem same_nil {H : Hp} : Same (fun _ => none) H := fun _ _ e => by cases e
theorem snoc_inj {α : Type} {I J : List α} {x y : α} (h : I ++ [x] = J ++ [y]) : I = J ∧ x = y := by
  have := List.append_inj' h rfl
  exact ⟨this.1, by simpa using this.2⟩
theorem DpAll.snoc_inv {K : PySem.W.Frag} {G : Hp} {d : PyData} : ∀ {ds : List PyData} {xs : List V}, DpAll K G xs (ds ++ [d]) → ∃ ys y, xs = ys ++ [y] ∧ DpAll K G ys ds ∧ Dp K G y d
  | [], _, .cons a .nil => ⟨[], _, rfl, .nil, a⟩
  | _ :: r, _, .cons a b => by
    obtain ⟨ys, y, rfl, q, z⟩ := DpAll.snoc_inv (ds := r) b
    exact ⟨_ :: ys, y, rfl, .cons a q, z⟩
theorem ixN_last {α : Type} (xs : List α) (v : α) : ixN (xs ++ [v]).length (-1) = some xs.length := by
  unfold ixN
  rw [if_neg (by decide), if_pos (by rw [List.length_append]; simp; omega), List.length_append]
  congr 1
  simp
  omega
theorem set_last {α : Type} (xs : List α) (v w : α) : (xs ++ [v]).set xs.length w = xs ++ [w] := by
  rw [List.set_append_right _ _ (Nat.le_refl _), Nat.sub_self]
  rfl
section
variable {K : PySem.W.Frag} {G H G' H' : Hp} {l : Addr} {out : List PyData} {acc : List V} {d e : PyData} {v : V}
/-- the list's last item is set -/
theorem Grow.setLast (g : Grow K G H l (out ++ [d]) G' H' acc) (q : Dp K G' v e) : ∃ j, ixN acc.length (-1) = some j ∧ Grow K G H l (out ++ [e]) G' (L2.upd H' l (.lst (acc.set j v))) (acc.set j v) := by
  obtain ⟨ys, y, rfl, a, b⟩ := DpAll.snoc_inv g.ds
  refine ⟨ys.length, ixN_last _ _, ?_⟩
  rw [set_last]
  exact ⟨g.st.upd g.nl g.gl, g.nl, g.gl, upd_same, DpAll.snoc a q⟩
end
theorem op_in_seqb {X : Cx} {s : Shared} {H : Hp} {sc : Scope} {ce : Env} {fp : List Addr} : OpR (X.blk s H sc ce fp) (compareOp .In) (rIn X.K false) := op_in_seq
theorem op_notIn_seqb {X : Cx} {s : Shared} {H : Hp} {sc : Scope} {ce : Env} {fp : List Addr} : OpR (X.blk s H sc ce fp) (compareOp .NotIn) (rIn X.K true) := op_notIn_seq
theorem inV_ints (z : Int) : ∀ ns : List Int, inV (.int z) (ns.map V.int) = decide (z ∈ ns)
  | [] => rfl
  | n :: r => by
    have ih := inV_ints z r
    unfold inV at *
    rw [List.map_cons, List.any_cons, ih, Bool.eq_iff_iff]
    have e : eqV (.int n) (.int z) = decide (n = z) := by
      show (n == z) = decide (n = z)
      rw [Bool.eq_iff_iff]
      simp
    rw [e]
    simp only [Bool.or_eq_true, decide_eq_true_eq, List.mem_cons]
    exact or_congr_left ⟨Eq.symm, Eq.symm⟩
theorem flat_ints : ∀ ns : List Int, (ns.map V.int).all flatV = true
  | [] => rfl
  | _ :: r => by
    rw [List.map_cons, List.all_cons, flat_ints r]
    rfl
theorem ints_can : ∀ ns : List Int, PyData.canLayAll0 (ns.map PyData.int) = true
  | [] => rfl
  | _ :: r => by
    show (PyData.canLay0 _ && PyData.canLayAll0 (r.map PyData.int)) = true
    rw [ints_can r]
    rfl
theorem ints_depth : ∀ ns : List Int, PyData.depthAll (ns.map PyData.int) ≤ 8
  | [] => by decide
  | c :: r => by
    have := ints_depth r
    show max (PyData.depth (.int c)) (PyData.depthAll (r.map PyData.int)) ≤ 8
    have h : PyData.depth (.int c) ≤ 8 := by simp [PyData.depth]
    omega
theorem shaped_ints (ns : List Int) : SeqAt.shaped (.list (ns.map PyData.int)) = true := by
  show (PyData.canLayAll0 (ns.map PyData.int) && decide (PyData.depthAll (ns.map PyData.int) + 1 ≤ 64)) = true
  rw [ints_can]
  have := ints_depth ns
  simp
  omega
theorem eqv_ints : ∀ ns : List Int, PyData.eqv (.list (ns.map PyData.int)) (.list (ns.map PyData.int)) = true := by
  have h : ∀ ns : List Int, PyData.eqvAll (ns.map PyData.int) (ns.map PyData.int) = true := fun ns => by
    induction ns with
    | nil => rfl
    | cons c r ih =>
      show (PyData.eqv (.int c) (.int c) && PyData.eqvAll (r.map PyData.int) (r.map PyData.int)) = true
      rw [ih]
      simp [PyData.eqv]
  exact h
theorem eqv_empty (ds : List PyData) : PyData.eqv (.list ds) (.list []) = ds.isEmpty := by
  cases ds <;> rfl
end XR
set_option Elab.async false
set_option linter.all false
set_option maxRecDepth 100000
set_option maxHeartbeats 4000000
/-! walks over a list or a tuple, also in enumerate and zip -/
namespace XR
open PySem PySem.Spec PyProof.Rows L2
/-- a list (k) or a tuple -/
def SqK (K : PySem.W.Frag) (k : Bool) (H : Hp) (a : Addr) (xs : List V) : Prop := if k then SqL K H a xs else SqT K H a xs
def IsSq (k : Bool) (h : Heap) (a : Addr) (items : Array Value) : Prop := if k then h.IsList a items else h.IsTuple a items
def IsSqIter (k : Bool) (h : Heap) (it a : Addr) (i : Nat) : Prop := if k then h.IsListIter it a i else h.IsTupleIter it a i
def sqObj (k : Bool) (a : Addr) : Obj := if k then { cls := .type "list_iterator", data := .fields #[.ref a, .int 0 0] } else { cls := .type "tuple_iterator", data := .fields #[.ref a, .int 0 0] }
theorem SqK.same {K : PySem.W.Frag} {k : Bool} {G H : Hp} {a : Addr} {xs : List V} (h : SqK K k G a xs) (v : Same G H) : SqK K k H a xs := by
  cases k
  · exact SqT.same h v
  · exact SqL.same h v
theorem draws_sq {prog : Program} {w : World} {A : Around} (hh : A.handled = none) (k : Bool) (it a : Addr) (hne : a ≠ it) (items : Array Value) :
    Draws prog w A it [it, a] items.size (fun i v => items[i]? = some v) (fun i h => IsSqIter k h it a i ∧ IsSq k h a items) := by
  cases k
  · exact Draws.tuple hh it a hne items
  · exact Draws.list hh it a hne items
theorem begins_sq (k : Bool) (a : Addr) (items : Array Value) : Begins (.ref a) (sqObj k a) fun h => IsSq k h a items := by
  cases k
  · exact begins_tuple a items
  · exact begins_list a items
theorem iter_at {k : Bool} {h : Heap} {it a : Addr} {i : Nat} (st : IsSqIter k h it a i) : ∃ (o : Obj) (fs : Array Value), h.get? it = some o ∧ o.data = .fields fs := by
  cases k <;> exact (let ⟨o, e, _, d⟩ := st; ⟨o, _, e, d⟩)
theorem iter_keep {k : Bool} {h h' : Heap} {it a : Addr} {i : Nat} (st : IsSqIter k h it a i) (c : ∀ o, h.get? it = some o → h'.get? it = some o) : IsSqIter k h' it a i := by
  cases k <;> exact (let ⟨o, e, r⟩ := st; ⟨o, c o e, r⟩)
theorem iter_new {k : Bool} {h : Heap} {it a : Addr} (e : h.get? it = some (sqObj k a)) : IsSqIter k h it a 0 := by
  cases k <;> exact ⟨_, e, rfl, rfl⟩
theorem sq_at {k : Bool} {h : Heap} {a : Addr} {items : Array Value} (st : IsSq k h a items) : ∃ (o : Obj) (n : Nat), h.get? a = some o ∧ o.data = .seq items n := by
  cases k <;> exact (let ⟨o, e, _, n, d⟩ := st; ⟨o, n, e, d⟩)
theorem sq_ne {k k' : Bool} {h : Heap} {it a b : Addr} {i : Nat} {items : Array Value} (q : IsSq k h a items) (st : IsSqIter k' h it b i) : a ≠ it := fun z => by
  obtain ⟨o, n, e, d⟩ := sq_at q
  obtain ⟨o', fs, e', d'⟩ := iter_at st
  rw [z, e'] at e
  cases e
  rw [d] at d'
  cases d'
theorem inv_sq {X : Cx} {pins : List (Addr × Obj)} {σ : L2.St} {H : Hp} {s : Shared} {k : Bool} {a : Addr} {xs : List V} (I : Inv X pins σ H s) (h : SqK X.K k H a xs) : ∃ its : List Value, Vals xs its ∧ IsSq k s.heap a its.toArray ∧ a < s.heap.objs.size := by
  cases k
  · obtain ⟨its, r, p, _⟩ := I.tuple h
    have p' : s.heap.IsTuple a its.toArray := p
    exact ⟨its, r, p', (let ⟨o, e, _⟩ := p'; Heap.lt_size e)⟩
  · obtain ⟨its, r, p, _⟩ := I.list h
    exact ⟨its, r, p.isList, p.lt⟩
theorem inv_inj {X : Cx} {pins : List (Addr × Obj)} {σ : L2.St} {H : Hp} {s : Shared} {k : Bool} {a : Addr} {xs ys : List V} (I : Inv X pins σ H s) (h : SqK X.K k H a xs) (h' : SqK X.K k H a ys) : xs = ys := by
  cases k
  · exact I.tuple_inj h h'
  · exact I.list_inj h h'
/-! ### enumerate -/
set_option maxHeartbeats 1000000 in
theorem meets_enum1 {v : Value} {o : Obj} {H : Heap → Prop} (B : Begins v o H) :
    Meets (Builtin.«enumerate.__new__» ⟨[.type "enumerate", v], []⟩) (fun _ R s => H s.heap ∧
      R (.ok (.ret (.ref (s.heap.push o).objs.size))) { s with heap := (s.heap.push o).push { cls := .type "enumerate", data := .fields #[.none, .bool false, .ref s.heap.objs.size, rawInt 0, .none, .none] } }) :=
  .of_wp fun prog w A R s h => by
    obtain ⟨hp, g, d, tk, os⟩ := s; obtain ⟨h1, h⟩ := h
    have hsub := sub_enumerate
    have q1 : ∀ {A' : Around} {E : Value → Shared → Prop} {Q : Value → Shared → Prop}, Q (.ref hp.objs.size) ⟨hp.push o, g, d, tk, os⟩ → wpAny (model prog w) A' (pyIter v) Q E ⟨hp, g, d, tk, os⟩ :=
      fun q => B.iter prog w _ _ ⟨hp, g, d, tk, os⟩ _ h1 q
    wp_walk using q1
    refine wpAny_stack_any fun st => wpAny_pure ?_
    split
    · rename_i c _ _ _ _ _
      cases (c == Value.type "enumerate")
      · wp_walk using q1
        exact ⟨_, rfl, h⟩
      · wp_walk using q1
        exact ⟨_, rfl, h⟩
    · wp_walk using q1
      exact ⟨_, rfl, h⟩
theorem call_enum1 {prog : Program} {w : World} {A : Around} {E : Value → Shared → Prop} {s : Shared} {v : Value} {o : Obj} {H : Heap → Prop} {Q : Value → Shared → Prop} (B : Begins v o H) (h1 : H s.heap)
    (h : ∀ h', IsEnum h' (s.heap.objs.size + 1) s.heap.objs.size 0 .none → h'.get? s.heap.objs.size = some o → h'.objs.size = s.heap.objs.size + 2 →
      (∀ b o, s.heap.get? b = some o → h'.get? b = some o) → Q (.ref (s.heap.objs.size + 1)) { s with heap := h' }) :
    wpAny (model prog w) A (call (.type "enumerate") [v]) Q E s := by
  refine callType_new F.called_enumerate (by decide) (F.typeCall_enumerate_1 _) (F.newCall_enumerate_1 _) (fun obj => F.args_object_init_2 obj _) F.entry_enumerate_new
    (meets_enum1 B) ⟨h1, ?_⟩
  have hz : (s.heap.push o).objs.size = s.heap.objs.size + 1 := Heap.size_push ..
  show _ ∧ _
  rw [hz]
  have he : IsEnum ((s.heap.push o).push { cls := .type "enumerate", data := .fields #[.none, .bool false, .ref s.heap.objs.size, rawInt 0, .none, .none] }) (s.heap.objs.size + 1) s.heap.objs.size 0 .none := by
    have := Heap.get?_push_size (s.heap.push o) (o := { cls := .type "enumerate", data := .fields #[.none, .bool false, .ref s.heap.objs.size, rawInt 0, .none, .none] }) rfl
    rw [hz] at this; exact this
  refine ⟨⟨_, he, rfl⟩, h _ he (Heap.get?_push_of_some _ (Heap.get?_push_size _ B.free)) (by rw [Heap.size_push, hz]) fun b o x => Heap.get?_push_of_some _ (Heap.get?_push_of_some _ x)⟩
theorem wpAny_pyNext_enum_endDK {prog : Program} {w : World} {A : Around} {E : Value → Shared → Prop} {s : Shared} {e it l : Addr} {i : Nat} {c : Int} {items : Array Value} {old : Value} {Q : Option Value → Shared → Prop} (hh : A.handled = none)
    (he : IsEnum s.heap e it c old) (hit : s.heap.IsTupleIter it l i) (hl : s.heap.IsTuple l items) (hx : items[i]? = none)
    (hQ : ∀ h', Heap.ExtBut it s.heap h' → Q none { s with heap := h' }) : wpAny (model prog w) A (pyNext (.ref e)) Q E s := by
  have hT : s.TypeIs (.ref e) "enumerate" := ⟨_, he, rfl⟩
  unfold pyNext
  refine wpAny_bind (wpAny_attempt (wpAny_callSpecial?_slot (name := Str.ofString "__next__") hT F.slot_enumerate_next
    (wpAny_call_entry F.slot_enumerate_next hT F.entry_enumerate_next ?_ (F.args_enumerate_next_1 _))))
  show wpAny _ _ (field (.ref e) 2 >>= _) _ _ _
  refine wpAny_bind (wpAny_field he rfl (x := .ref it) rfl ?_)
  refine wpAny_bind (wpAny_nextOf_tuple_end hh hit hl hx fun h' x he' hx' => ?_)
  obtain ⟨o, ho, hc⟩ := hx'
  refine wpAny_bind (wpAny_isInstance (T := "StopIteration") (b := true) ⟨o, ho, hc⟩ isSubtype_stop ?_)
  exact wpAny_pure (hQ _ he')
/-- a new pair at a turn -/
def ItK2 (go : Nat → Hp → Prop) (at_ : Nat → Hp → V → V → Prop) (stop : Nat → Hp → Prop) : It :=
  ⟨go, fun i H v H' => ∃ T x y, v = .ref T ∧ H T = none ∧ H' = upd H T (.tup [x, y]) ∧ at_ i H x y, stop⟩
def IteK (K : PySem.W.Frag) (k : Bool) (a : Addr) : It :=
  ItK2 (fun i H => ∃ (xs : List V) (x : V), SqK K k H a xs ∧ xs[i]? = some x) (fun i H x y => x = .int (i : Nat) ∧ ∀ xs, SqK K k H a xs → xs[i]? = some y) (fun i H => ∃ xs : List V, SqK K k H a xs ∧ xs.length ≤ i)
theorem enum_ne {h : Heap} {e it : Addr} {i : Int} {old : Value} {k : Bool} {a : Addr} {items : Array Value} (he : IsEnum h e it i old) (q : IsSq k h a items) : e ≠ a := fun z => by
  obtain ⟨o, n, e', d⟩ := sq_at q
  have he' : h.get? e = some _ := he
  rw [← z, he'] at e'
  cases e'
  cases d
theorem turn_enumK {P : Program} {w : World} {K : PySem.W.Frag} {elts : List Expr} {kk : Nat} {tpos : Pos} (k : Bool) (a e it : Addr) :
    Turn P w K (.Tuple elts kk tpos) (IteK K k a) [e, it] e (fun i h => (∃ old, IsEnum h e it ((i : Nat) : Int) old) ∧ IsSqIter k h it a i ∧ e ≠ it) where
  mem := by simp
  obj := fun i h st b hb => by
    obtain ⟨⟨old, he⟩, hi, _⟩ := st
    obtain ⟨o, fs, ho, hd⟩ := iter_at hi
    have e' : b = e ∨ b = it := by simpa using hb
    rcases e' with z | z
    · rw [z]; exact ⟨_, he, fun v q => nomatch q⟩
    · rw [z]; exact ⟨o, ho, fun v q => by rw [hd] at q; cases q⟩
  keep := fun i h h' st c => let ⟨⟨old, he⟩, hi, hne⟩ := st; ⟨⟨old, c e (by simp) _ he⟩, iter_keep hi fun o q => c it (by simp) o q, hne⟩
  item := by
    intro X hP hw hK hc i pins s σ H E I hf st hg
    subst hP hw hK
    obtain ⟨⟨old, he⟩, hit, hne⟩ := st
    obtain ⟨xs, x, hq, hx⟩ := hg
    obtain ⟨its, rv, p, hlt⟩ := inv_sq I hq
    obtain ⟨u, hu, ru⟩ := rv.get hx
    have hel : e < s.heap.objs.size := Heap.lt_size (show s.heap.get? e = some _ from he)
    have hil : it < s.heap.objs.size := by obtain ⟨_, _, q, _⟩ := iter_at hit; exact Heap.lt_size q
    have Gs := GoesN.enumFrom (elts := elts) (x1 := kk) (pos := tpos) 0 (draws_sq (prog := X.prog) (w := X.w) (A := X.A.in1) (show X.A.in1.handled = none from I.ok.hd hc) k it a (sq_ne p hit) its.toArray) e hne (by
      intro hm
      rcases List.mem_cons.mp hm with z | z
      · exact hne z
      · exact enum_ne he p (List.mem_singleton.mp z)) (by simp)
    have hil2 : i < its.toArray.size := by
      have := (List.getElem?_eq_some_iff.mp hu).1
      simpa using this
    refine Gs.goes i s _ E hil2 ⟨⟨old, by rw [Int.zero_add]; exact he⟩, hit, p⟩ fun v h' tk Y st' hk htk => ?_
    obtain ⟨T, t, y, rfl, hTn, hy, hT⟩ := Y
    obtain ⟨⟨old', he'⟩, hit', _⟩ := st'
    have ey : y = u := by
      have h3 : its.toArray[i]? = some u := by simpa using hu
      rw [hy] at h3
      exact Option.some.inj h3
    subst ey
    have new : ObjOk X.prog X.w (upd H T (.tup [.int (i : Nat), x])) h' T (.tup [.int (i : Nat), x]) :=
      ⟨by show 2 ≤ sizeLine; decide, [.int (0 + (i : Int)) t, y], .cons ⟨t, by rw [Int.zero_add]⟩ (.cons ru .nil), hT⟩
    have I1 : Inv X pins σ (upd H T (.tup [.int (i : Nat), x])) { s with heap := h', toks := tk } := I.turnedNew (ch := [e, it]) hk hf hTn new
    refine ⟨.ref T, _, I1, rfl, ⟨T, _, x, rfl, I.hok.fresh hTn, rfl, rfl, fun ys hy => by rw [inv_inj I hy hq]; exact hx⟩, ⟨⟨old', ?_⟩, hit', hne⟩, fun b hb => ?_⟩
    · rw [Int.zero_add] at he'
      exact he'
    · have hb' : b < s.heap.objs.size := by
        have e' : b = e ∨ b = it := by simpa using hb
        rcases e' with z | z
        · rw [z]; exact hel
        · rw [z]; exact hil
      rw [upd_ne (Nat.ne_of_lt (Nat.lt_of_lt_of_le hb' hTn))]
      exact (hf b hb).1
  done := by
    intro X hP hw hK hc i pins s σ H E I hf st hg
    subst hP hw hK
    obtain ⟨⟨old, he⟩, hit, hne⟩ := st
    obtain ⟨xs, hq, hx⟩ := hg
    obtain ⟨its, rv, p, hlt⟩ := inv_sq I hq
    have hl := rv.length
    cases k
    · refine wpAny_pyNext_enum_endDK (I.ok.hd hc) he hit p (by simp; omega) fun h' eb => ⟨rfl, ?_⟩
      obtain ⟨f0, f1, f2, f3, f4, f5⟩ := hf it (by simp)
      exact I.turned (t' := s.toks) (fun b o hb q => eb b o hb q) f0 f1 f3 f4 f5
    · refine wpAny_pyNext_enum_end (I.ok.hd hc) he hit p (by simp; omega) fun h' eb => ⟨rfl, ?_⟩
      obtain ⟨f0, f1, f2, f3, f4, f5⟩ := hf it (by simp)
      exact I.turned (t' := s.toks) (fun b o hb q => eb b o hb q) f0 f1 f3 f4 f5
  self := fun A i s Q E st h => let ⟨⟨_, he⟩, _⟩ := st; wpAny_pyIter_enum he h
/-! ### what is walked -/
def SqA (K : PySem.W.Frag) (H : Hp) (a : Addr) (xs : List V) : Prop := SqL K H a xs ∨ SqT K H a xs
theorem SqA.same {K : PySem.W.Frag} {G H : Hp} {a : Addr} {xs : List V} (h : SqA K G a xs) (v : Same G H) : SqA K H a xs := h.imp (fun z => SqL.same z v) (fun z => SqT.same z v)
theorem SqA.k {K : PySem.W.Frag} {H : Hp} {a : Addr} {xs : List V} (h : SqA K H a xs) : ∃ k, SqK K k H a xs := by
  rcases h with h | h
  · exact ⟨true, h⟩
  · exact ⟨false, h⟩
def iSq (K : PySem.W.Frag) (tl : TE) : TI := fun σ H R => tl σ H fun x H1 => ∃ a xs G, x = .ref a ∧ SqA K G a xs ∧ Same G H1 ∧ ∀ J, Walk J xs.length (Same G) (YAt xs) → R J H1
theorem pi_sq {X : Cx} {tg : Expr} {l : Expr} {tl : TE} (hl : PE X l tl) : PI X tg l (iSq X.K tl) := by
  refine ⟨fun pins s σ H R I h => ?_⟩
  refine thn (hl.run pins s σ H _ I h) fun v s1 ⟨x, H1, I1, r1, q1⟩ => ?_
  obtain ⟨a, xs, G, e, hq, hv, q⟩ := q1
  subst e
  cases r1
  rcases hq with hq | hq
  · obtain ⟨its, rv, p, hz⟩ := I1.list (SqL.same hq hv)
    refine wpAny_pyIter_list p.isList ?_
    refine ⟨s1.heap.objs.size, [s1.heap.objs.size], _, _, H1, rfl, I1.kept (t' := s1.toks) fun b o e => Heap.get?_push_of_some _ e, turn_list a _, ⟨_, Heap.get?_push_size _ rfl, rfl, rfl⟩, fun b hb => ?_, q _ (walk_list.mono (fun H x => SqL.same hq x) fun _ _ _ _ _ _ y => y)⟩
    have e : b = s1.heap.objs.size := by simpa using hb
    subst e
    exact I1.fpOk (Nat.le_refl _) (I1.hok.fresh (Nat.le_refl _))
  · obtain ⟨its, rv, p, hz⟩ := I1.tuple (SqT.same hq hv)
    refine wpAny_pyIter_tuple (show s1.heap.IsTuple a its.toArray from p) ?_
    refine ⟨s1.heap.objs.size, [s1.heap.objs.size], _, _, H1, rfl, I1.kept (t' := s1.toks) fun b o e => Heap.get?_push_of_some _ e, turn_tuple a _, ⟨_, Heap.get?_push_size _ rfl, rfl, rfl⟩, fun b hb => ?_, q _ (walk_tup.mono (fun H x => SqT.same hq x) fun _ _ _ _ _ _ y => y)⟩
    have e : b = s1.heap.objs.size := by simpa using hb
    subst e
    exact I1.fpOk (Nat.le_refl _) (I1.hok.fresh (Nat.le_refl _))
theorem walk_enumK {K : PySem.W.Frag} {k : Bool} {a : Addr} {xs : List V} : Walk (IteK K k a) xs.length (fun H => SqK K k H a xs) (YPair (fun i => some (.int (i : Nat))) (fun i => xs[i]?)) := by
  refine ⟨fun i _ hi q => ⟨xs, xs[i], q, by simp [hi]⟩, fun _ q => ⟨xs, q, Nat.le_refl _⟩, fun i H v H' _ q y => ?_⟩
  obtain ⟨T, x, y, h1, h2, h3, h4, h5⟩ := y
  exact ⟨T, x, y, h1, h2, h3, by rw [h4], h5 xs q⟩
def iEnumQ (K : PySem.W.Frag) (ta : TA) : TI := fun σ H R => ta σ H fun vs H1 => ∃ a xs G, vs = [.ref a] ∧ SqA K G a xs ∧ Same G H1 ∧ ∀ J, Walk J xs.length (Same G) (YPair (fun i => some (.int (i : Nat))) (fun i => xs[i]?)) → R J H1
theorem pi_enumQ {X : Cx} {e : Expr} {ta : TA} {p pos tpos : Pos} {elts : List Expr} {kk : Nat} (hg : Gl X "enumerate") (hm : X.mg "enumerate" = none) (ha : PA X [e] ta) (hs : starEach [e] X.env = [(false, eval e X.env)] := by rfl) :
    PI X (.Tuple elts kk tpos) (.Call (.Name "enumerate" p) [e] [] pos) (iEnumQ X.K ta) := by
  refine ⟨fun pins s σ H R I h => ?_⟩
  refine Call_ (ld_blt I hg hm boot_enumerate (PyProof.Rows.callWith_type1 (thn (ha.run pos pins s σ H _ I h) fun us s1 ⟨vs, H1, I1, r1, q1⟩ => ?_) hs rfl))
  obtain ⟨a, xs, G, ex, hq, hv, q⟩ := q1
  subst ex
  cases r1 with
  | cons r rr =>
    cases rr
    cases r
    obtain ⟨k, hk⟩ := hq.k
    obtain ⟨its, rv, p', hz⟩ := inv_sq I1 (SqK.same hk hv)
    refine call_enum1 (begins_sq k a its.toArray) p' fun h' he hit hsz hk' => wpAny_pyIter_enum he ?_
    have I2 : Inv X pins σ H1 { s1 with heap := h' } := I1.kept (t' := s1.toks) hk'
    refine ⟨s1.heap.objs.size + 1, [s1.heap.objs.size + 1, s1.heap.objs.size], _, _, H1, rfl, I2, turn_enumK k a (s1.heap.objs.size + 1) s1.heap.objs.size, ⟨⟨.none, he⟩, iter_new hit, Nat.succ_ne_self _⟩, fun b hb => ?_, q _ (walk_enumK.mono (fun H x => SqK.same hk x) fun _ _ _ _ _ _ y => y)⟩
    have e' : b = s1.heap.objs.size + 1 ∨ b = s1.heap.objs.size := by simpa using hb
    have hle : s1.heap.objs.size ≤ b := by
      rcases e' with z | z
      · rw [z]; exact Nat.le_add_right _ _
      · rw [z]; exact Nat.le_refl _
    exact I1.fpOk hle (I1.hok.fresh hle)
/-! ### zip of two -/
def ItzK (K : PySem.W.Frag) (k l : Bool) (a b : Addr) : It :=
  ItK2 (fun i H => ∃ (xs ys : List V) (x y : V), SqK K k H a xs ∧ SqK K l H b ys ∧ xs[i]? = some x ∧ ys[i]? = some y) (fun i H x y => (∀ xs, SqK K k H a xs → xs[i]? = some x) ∧ ∀ ys, SqK K l H b ys → ys[i]? = some y)
    (fun i H => ∃ xs ys : List V, SqK K k H a xs ∧ SqK K l H b ys ∧ i = min xs.length ys.length)
structure ZA (z TI TO i1 i2 : Addr) : Prop where
  a1 : TI ≠ z
  a2 : TO ≠ z
  a3 : TI ≠ TO
  a4 : TI ≠ i1
  a5 : TI ≠ i2
  a6 : z ≠ i1
  a7 : z ≠ i2
  a8 : TO ≠ i1
  a9 : TO ≠ i2
  aa : i1 ≠ i2
theorem zip_ne {h : Heap} {z TI TO x : Addr} {o : Option Obj} {k : Bool} {a : Addr} {items : Array Value} {w : Value} (he : IsZip h z TI TO w) (q : IsSq k h a items) : z ≠ a := fun y => by
  obtain ⟨o, n, e', d⟩ := sq_at q
  have he' : h.get? z = some _ := he
  rw [← y, he'] at e'
  cases e'
  cases d
theorem zsep {h : Heap} {z TI TO i1 i2 a b : Addr} {i : Nat} {k l : Bool} {it1 it2 : Array Value} {w x y : Value} (Z : ZA z TI TO i1 i2) (hz : IsZip h z TI TO w) (hTO : IsTupOf2 h TO x y) (h1 : IsSqIter k h i1 a i) (h2 : IsSqIter l h i2 b i) (q1 : IsSq k h a it1) (q2 : IsSq l h b it2) (na : TO ≠ a) (nb : TO ≠ b) :
    ZipSep2 z TI TO i1 i2 [i1, a] [i2, b] := by
  have z1 := zip_ne (x := a) (o := none) hz q1
  have z2 := zip_ne (x := a) (o := none) hz q2
  have n1 := sq_ne q1 h1
  have n2 := sq_ne q1 h2
  have n3 := sq_ne q2 h1
  have n4 := sq_ne q2 h2
  refine { TIz := Z.a1, TOz := Z.a2, TITO := Z.a3, TIi1 := Z.a4, mem1 := by simp, zf1 := ?_, Tf1 := ?_, TIi2 := Z.a5, mem2 := by simp, zf2 := ?_, Tf2 := ?_, sep1_2 := ?_, sep2_1 := ?_ }
  · simp [Z.a6, z1]
  · simp [Z.a8, na]
  · simp [Z.a7, z2]
  · simp [Z.a9, nb]
  · simp [Z.aa, n3.symm]
  · simp [Z.aa.symm, n2.symm]
theorem turn_zipK {P : Program} {w : World} {K : PySem.W.Frag} {elts : List Expr} {kk : Nat} {tpos : Pos} (k l : Bool) (a b z TI TO i1 i2 : Addr) (Z : ZA z TI TO i1 i2) (na : TO ≠ a) (nb : TO ≠ b) :
    Turn P w K (.Tuple elts kk tpos) (ItzK K k l a b) [z, TI, TO, i1, i2] z (fun i h => IsZip h z TI TO .none ∧ IsTupOf2 h TI (.ref i1) (.ref i2) ∧ (∃ x y, IsTupOf2 h TO x y) ∧ IsSqIter k h i1 a i ∧ IsSqIter l h i2 b i) where
  mem := by simp
  obj := fun i h st c hc => by
    obtain ⟨hz, hTI, ⟨x, y, hTO⟩, h1, h2⟩ := st
    obtain ⟨o1, f1, e1, d1⟩ := iter_at h1
    obtain ⟨o2, f2, e2, d2⟩ := iter_at h2
    have e' : c = z ∨ c = TI ∨ c = TO ∨ c = i1 ∨ c = i2 := by simpa using hc
    rcases e' with q | q | q | q | q
    · rw [q]; exact ⟨_, hz, fun v q => nomatch q⟩
    · rw [q]; exact ⟨_, hTI, fun v q => nomatch q⟩
    · rw [q]; exact ⟨_, hTO, fun v q => nomatch q⟩
    · rw [q]; exact ⟨o1, e1, fun v q => by rw [d1] at q; cases q⟩
    · rw [q]; exact ⟨o2, e2, fun v q => by rw [d2] at q; cases q⟩
  keep := fun i h h' st c => by
    obtain ⟨hz, hTI, ⟨x, y, hTO⟩, h1, h2⟩ := st
    exact ⟨c z (by simp) _ hz, c TI (by simp) _ hTI, ⟨x, y, c TO (by simp) _ hTO⟩, iter_keep h1 fun o q => c i1 (by simp) o q, iter_keep h2 fun o q => c i2 (by simp) o q⟩
  item := by
    intro X hP hw hK hc i pins s σ H E I hf st hg
    subst hP hw hK
    obtain ⟨hz, hTI, ⟨x0, y0, hTO⟩, h1, h2⟩ := st
    obtain ⟨xs, ys, x, y, hqx, hqy, hx, hy⟩ := hg
    obtain ⟨its, rv, p, _⟩ := inv_sq I hqx
    obtain ⟨its2, rv2, p2, _⟩ := inv_sq I hqy
    obtain ⟨u, hu, ru⟩ := rv.get hx
    obtain ⟨u2, hu2, ru2⟩ := rv2.get hy
    have hh : X.A.in1.handled = none := I.ok.hd hc
    have Gs := GoesN.zip2 (A := X.A) (elts := elts) (x1 := kk) (pos := tpos) (zsep Z hz hTO h1 h2 p p2 na nb) (draws_sq (prog := X.prog) (w := X.w) hh k i1 a (sq_ne p h1) its.toArray) (draws_sq (prog := X.prog) (w := X.w) hh l i2 b (sq_ne p2 h2) its2.toArray)
    have hi1 : i < its.toArray.size := by have := (List.getElem?_eq_some_iff.mp hu).1; simpa using this
    have hi2 : i < its2.toArray.size := by have := (List.getElem?_eq_some_iff.mp hu2).1; simpa using this
    refine Gs.goes i s _ E (by omega) ⟨hz, hTI, ⟨x0, y0, hTO⟩, ⟨h1, p⟩, ⟨h2, p2⟩⟩ fun v h' tk Y st' hk htk => ?_
    obtain ⟨T, v1, v2, rfl, hTn, e1, e2, hT⟩ := Y
    obtain ⟨hz', hTI', hTO', ⟨h1', _⟩, ⟨h2', _⟩⟩ := st'
    have q1 : v1 = u := by
      have h3 : its.toArray[i]? = some u := by simpa using hu
      rw [e1] at h3
      exact Option.some.inj h3
    have q2 : v2 = u2 := by
      have h3 : its2.toArray[i]? = some u2 := by simpa using hu2
      rw [e2] at h3
      exact Option.some.inj h3
    subst q1 q2
    have new : ObjOk X.prog X.w (upd H T (.tup [x, y])) h' T (.tup [x, y]) := ⟨by show 2 ≤ sizeLine; decide, [v1, v2], .cons ru (.cons ru2 .nil), hT⟩
    have I1 : Inv X pins σ (upd H T (.tup [x, y])) { s with heap := h', toks := tk } := I.turnedNew (ch := [z, TI, TO, i1, i2]) (fun c o hb q => hk c o (fun m => hb (by
      have e' : c = z ∨ c = TO ∨ c = i1 ∨ c = i2 := by simpa using m
      rcases e' with q | q | q | q <;> simp [q])) q) hf hTn new
    refine ⟨.ref T, _, I1, rfl, ⟨T, x, y, rfl, I.hok.fresh hTn, rfl, fun ys hy => by rw [inv_inj I hy hqx]; exact hx, fun zs hz => by rw [inv_inj I hz hqy]; exact hy⟩, ⟨hz', hTI', hTO', h1', h2'⟩, fun c hcm => ?_⟩
    have hlt : c < s.heap.objs.size := by
      have e' : c = z ∨ c = TI ∨ c = TO ∨ c = i1 ∨ c = i2 := by simpa using hcm
      rcases e' with q | q | q | q | q
      · rw [q]; exact Heap.lt_size (show s.heap.get? z = some _ from hz)
      · rw [q]; exact Heap.lt_size hTI
      · rw [q]; exact Heap.lt_size hTO
      · rw [q]; obtain ⟨_, _, e1, _⟩ := iter_at h1; exact Heap.lt_size e1
      · rw [q]; obtain ⟨_, _, e2, _⟩ := iter_at h2; exact Heap.lt_size e2
    rw [upd_ne (Nat.ne_of_lt (Nat.lt_of_lt_of_le hlt hTn))]
    exact (hf c hcm).1
  done := by
    intro X hP hw hK hc i pins s σ H E I hf st hg
    subst hP hw hK
    obtain ⟨hz, hTI, ⟨x0, y0, hTO⟩, h1, h2⟩ := st
    obtain ⟨xs, ys, hqx, hqy, hend⟩ := hg
    obtain ⟨its, rv, p, _⟩ := inv_sq I hqx
    obtain ⟨its2, rv2, p2, _⟩ := inv_sq I hqy
    have l1 := rv.length
    have l2 := rv2.length
    have hh : X.A.in1.handled = none := I.ok.hd hc
    have Gs := GoesN.zip2 (A := X.A) (elts := elts) (x1 := kk) (pos := tpos) (zsep Z hz hTO h1 h2 p p2 na nb) (draws_sq (prog := X.prog) (w := X.w) hh k i1 a (sq_ne p h1) its.toArray) (draws_sq (prog := X.prog) (w := X.w) hh l i2 b (sq_ne p2 h2) its2.toArray)
    have ei : min its.toArray.size its2.toArray.size = i := by simp; omega
    rw [ei] at Gs
    refine wpAny_mono (Gs.stops s (fun s1 => Inv X pins σ H s1) E ⟨hz, hTI, ⟨x0, y0, hTO⟩, ⟨h1, p⟩, ⟨h2, p2⟩⟩ fun h' tk hk htk => I.turnedL (ch := [z, TI, TO, i1, i2]) (fun c o hb q => hk c o (fun m => hb (by
      have e' : c = z ∨ c = TO ∨ c = i1 ∨ c = i2 := by simpa using m
      rcases e' with q | q | q | q <;> simp [q])) q) hf) (fun _ _ z => z) fun _ _ z => z
  self := fun A i s Q E st h => wpAny_pyIter_zip st.1 h
theorem walk_zipK {K : PySem.W.Frag} {k l : Bool} {a b : Addr} {xs ys : List V} : Walk (ItzK K k l a b) (min xs.length ys.length) (fun H => SqK K k H a xs ∧ SqK K l H b ys) (YPair (fun i => xs[i]?) (fun i => ys[i]?)) := by
  refine ⟨fun i _ hi q => ?_, fun _ q => ⟨xs, ys, q.1, q.2, rfl⟩, fun i H v H' _ q y => ?_⟩
  · have h1 : i < xs.length := by omega
    have h2 : i < ys.length := by omega
    exact ⟨xs, ys, xs[i], ys[i], q.1, q.2, by simp [h1], by simp [h2]⟩
  · obtain ⟨T, x, y, h1, h2, h3, h4, h5⟩ := y
    exact ⟨T, x, y, h1, h2, h3, h4 xs q.1, h5 ys q.2⟩
def iZipQ (K : PySem.W.Frag) (ta : TA) : TI := fun σ H R => ta σ H fun vs H1 => ∃ a b xs ys G, vs = [.ref a, .ref b] ∧ SqA K G a xs ∧ SqA K G b ys ∧ Same G H1 ∧ ∀ J, Walk J (min xs.length ys.length) (Same G) (YPair (fun i => xs[i]?) (fun i => ys[i]?)) → R J H1
theorem pi_zipQ {X : Cx} {e e2 : Expr} {ta : TA} {p pos tpos : Pos} {elts : List Expr} {kk : Nat} (hg : Gl X "zip") (hm : X.mg "zip" = none) (ha : PA X [e, e2] ta)
    (hs : starEach [e, e2] X.env = (false, eval e X.env) :: starEach [e2] X.env := by rfl) (hpl : (backTo pos (starEach [e2] X.env)).any (·.1) = false := by rfl) :
    PI X (.Tuple elts kk tpos) (.Call (.Name "zip" p) [e, e2] [] pos) (iZipQ X.K ta) := by
  refine ⟨fun pins s σ H R I h => ?_⟩
  refine Call_ (ld_blt I hg hm PyProof.Rows.boot_zip (PyProof.Rows.callWith_type1 (thn (ha.run pos pins s σ H _ I h) fun us s1 ⟨vs, H1, I1, r1, q1⟩ => ?_) hs hpl))
  obtain ⟨a, b, xs, ys, G, ex, hqx, hqy, hv, q⟩ := q1
  subst ex
  cases r1 with
  | cons r rr =>
    cases rr with
    | cons r' rr =>
      cases rr
      cases r
      cases r'
      obtain ⟨k, hk⟩ := hqx.k
      obtain ⟨l, hl⟩ := hqy.k
      obtain ⟨its, rv, p1, la⟩ := inv_sq I1 (SqK.same hk hv)
      obtain ⟨its2, rv2, p2, lb⟩ := inv_sq I1 (SqK.same hl hv)
      refine zip_begins2 (begins_sq k a its.toArray) (begins_sq l b its2.toArray) p1 p2 fun h' hz hTI hTO h1 h2 hsz hk' => wpAny_pyIter_zip hz ?_
      have I2 : Inv X pins σ H1 { s1 with heap := h' } := I1.kept (t' := s1.toks) hk'
      have la' : (a : Nat) < s1.heap.objs.size := la
      have lb' : (b : Nat) < s1.heap.objs.size := lb
      refine ⟨s1.heap.objs.size + 4, [s1.heap.objs.size + 4, s1.heap.objs.size + 2, s1.heap.objs.size + 3, s1.heap.objs.size, s1.heap.objs.size + 1], _, _, H1, rfl, I2,
        turn_zipK k l a b (s1.heap.objs.size + 4) (s1.heap.objs.size + 2) (s1.heap.objs.size + 3) s1.heap.objs.size (s1.heap.objs.size + 1)
          ⟨show (s1.heap.objs.size + 2 : Nat) ≠ s1.heap.objs.size + 4 by omega, show (s1.heap.objs.size + 3 : Nat) ≠ s1.heap.objs.size + 4 by omega, show (s1.heap.objs.size + 2 : Nat) ≠ s1.heap.objs.size + 3 by omega, show (s1.heap.objs.size + 2 : Nat) ≠ s1.heap.objs.size by omega,
            show (s1.heap.objs.size + 2 : Nat) ≠ s1.heap.objs.size + 1 by omega, show (s1.heap.objs.size + 4 : Nat) ≠ s1.heap.objs.size by omega, show (s1.heap.objs.size + 4 : Nat) ≠ s1.heap.objs.size + 1 by omega, show (s1.heap.objs.size + 3 : Nat) ≠ s1.heap.objs.size by omega,
            show (s1.heap.objs.size + 3 : Nat) ≠ s1.heap.objs.size + 1 by omega, show (s1.heap.objs.size : Nat) ≠ s1.heap.objs.size + 1 by omega⟩ (Nat.ne_of_gt (Nat.lt_of_lt_of_le la (Nat.le_add_right _ 3))) (Nat.ne_of_gt (Nat.lt_of_lt_of_le lb (Nat.le_add_right _ 3))),
        ⟨hz, hTI, ⟨_, _, hTO⟩, iter_new h1, iter_new h2⟩, fun c hcm => ?_, q _ (walk_zipK.mono (fun H x => ⟨SqK.same hk x, SqK.same hl x⟩) fun _ _ _ _ _ _ y => y)⟩
      have e' : c = s1.heap.objs.size + 4 ∨ c = s1.heap.objs.size + 2 ∨ c = s1.heap.objs.size + 3 ∨ c = s1.heap.objs.size ∨ c = s1.heap.objs.size + 1 := by simpa using hcm
      have hle : s1.heap.objs.size ≤ c := by
        rcases e' with z | z | z | z | z
        · rw [z]; exact Nat.le_add_right _ _
        · rw [z]; exact Nat.le_add_right _ _
        · rw [z]; exact Nat.le_add_right _ _
        · rw [z]; exact Nat.le_refl _
        · rw [z]; exact Nat.le_add_right _ _
      exact I1.fpOk hle (I1.hok.fresh hle)
end XR
set_option Elab.async false
set_option linter.all false
set_option maxRecDepth 100000
set_option maxHeartbeats 4000000
/-! errors of own classes without fields: made by X(), asked when caught -/
namespace XR
open PySem PySem.Spec PyProof.Rows L2
section
variable {X : Cx} {C : Addr} {bmB : List Value} {B newId initId : String}
theorem pmk_own0 {x : Str} {p pos : Pos} (F : ExcBaseFacts B newId initId bmB) (q : PySem.W.excIn X.K C bmB newId = true) (gC : X.mg x = some (.ref C)) (kC : PySem.W.keepIn X.K (.ref C) = true) (r : Raises X (.ref C)) (hg : Gl X x)
    (hdb : (x == ("__debug__" : Str)) = false := by decide) : PMk X (.Call (.Name x p) [] [] pos) (fun _ H Q => Q (.ref C) none H) := by
  intro pins s σ H Q I h
  refine wpAny_Call_Name_kw (ld_glob I hg gC ?_ hdb)
  refine PySem.W.callWith_K0 I.kIn kC ?_
  show wpAny _ _ (call (.ref C) []) _ _ _
  obtain ⟨bm, N, nm, qn, bs, hdct, sn, sub, ab, col, dd, k0, k1, k2, k3, k5, mN, hC, hN, hni, T⟩ := exc_obj I.kIn q
  refine wpAny_call_exc_subT F T hC hN hni (fun h' e hm => ?_) (by show 0 ≤ sizeLine; exact Nat.zero_le _)
  exact mk_of I hm r h (I.hok.gone hm.new)
end
section
variable {X : Cx} {a : Addr} {oe : Obj} {cls : Value} {d : Option Addr}
theorem pinned_none {pins : List (Addr × Obj)} {s : Shared} {σ : L2.St} {H : Hp} {D : Addr}
    (hp : (a, oe) ∈ X.pn) (hz : Zc (.ref D) none oe) (hf : ∃ vs, oe.data = .fields vs) (I : Inv X pins σ H s) : PySem.W.InstAt s.heap a oe D none := by
  have at_ := (I.pin (a, oe) (List.mem_append_left _ hp)).1
  obtain ⟨vs, hv⟩ := hf
  obtain ⟨oc, od, oda, osl⟩ := oe
  obtain ⟨h1, h2⟩ := hz
  dsimp only at h1 h2 hv
  subst h1 h2 hv
  exact ⟨at_, rfl, rfl, trivial⟩
def rIsN (K : PySem.W.Frag) (cls : Value) (d : Option Addr) (a : Addr) : List V → Hp → VK → Prop := fun xs H Q =>
  ∃ (D : Addr) (c : V) (cv : Value) (b : Bool), cls = .ref D ∧ d = none ∧ Asks K D ∧ xs = [.ref a, c] ∧ ClsV c cv ∧ PySem.W.kitOne K (.ref D) cv = some b ∧ Q (.bl b) H
def rIsNT (K : PySem.W.Frag) (cls : Value) (d : Option Addr) (a : Addr) : List V → Hp → VK → Prop := fun xs H Q =>
  ∃ (D tp : Addr) (cs : List V) (us : List Value) (b : Bool), cls = .ref D ∧ d = none ∧ Asks K D ∧ xs = [.ref a, .ref tp] ∧ H tp = some (.tup cs) ∧ Paired ClsV cs us ∧ PySem.W.kitAny K (.ref D) us = some b ∧ Q (.bl b) H
theorem call_isN (hp : (a, oe) ∈ X.pn) (hz : Zc cls d oe) (hf : ∃ vs, oe.data = .fields vs) : CallR X (.builtin "isinstance") (rIsN X.K cls d a) := by
  intro pins s σ H xs us Q I r h
  obtain ⟨D, c, cv, b, rfl, rfl, as, rfl, kc, ek, q⟩ := h
  obtain ⟨u1, u2, rfl, r1, r2⟩ := vals2 r
  obtain rfl : u1 = Value.ref a := r1
  obtain rfl := kc.eq r2
  have J := pinned_none hp hz hf I
  exact PySem.W.kia_one (PySem.W.handS_kitx_exc as.hg as.hk as.hs as.hd as.ha as.hn as.ht as.hm) I.kIn J ek (fun z => nomatch z) fun tk => ⟨.bl b, H, I.tok tk, rfl, q⟩
theorem call_isNT (hp : (a, oe) ∈ X.pn) (hz : Zc cls d oe) (hf : ∃ vs, oe.data = .fields vs) : CallR X (.builtin "isinstance") (rIsNT X.K cls d a) := by
  intro pins s σ H xs us Q I r h
  obtain ⟨D, tp, cs, ws, b, rfl, rfl, as, rfl, hT, kc, ek, q⟩ := h
  obtain ⟨u1, u2, rfl, r1, r2⟩ := vals2 r
  obtain rfl : u1 = Value.ref a := r1
  obtain rfl : u2 = Value.ref tp := r2
  have J := pinned_none hp hz hf I
  have okT : ObjOk X.prog X.w H s.heap tp (.tup cs) := I.hok tp _ hT
  obtain ⟨_, its, rv, ⟨oc, od2, dt, sl⟩, h1, h2, n, h3⟩ := okT
  dsimp only at h2 h3
  subst h2 h3
  obtain rfl := ClsV.all kc rv
  exact PySem.W.kia_tup (PySem.W.handS_kitx_exc as.hg as.hk as.hs as.hd as.ha as.hn as.ht as.hm) I.kIn J h1 ek (fun z => nomatch z) fun tk => ⟨.bl b, H, I.tok tk, rfl, q⟩
/-- with fields or without -/
def rIsA (K : PySem.W.Frag) (cls : Value) (d : Option Addr) (a : Addr) : List V → Hp → VK → Prop := fun xs H Q => rIsP K cls d a xs H Q ∨ rIsN K cls d a xs H Q
def rIsAT (K : PySem.W.Frag) (cls : Value) (d : Option Addr) (a : Addr) : List V → Hp → VK → Prop := fun xs H Q => rIsPT K cls d a xs H Q ∨ rIsNT K cls d a xs H Q
theorem call_isA (hp : (a, oe) ∈ X.pn) (hz : Zc cls d oe) (hf : ∃ vs, oe.data = .fields vs) : CallR X (.builtin "isinstance") (rIsA X.K cls d a) := by
  intro pins s σ H xs us Q I r h
  rcases h with h | h
  · exact call_isP hp hz hf pins s σ H xs us Q I r h
  · exact call_isN hp hz hf pins s σ H xs us Q I r h
theorem call_isAT (hp : (a, oe) ∈ X.pn) (hz : Zc cls d oe) (hf : ∃ vs, oe.data = .fields vs) : CallR X (.builtin "isinstance") (rIsAT X.K cls d a) := by
  intro pins s σ H xs us Q I r h
  rcases h with h | h
  · exact call_isPT hp hz hf pins s σ H xs us Q I r h
  · exact call_isNT hp hz hf pins s σ H xs us Q I r h
end
section
variable {X : Cx} {a b : Addr} {oe : Obj} {cls : Value} {d : Option Addr} {pn : List (Addr × Obj)}
theorem call_isAs (hz : Zc cls d oe) (hf : ∃ vs, oe.data = .fields vs) : CallR (X.suite b ((a, oe) :: pn)) (.builtin "isinstance") (rIsA X.K cls d a) := call_isA List.mem_cons_self hz hf
theorem call_isATs (hz : Zc cls d oe) (hf : ∃ vs, oe.data = .fields vs) : CallR (X.suite b ((a, oe) :: pn)) (.builtin "isinstance") (rIsAT X.K cls d a) := call_isAT List.mem_cons_self hz hf
end
/-! ### min and max of a list or a tuple of ints -/
section
variable {prog : Program} {w : World} {A : Around} {E : Value → Shared → Prop} {s : Shared} {l : Addr} {xs : Array (Int × Tok)}
theorem iter_intTup {Q : Value → Shared → Prop} (hl : s.heap.IsTuple l (intItems xs))
    (h : ∀ s₂ : Shared, s₂ = { s with heap := s.heap.push { cls := .type "tuple_iterator", data := .fields #[.ref l, .int 0 0] } } →
      (s₂.heap.IsTupleIter s.heap.objs.size l 0 ∧ s₂.heap.IsTuple l (intItems xs)) → (∀ b ∈ [s.heap.objs.size, l], b < s₂.heap.objs.size) → l ≠ s.heap.objs.size → Q (.ref s.heap.objs.size) s₂) :
    wpAny (model prog w) A (pyIter (.ref l)) Q E s := by
  have hlt : l < s.heap.objs.size := by obtain ⟨_, e, _⟩ := hl; exact Heap.lt_size e
  refine wpAny_pyIter_tuple hl (h _ rfl ⟨⟨_, Heap.get?_push_size _ rfl, rfl, rfl⟩, ?_⟩ (fun b hb => ?_) (Nat.ne_of_lt hlt))
  · obtain ⟨o, e, r⟩ := hl
    exact ⟨o, Heap.get?_push_of_some _ e, r⟩
  · show b < (s.heap.push _).objs.size
    rw [Heap.size_push]
    rcases List.mem_cons.mp hb with rfl | hb
    · exact Nat.lt_succ_self _
    · rcases List.mem_cons.mp hb with rfl | hb
      · exact Nat.lt_succ_of_lt hlt
      · cases hb
theorem old_keptT {h' : Heap} (hk : ∀ b o, b ∉ [s.heap.objs.size] → (s.heap.push { cls := .type "tuple_iterator", data := .fields #[.ref l, .int 0 0] }).get? b = some o → h'.get? b = some o) :
    ∀ b o, s.heap.get? b = some o → h'.get? b = some o := fun b o e => by
  refine hk b o (fun hm => ?_) (Heap.get?_push_of_some _ e)
  rcases List.mem_cons.mp hm with e1 | hm
  · exact absurd (e1 ▸ Heap.lt_size e) (Nat.lt_irrefl _)
  · cases hm
theorem max_intTup {Q : Value → Shared → Prop} (hh : A.handled = none) (hl : s.heap.IsTuple l (intItems xs)) (hne : 0 < xs.size)
    (h : ∀ v h' tk, (intItems xs)[argBest (fun i j => decide (numAt xs i > numAt xs j)) (xs.size - 1)]? = some v → (∀ b o, s.heap.get? b = some o → h'.get? b = some o) → Q v { s with heap := h', toks := tk }) :
    wpAny (model prog w) A (call (.builtin "max") [.ref l]) Q E s := by
  refine call_max_walk (iter_intTup hl fun s₂ e st hfp hlI => ?_)
  subst e
  refine ⟨_, _, _, _, _, _, _, rfl, Walks.tuple (A := A.in1) hh _ l hlI (intItems xs), st, hfp, by simpa [intItems] using hne, CmpOf.ints_gt (numAt xs) (fun _ _ => intItems_at), fun v h' tk hP hk => ?_⟩
  exact h v h' tk (by simpa [intItems] using hP) (old_keptT hk)
theorem min_intTup {Q : Value → Shared → Prop} (hh : A.handled = none) (hl : s.heap.IsTuple l (intItems xs)) (hne : 0 < xs.size)
    (h : ∀ v h' tk, (intItems xs)[argBest (fun i j => decide (numAt xs i < numAt xs j)) (xs.size - 1)]? = some v → (∀ b o, s.heap.get? b = some o → h'.get? b = some o) → Q v { s with heap := h', toks := tk }) :
    wpAny (model prog w) A (call (.builtin "min") [.ref l]) Q E s := by
  refine call_min_walk (iter_intTup hl fun s₂ e st hfp hlI => ?_)
  subst e
  refine ⟨_, _, _, _, _, _, _, rfl, Walks.tuple (A := A.in1) hh _ l hlI (intItems xs), st, hfp, by simpa [intItems] using hne, CmpOf.ints_lt (numAt xs) (fun _ _ => intItems_at), fun v h' tk hP hk => ?_⟩
  exact h v h' tk (by simpa [intItems] using hP) (old_keptT hk)
end
section
variable {prog : Program} {w : World} {A : Around} {E : Value → Shared → Prop} {s : Shared} {l : Addr} {its : List Value} {ns : List Int} {Q : Value → Shared → Prop}
theorem max_rawT (hh : A.handled = none) (hl : s.heap.IsTuple l its.toArray) (hi : IntsAre its ns) (hne : 0 < ns.length)
    (h : ∀ h' tk M t', (∀ b o, s.heap.get? b = some o → h'.get? b = some o) → M ∈ ns → (∀ a, a ∈ ns → a ≤ M) → Q (.int M t') { s with heap := h', toks := tk }) : wpAny (model prog w) A (call (.builtin "max") [.ref l]) Q E s := by
  obtain ⟨xs, e⟩ := hi.allInts.items
  have hn : numsOf (intItems xs).toList = ns := by rw [← e]; exact hi.numsOf
  rw [nums_intItems] at hn
  subst hn
  rw [e] at hl
  have hsz : 0 < xs.size := by simpa using hne
  refine max_intTup hh hl hsz fun v h' tk hv hk => ?_
  obtain ⟨t, rfl⟩ := intItems_at hv
  obtain ⟨h1, h2⟩ := argBest_gt (numAt xs) (xs.size - 1)
  refine h h' tk _ t hk ?_ fun a ha => ?_
  · rw [numAt_eq]; exact PySem.getD_mem (by rw [List.length_map, Array.length_toList]; omega)
  · obtain ⟨j, hj, rfl⟩ := mem_getD ha
    rw [List.length_map, Array.length_toList] at hj
    rw [← numAt_eq]; exact h2 j (by omega)
theorem min_rawT (hh : A.handled = none) (hl : s.heap.IsTuple l its.toArray) (hi : IntsAre its ns) (hne : 0 < ns.length)
    (h : ∀ h' tk M t', (∀ b o, s.heap.get? b = some o → h'.get? b = some o) → M ∈ ns → (∀ a, a ∈ ns → M ≤ a) → Q (.int M t') { s with heap := h', toks := tk }) : wpAny (model prog w) A (call (.builtin "min") [.ref l]) Q E s := by
  obtain ⟨xs, e⟩ := hi.allInts.items
  have hn : numsOf (intItems xs).toList = ns := by rw [← e]; exact hi.numsOf
  rw [nums_intItems] at hn
  subst hn
  rw [e] at hl
  have hsz : 0 < xs.size := by simpa using hne
  refine min_intTup hh hl hsz fun v h' tk hv hk => ?_
  obtain ⟨t, rfl⟩ := intItems_at hv
  obtain ⟨h1, h2⟩ := argBest_lt (numAt xs) (xs.size - 1)
  refine h h' tk _ t hk ?_ fun a ha => ?_
  · rw [numAt_eq]; exact PySem.getD_mem (by rw [List.length_map, Array.length_toList]; omega)
  · obtain ⟨j, hj, rfl⟩ := mem_getD ha
    rw [List.length_map, Array.length_toList] at hj
    rw [← numAt_eq]; exact h2 j (by omega)
end
section
variable {X : Cx}
def rMaxQ (K : PySem.W.Frag) : List V → Hp → VK → Prop := fun vs H Q => ∃ (a : Addr) (ns : List Int), vs = [V.ref a] ∧ SqA K H a (ns.map V.int) ∧ 0 < ns.length ∧ ∀ m, m ∈ ns → (∀ y, y ∈ ns → y ≤ m) → Q (.int m) H
def rMinQ (K : PySem.W.Frag) : List V → Hp → VK → Prop := fun vs H Q => ∃ (a : Addr) (ns : List Int), vs = [V.ref a] ∧ SqA K H a (ns.map V.int) ∧ 0 < ns.length ∧ ∀ m, m ∈ ns → (∀ y, y ∈ ns → m ≤ y) → Q (.int m) H
theorem cr_maxQ (hc : X.calm = true) : CallR X (.builtin "max") (rMaxQ X.K) := by
  intro pins s σ H vs us Q I r h
  obtain ⟨a, ns, rfl, hs, hne, q⟩ := h
  rw [Vals.ref1 r]
  rcases hs with hs | hs
  · obtain ⟨its, rv, hl, _⟩ := I.list hs
    exact max_raw (I.ok.hd hc) hl.isList rv.ints hne fun h' tk m t' hk h1 h2 => ⟨.int _, H, I.kept hk, ⟨_, rfl⟩, q m h1 h2⟩
  · obtain ⟨its, rv, hl, _⟩ := I.tuple hs
    exact max_rawT (I.ok.hd hc) (show s.heap.IsTuple a its.toArray from hl) rv.ints hne fun h' tk m t' hk h1 h2 => ⟨.int _, H, I.kept hk, ⟨_, rfl⟩, q m h1 h2⟩
theorem cr_minQ (hc : X.calm = true) : CallR X (.builtin "min") (rMinQ X.K) := by
  intro pins s σ H vs us Q I r h
  obtain ⟨a, ns, rfl, hs, hne, q⟩ := h
  rw [Vals.ref1 r]
  rcases hs with hs | hs
  · obtain ⟨its, rv, hl, _⟩ := I.list hs
    exact min_raw (I.ok.hd hc) hl.isList rv.ints hne fun h' tk m t' hk h1 h2 => ⟨.int _, H, I.kept hk, ⟨_, rfl⟩, q m h1 h2⟩
  · obtain ⟨its, rv, hl, _⟩ := I.tuple hs
    exact min_rawT (I.ok.hd hc) (show s.heap.IsTuple a its.toArray from hl) rv.ints hne fun h' tk m t' hk h1 h2 => ⟨.int _, H, I.kept hk, ⟨_, rfl⟩, q m h1 h2⟩
end
end XR
set_option Elab.async false
set_option linter.all false
set_option maxRecDepth 100000
set_option maxHeartbeats 4000000
/-! texts: times, pairs of texts, lists of them -/
namespace XR
open PySem PySem.Spec PyProof.Rows L2
theorem fold_size (c : Array Nat) : ∀ (n : Nat) (acc : Array Nat), ((List.replicate n c).foldl (· ++ ·) acc).size = acc.size + n * c.size
  | 0, acc => by simp
  | n + 1, acc => by
    rw [List.replicate_succ, List.foldl_cons, fold_size c n, Array.size_append, Nat.succ_mul]
    omega
theorem fold_all (p : Nat → Bool) (c : Array Nat) (hc : c.all p = true) : ∀ (n : Nat) (acc : Array Nat), acc.all p = true → ((List.replicate n c).foldl (· ++ ·) acc).all p = true
  | 0, acc, h => by simpa using h
  | n + 1, acc, h => by
    rw [List.replicate_succ, List.foldl_cons]
    exact fold_all p c hc n _ (by rw [Array.all_append, h, hc]; rfl)
def mulS (z : Str) (n : Int) : Str := if n < 1 then Str.empty else if (n == 1 || z.length == 0) = true then z else ⟨(List.replicate n.toNat z.cps).foldl (· ++ ·) #[]⟩
def rMulS : R2 := fun x y H Q => ∃ z n, x = .str z ∧ y = .int n ∧ 1 ≤ n ∧ n ≤ 30 ∧ z.length ≤ 30 ∧ Q (.str (mulS z n)) H
theorem op_mul_str {X : Cx} : OpR X (binaryOp .Mult) rMulS := by
  intro pins s σ H x y v u Q I rx ry h
  obtain ⟨z, n, rfl, rfl, h1, h2, h3, q⟩ := h
  obtain ⟨t, rfl⟩ := rx
  obtain ⟨t', rfl⟩ := ry
  have hn : ¬ n < 1 := by omega
  refine PySem.P.mul_str (by
    rw [decide_eq_false (show ¬ n < -(2 ^ 63 : Int) by omega), decide_eq_false (show ¬ n ≥ 2 ^ 63 by omega)]; rfl) (fun _ _ => ?_) (fun _ _ => ?_) ?_
  · have : (30 : Int) ≤ (2 ^ 63 - 1) / n := Int.le_ediv_of_mul_le (by omega) (by omega)
    omega
  · have : z.length * n.toNat ≤ 30 * 30 := Nat.mul_le_mul h3 (by omega)
    exact decide_eq_false (by rw [sizeLine_eq]; omega)
  · unfold mulS at q
    rw [if_neg hn] at q ⊢
    by_cases e : (n == 1 || z.length == 0) = true
    · rw [if_pos e] at q ⊢
      exact ⟨.str z, H, I, ⟨_, rfl⟩, q⟩
    · rw [if_neg e] at q ⊢
      refine ⟨?_, ⟨.str _, H, I.tok _, ⟨_, rfl⟩, q⟩⟩
      show (Array.size _) ≤ sizeLine
      rw [fold_size, sizeLine_eq]
      have : n.toNat * z.cps.size ≤ 30 * 30 := Nat.mul_le_mul (by omega) h3
      show (0 : Nat) + _ ≤ _
      omega
/-! ### texts that may stand in data -/
def okS (n : Nat) (s : Str) : Prop := PyData.strOk s = true ∧ s.length ≤ n
theorem okS.mono {n m : Nat} {s : Str} (h : okS n s) (e : n ≤ m) : okS m s := ⟨h.1, Nat.le_trans h.2 e⟩
theorem okS.add {n m : Nat} {a b : Str} (h : okS n a) (k : okS m b) : okS (n + m) (a ++ b) := by
  have e : (a ++ b).cps = a.cps ++ b.cps := rfl
  refine ⟨?_, ?_⟩
  · show (a ++ b).cps.all _ = true
    rw [e, Array.all_append]
    show ((a.cps.all _) && (b.cps.all _)) = true
    rw [show a.cps.all _ = true from h.1, show b.cps.all _ = true from k.1]
    rfl
  · show (a ++ b).cps.size ≤ n + m
    rw [e, Array.size_append]
    have h1 : a.cps.size ≤ n := h.2
    have h2 : b.cps.size ≤ m := k.2
    omega
theorem okS.cut {n : Nat} {a : Str} (h : okS n a) (lo hi : Option Int) : okS n (cutS a lo hi) := by
  have ha : a.cps.all (· < 0x110000) = true := h.1
  have hn : a.cps.size ≤ n := h.2
  unfold cutS
  refine ⟨?_, ?_⟩
  · show (List.toArray _).all (· < 0x110000) = true
    rw [List.all_toArray, List.all_eq_true]
    intro c hc
    have := List.mem_of_mem_drop (List.mem_of_mem_take hc)
    rw [Array.all_eq_true_iff_forall_mem] at ha
    exact ha c (Array.mem_toList_iff.mp this)
  · show (List.toArray _).size ≤ n
    rw [List.size_toArray, List.length_take, List.length_drop, Array.length_toList]
    omega
theorem okS.mul {a : Str} (h : okS 1 a) {n : Int} (h1 : 1 ≤ n) (h2 : n ≤ 30) : okS 30 (mulS a n) := by
  unfold mulS
  rw [if_neg (by omega)]
  by_cases e : (n == 1 || a.length == 0) = true
  · rw [if_pos e]
    exact h.mono (by decide)
  · rw [if_neg e]
    refine ⟨fold_all _ _ h.1 _ _ (by simp), ?_⟩
    show Array.size _ ≤ 30
    rw [fold_size]
    have : n.toNat * a.cps.size ≤ n.toNat * 1 := Nat.mul_le_mul (Nat.le_refl _) h.2
    show 0 + _ ≤ _
    omega
theorem okS.at {n : Nat} {z : Str} (h : okS n z) {i : Int} (h0 : 0 ≤ i) (h1 : i < (z.length : Int)) : ∃ c, atI z.cps.toList i = some c ∧ okS 1 (⟨#[c]⟩ : Str) := by
  have e : z.length = z.cps.toList.length := by simp [Str.length]
  have hl : i.toNat < z.cps.toList.length := by omega
  refine ⟨z.cps.toList[i.toNat], ?_, ?_, Nat.le_refl _⟩
  · have h3 := atI_nat (xs := z.cps.toList) (j := i.toNat) (List.getElem?_eq_getElem hl)
    rwa [show ((i.toNat : Nat) : Int) = i by omega] at h3
  have ha : z.cps.all (· < 0x110000) = true := h.1
  rw [Array.all_eq_true_iff_forall_mem] at ha
  have := ha _ (Array.mem_toList_iff.mp (List.getElem_mem hl))
  show (#[_] : Array Nat).all _ = true
  simpa using this
theorem okS_int (i : Int) (h0 : 0 ≤ i) (h1 : i < 128) : okS 3 (Str.ofString (toString i)) := by
  have h : ∀ n : Fin 128, PyData.strOk (Str.ofString (toString (n.val : Int))) = true ∧ (Str.ofString (toString (n.val : Int))).length ≤ 3 := by decide +kernel
  have := h ⟨i.toNat, by omega⟩
  rw [show ((⟨i.toNat, by omega⟩ : Fin 128).val : Int) = i by simp; omega] at this
  exact this
theorem okS.room {n m : Nat} {a b : Str} (h : okS n a) (k : okS m b) (e : n + m ≤ 1000) : a.length + b.length ≤ sizeLine := by
  have h1 := h.2
  have h2 := k.2
  rw [sizeLine_eq]
  omega
theorem seq_ix {i : Int} {n : Nat} (h0 : 0 ≤ i) (h1 : i < (n : Int)) : seqIndex? i n = some i.toNat := by
  simp [seqIndex?, show ¬ i < 0 by omega, h0, h1]
theorem isE_map {α β : Type} (f : α → β) (xs : List α) : (xs.map f).isEmpty = xs.isEmpty := by cases xs <;> rfl
theorem strs_at {n : Nat} (ss : List Str) {i : Int} (h0 : 0 ≤ i) (h : i < (ss.length : Int)) (p : ∀ s ∈ ss, okS n s) : ∃ s, atI (ss.map V.str) i = some (.str s) ∧ okS n s ∧ s ∈ ss := by
  have hl : i.toNat < ss.length := by omega
  refine ⟨ss[i.toNat], at_of (j := i.toNat) (by omega) ?_, p _ (List.getElem_mem hl), List.getElem_mem hl⟩
  rw [List.getElem?_map, List.getElem?_eq_getElem hl] <;> rfl
theorem DpAll.strs {K : PySem.W.Frag} {G : Hp} : ∀ {xs : List V} {ns : List Str}, DpAll K G xs (ns.map PyData.str) → xs = ns.map V.str
  | _, [], .nil => rfl
  | _, _ :: _, .cons a b => by rw [Dp.str_inv a, DpAll.strs b]; rfl
theorem DpAll.of_strs {K : PySem.W.Frag} {G : Hp} : ∀ (ns : List Str), DpAll K G (ns.map V.str) (ns.map PyData.str)
  | [] => .nil
  | n :: r => .cons (.str n) (DpAll.of_strs r)
abbrev sD : Str × Str → PyData := fun c => .tuple [.str c.1, .str c.2]
abbrev sDs (cs : List (Str × Str)) : List PyData := cs.map sD
theorem Dp.spair {K : PySem.W.Frag} {G : Hp} {x : V} {c : Str × Str} (h : Dp K G x (sD c)) : ∃ p, x = .ref p ∧ SqT K G p [.str c.1, .str c.2] := by
  obtain ⟨p, xs, rfl, s, a⟩ := Dp.tup_inv h
  cases a with | cons a1 a2 =>
  cases a2 with | cons b1 b2 =>
  cases b2
  rw [Dp.str_inv a1, Dp.str_inv b1] at s
  exact ⟨p, rfl, s⟩
theorem Dp.mk_spair {K : PySem.W.Frag} {G : Hp} {p : Addr} {a b : Str} (h : SqT K G p [.str a, .str b]) : Dp K G (.ref p) (sD (a, b)) := .tup h (.cons (.str a) (.cons (.str b) .nil))
def okP (n : Nat) (c : Str × Str) : Prop := okS n c.1 ∧ okS n c.2
theorem strs_can {n : Nat} : ∀ ss : List Str, (∀ s ∈ ss, okS n s) → PyData.canLayAll0 (ss.map PyData.str) = true
  | [], _ => rfl
  | s :: r, h => by
    show (PyData.canLay0 (.str s) && PyData.canLayAll0 (r.map PyData.str)) = true
    rw [strs_can r fun x hx => h x (List.mem_cons_of_mem _ hx)]
    have := (h s List.mem_cons_self).1
    simpa [PyData.canLay0] using this
theorem strs_depth : ∀ ns : List Str, PyData.depthAll (ns.map PyData.str) ≤ 8
  | [] => by decide
  | c :: r => by
    have := strs_depth r
    show max (PyData.depth (.str c)) (PyData.depthAll (r.map PyData.str)) ≤ 8
    have h : PyData.depth (.str c) ≤ 8 := by simp [PyData.depth]
    omega
theorem strs_eqv : ∀ ns : List Str, PyData.eqvAll (ns.map PyData.str) (ns.map PyData.str) = true
  | [] => rfl
  | c :: r => by
    show (PyData.eqv (.str c) (.str c) && PyData.eqvAll (r.map PyData.str) (r.map PyData.str)) = true
    rw [strs_eqv r]
    simp [PyData.eqv]
theorem shaped_strs {n : Nat} (ss : List Str) (h : ∀ s ∈ ss, okS n s) : SeqAt.shaped (.list (ss.map PyData.str)) = true ∧ SeqAt.shaped (.tuple (ss.map PyData.str)) = true := by
  have hc := strs_can ss h
  have hd := strs_depth ss
  constructor
  · show (PyData.canLayAll0 (ss.map PyData.str) && decide (PyData.depthAll (ss.map PyData.str) + 1 ≤ 64)) = true
    rw [hc]; simp; omega
  · show (PyData.canLayAll0 (ss.map PyData.str) && decide (PyData.depthAll (ss.map PyData.str) + 1 ≤ 64)) = true
    rw [hc]; simp; omega
theorem sDs_can {n : Nat} : ∀ ss : List (Str × Str), (∀ s ∈ ss, okP n s) → PyData.canLayAll0 (sDs ss) = true
  | [], _ => rfl
  | s :: r, h => by
    show (PyData.canLay0 (sD s) && PyData.canLayAll0 (sDs r)) = true
    rw [sDs_can r fun x hx => h x (List.mem_cons_of_mem _ hx)]
    have h1 := (h s List.mem_cons_self).1.1
    have h2 := (h s List.mem_cons_self).2.1
    simp [PyData.canLay0, PyData.canLayAll0, h1, h2]
theorem sDs_depth : ∀ cs : List (Str × Str), PyData.depthAll (sDs cs) ≤ 8
  | [] => by decide
  | c :: r => by
    have := sDs_depth r
    show max (PyData.depth (sD c)) (PyData.depthAll (sDs r)) ≤ 8
    have h : PyData.depth (sD c) ≤ 8 := by simp [PyData.depth, PyData.depthAll]
    omega
theorem sDs_eqv : ∀ cs : List (Str × Str), PyData.eqvAll (sDs cs) (sDs cs) = true
  | [] => rfl
  | c :: r => by
    show (PyData.eqv (sD c) (sD c) && PyData.eqvAll (sDs r) (sDs r)) = true
    rw [sDs_eqv r]
    simp [PyData.eqv, PyData.eqvAll]
theorem shaped_sDs {n : Nat} (ss : List (Str × Str)) (h : ∀ s ∈ ss, okP n s) : SeqAt.shaped (.list (sDs ss)) = true := by
  have hc := sDs_can ss h
  have hd := sDs_depth ss
  show (PyData.canLayAll0 (sDs ss) && decide (PyData.depthAll (sDs ss) + 1 ≤ 64)) = true
  rw [hc]; simp; omega
theorem call_len_seqb {X : Cx} {s : Shared} {H : Hp} {sc : Scope} {ce : Env} {fp : List Addr} : CallR (X.blk s H sc ce fp) (.builtin "len") (fun xs H Q => ∃ p ys, xs = [V.ref p] ∧ (SqL X.K H p ys ∨ SqT X.K H p ys) ∧ Q (V.int (ys.length : Int)) H) := call_len_seq
end XR
set_option Elab.async false
set_option linter.all false
set_option maxRecDepth 100000
set_option maxHeartbeats 4000000
namespace Toy
open PySem L2 XR
def top (i : Nat) : Stmt := PySem.Challenge.pw_fittingpasts_k14_stack_play.main.body.getD i (.Pass ⟨0, 0, 0, 0⟩)
abbrev s_BadMove_init : Stmt := inClass (top 5) 0
abbrev s__play : Stmt := top 7
abbrev s_play : Stmt := top 8
abbrev s_rests : Stmt := top 9
abbrev s__law_bag : Stmt := top 11
abbrev s__law_take : Stmt := top 12
abbrev s__law_rolls : Stmt := top 13
abbrev s__law_moves : Stmt := top 14
abbrev s__law_wild : Stmt := top 15
abbrev s__law_spoilt : Stmt := top 16
abbrev s__law_due : Stmt := top 17
abbrev s__law_plain : Stmt := top 18
abbrev s__law_played : Stmt := top 19
abbrev s__law_rested : Stmt := top 20
abbrev s__law_right : Stmt := top 21
abbrev s_law : Stmt := top 22
/-- where the defs and classes of the text stand -/
structure Ad where
  a_BadMove_init : Addr
  d_BadMove_init : FuncData
  a__play : Addr
  d__play : FuncData
  a_play : Addr
  d_play : FuncData
  a_rests : Addr
  d_rests : FuncData
  a__law_bag : Addr
  d__law_bag : FuncData
  a__law_take : Addr
  d__law_take : FuncData
  a__law_rolls : Addr
  d__law_rolls : FuncData
  a__law_moves : Addr
  d__law_moves : FuncData
  a__law_wild : Addr
  d__law_wild : FuncData
  a__law_spoilt : Addr
  d__law_spoilt : FuncData
  a__law_due : Addr
  d__law_due : FuncData
  a__law_plain : Addr
  d__law_plain : FuncData
  a__law_played : Addr
  d__law_played : FuncData
  a__law_rested : Addr
  d__law_rested : FuncData
  a__law_right : Addr
  d__law_right : FuncData
  a_law : Addr
  d_law : FuncData
  c_ArchiveError : Addr
  c_UnknownError : Addr
  c_TextError : Addr
  c_ImpossibleError : Addr
  c_BadMove : Addr
structure Txt (K : PySem.W.Frag) (mg : Str → Option Value) (D : Ad) : Prop where
  F_BadMove_init : Fun K "__init__" "BadMove.__init__" s_BadMove_init D.a_BadMove_init D.d_BadMove_init
  b_BadMove_init : Binds K D.d_BadMove_init ["self", "at"] []
  m_BadMove_init : PySem.W.findIn K (.ref D.c_BadMove) "__init__" = some (some (.ref D.a_BadMove_init))
  i_BadMove_init : PySem.W.isFn K (.ref D.a_BadMove_init) = true
  F__play : Fun K "_play" "_play" s__play D.a__play D.d__play
  b__play : Binds K D.d__play ["moves"] []
  g__play : mg "_play" = some (.ref D.a__play)
  F_play : Fun K "play" "play" s_play D.a_play D.d_play
  b_play : Binds K D.d_play ["moves"] []
  g_play : mg "play" = some (.ref D.a_play)
  F_rests : Fun K "rests" "rests" s_rests D.a_rests D.d_rests
  b_rests : Binds K D.d_rests ["moves"] []
  g_rests : mg "rests" = some (.ref D.a_rests)
  F__law_bag : Fun K "_law_bag" "_law_bag" s__law_bag D.a__law_bag D.d__law_bag
  b__law_bag : Binds K D.d__law_bag ["_law_script"] []
  g__law_bag : mg "_law_bag" = some (.ref D.a__law_bag)
  F__law_take : Fun K "_law_take" "_law_take" s__law_take D.a__law_take D.d__law_take
  b__law_take : Binds K D.d__law_take ["_law_bag_here", "_law_many"] []
  g__law_take : mg "_law_take" = some (.ref D.a__law_take)
  F__law_rolls : Fun K "_law_rolls" "_law_rolls" s__law_rolls D.a__law_rolls D.d__law_rolls
  b__law_rolls : Binds K D.d__law_rolls ["_law_bag_here", "_law_many"] []
  g__law_rolls : mg "_law_rolls" = some (.ref D.a__law_rolls)
  F__law_moves : Fun K "_law_moves" "_law_moves" s__law_moves D.a__law_moves D.d__law_moves
  b__law_moves : Binds K D.d__law_moves ["_law_bag_here", "_law_rolls_here"] []
  g__law_moves : mg "_law_moves" = some (.ref D.a__law_moves)
  F__law_wild : Fun K "_law_wild" "_law_wild" s__law_wild D.a__law_wild D.d__law_wild
  b__law_wild : Binds K D.d__law_wild ["_law_bag_here", "_law_rolls_here", "_law_moves_here"] []
  g__law_wild : mg "_law_wild" = some (.ref D.a__law_wild)
  F__law_spoilt : Fun K "_law_spoilt" "_law_spoilt" s__law_spoilt D.a__law_spoilt D.d__law_spoilt
  b__law_spoilt : Binds K D.d__law_spoilt ["_law_bag_here", "_law_rolls_here", "_law_moves_here"] []
  g__law_spoilt : mg "_law_spoilt" = some (.ref D.a__law_spoilt)
  F__law_due : Fun K "_law_due" "_law_due" s__law_due D.a__law_due D.d__law_due
  b__law_due : Binds K D.d__law_due ["_law_moves_here"] []
  g__law_due : mg "_law_due" = some (.ref D.a__law_due)
  F__law_plain : Fun K "_law_plain" "_law_plain" s__law_plain D.a__law_plain D.d__law_plain
  b__law_plain : Binds K D.d__law_plain ["_law_e"] []
  g__law_plain : mg "_law_plain" = some (.ref D.a__law_plain)
  F__law_played : Fun K "_law_played" "_law_played" s__law_played D.a__law_played D.d__law_played
  b__law_played : Binds K D.d__law_played ["_law_moves_here", "_law_at", "_law_due_here"] []
  g__law_played : mg "_law_played" = some (.ref D.a__law_played)
  F__law_rested : Fun K "_law_rested" "_law_rested" s__law_rested D.a__law_rested D.d__law_rested
  b__law_rested : Binds K D.d__law_rested ["_law_moves_here", "_law_at", "_law_due_here"] []
  g__law_rested : mg "_law_rested" = some (.ref D.a__law_rested)
  F__law_right : Fun K "_law_right" "_law_right" s__law_right D.a__law_right D.d__law_right
  b__law_right : Binds K D.d__law_right ["_law_moves_here"] []
  g__law_right : mg "_law_right" = some (.ref D.a__law_right)
  F_law : Fun K "law" "law" s_law D.a_law D.d_law
  b_law : Binds K D.d_law ["_law_script"] []
  g_law : mg "law" = some (.ref D.a_law)
  g_ArchiveError : mg "ArchiveError" = some (.ref D.c_ArchiveError)
  k_ArchiveError : PySem.W.keepIn K (.ref D.c_ArchiveError) = true
  g_UnknownError : mg "UnknownError" = some (.ref D.c_UnknownError)
  k_UnknownError : PySem.W.keepIn K (.ref D.c_UnknownError) = true
  g_TextError : mg "TextError" = some (.ref D.c_TextError)
  k_TextError : PySem.W.keepIn K (.ref D.c_TextError) = true
  g_ImpossibleError : mg "ImpossibleError" = some (.ref D.c_ImpossibleError)
  k_ImpossibleError : PySem.W.keepIn K (.ref D.c_ImpossibleError) = true
  g_BadMove : mg "BadMove" = some (.ref D.c_BadMove)
  k_BadMove : PySem.W.keepIn K (.ref D.c_BadMove) = true
  n_ValueError : mg "ValueError" = none
  n_abs : mg "abs" = none
  n_bool : mg "bool" = none
  n_enumerate : mg "enumerate" = none
  n_int : mg "int" = none
  n_isinstance : mg "isinstance" = none
  n_len : mg "len" = none
  n_list : mg "list" = none
  n_range : mg "range" = none
  n_str : mg "str" = none
  n_tuple : mg "tuple" = none
  oxl_BadMove : ∃ nm q N bs bm sn sub ab col dd k0 k1 k2 k3 k5, K.lookup D.c_BadMove = some (excClassObj nm q D.c_BadMove N bs bm true sn sub ab col dd k0 k1 k2 k3 k5 "ValueError.__new__") ∧ PySem.HandSPX.refsVE bm = true
  xsa_BadMove : PySem.W.findIn K (.ref D.c_BadMove) "__setattr__" = some (some (.builtin "object.__setattr__"))
  xga_BadMove : PySem.W.findIn K (.ref D.c_BadMove) "__getattribute__" = some (some (.builtin "BaseException.__getattribute__"))
  xgg_BadMove : PySem.W.findIn K (.ref D.c_BadMove) "__getattr__" = some none
  xbe_BadMove : PySem.W.subIn K (.ref D.c_BadMove) (.type "BaseException") = some true
  xty_BadMove : PySem.W.typeIn K (.ref D.c_BadMove) = some (.type "type")
  xhd_BadMove : PySem.W.hasDictIn K D.c_BadMove = true
  xca_BadMove : PySem.W.findIn K (.ref D.c_BadMove) "__class__" = some (some (.builtin "object.__class__"))
  xmo_BadMove : PySem.W.mroIn K D.c_BadMove (.type "object") = some true
  xti_BadMove : PySem.W.typeIn K (.ref D.a_BadMove_init) = some (.type "function")
  cn_ : PySem.W.specialIn K (.builtin "object.__class__") "__get__" = some (some (.builtin "getset_descriptor.__get__"))
  ct_ : PySem.W.takesIn K (.builtin "object.__class__") = some true
  z_U : PySem.W.kitOne K (.ref D.c_BadMove) (.ref D.c_UnknownError) = some false
  z_T : PySem.W.kitOne K (.ref D.c_BadMove) (.ref D.c_TextError) = some false
  z_I : PySem.W.kitOne K (.ref D.c_BadMove) (.ref D.c_ImpossibleError) = some false
  z_A : PySem.W.kitOne K (.ref D.c_BadMove) (.ref D.c_ArchiveError) = some true
  z_V : PySem.W.kitOne K (.ref D.c_BadMove) (.type "ValueError") = some true
  m_bb : PySem.W.exmOne K (.ref D.c_BadMove) (.ref D.c_BadMove) = some true
  e_BadMove_at : PySem.W.findIn K (.ref D.c_BadMove) "at" = some none
section
variable {K : PySem.W.Frag} {mg : Str → Option Value} {D : Ad}
theorem T_ox_BadMove (T : Txt K mg D) : OexC K D.c_BadMove := ⟨T.oxl_BadMove, T.xsa_BadMove, T.xbe_BadMove, T.xty_BadMove, T.k_BadMove⟩
theorem T_as_BadMove (T : Txt K mg D) : XR.Asks K D.c_BadMove := ⟨T.xga_BadMove, T.xgg_BadMove, T.xbe_BadMove, T.xhd_BadMove, T.xca_BadMove, T.cn_, T.ct_, T.xmo_BadMove⟩
theorem T_xf_BadMove (T : Txt K mg D) : XfC K D.c_BadMove := ⟨T.xga_BadMove, T.xgg_BadMove, T.xbe_BadMove, T.xhd_BadMove⟩
end

section
variable {K : PySem.W.Frag} {mg : Str → Option Value} {D : Ad}

end
local macro_rules | `(tactic| walk_at "ne") => `(tactic| first | assumption | (apply Ne.symm; assumption) | exact XR.ne_fresh (by assumption) (by walk_at "hp") | exact Ne.symm (XR.ne_fresh (by assumption) (by walk_at "hp")))
local macro_rules | `(tactic| walk_at "hp") => `(tactic| first | assumption | exact upd_same | (refine Eq.trans (upd_ne ?_) ?_; (walk_at "ne"); walk_at "hp"))
local macro_rules | `(tactic| walk_at "sq") => `(tactic| first | walk_at "hp" | exact SqL.of (by walk_at "hp") | exact SqT.of (by walk_at "hp") | exact XR.SqT.same (by assumption) (by assumption) | exact XR.SqL.same (by assumption) (by assumption))
local macro_rules | `(tactic| walk_at "br") => `(tactic| (refine ite2 ?_ ?_ <;> intro hbr <;> (try simp only [decide_eq_true_eq, decide_eq_false_iff_not, V.int.injEq, V.bl.injEq, V.str.injEq, Bool.not_eq_true, Bool.not_eq_eq_eq_not, Bool.not_true, Bool.not_false, ne_eq, Int.reduceToNat, Int.reducePow, Int.reduceMul, Int.reduceAdd, Int.reduceSub, reduceCtorEq, not_true_eq_false, not_false_eq_true, Int.not_lt, Int.not_le] at hbr)))
local macro_rules | `(tactic| walk_at "side") => `(tactic| first
  | exact ⟨by decide, by decide, by decide⟩
  | exact .inl ⟨by decide, by decide⟩
  | exact .inr ⟨by decide, by decide⟩
  | exact XR.divw (by first | decide | omega) (by first | decide | omega)
  | (show (_ : Int) = _; first | rfl | omega)
  | (show (0 : Int) < _; first | decide | assumption | omega)
  | exact .inl ⟨by omega, by omega⟩
  | exact .inr ⟨by omega, by omega⟩
  | exact .inl (XR.cmul_mod (by decide))
  | exact XR.log_lt (by omega) (by omega)
  | decide
  | (rw [sizeLine_eq]; simp; done)
  | (show 2 ≤ sizeLine; decide) | (show 3 ≤ sizeLine; decide) | (show 4 ≤ sizeLine; decide) | (show 5 ≤ sizeLine; decide) | (show 6 ≤ sizeLine; decide) | (show 7 ≤ sizeLine; decide) | (show 1 ≤ sizeLine; decide) | (show 8 ≤ sizeLine; decide) | (show 0 ≤ sizeLine; decide))
local macro_rules | `(tactic| walk_at "rd1") => `(tactic| first
  | refine ⟨_, rfl, ?_⟩
  | refine ⟨_, _, rfl, rfl, ?_⟩
  | refine ⟨_, _, _, _, rfl, rfl, (by walk_at "sq"), rfl, ?_⟩
  | refine ⟨_, _, _, _, rfl, rfl, (by walk_at "hp"), (by walk_at "hp"), (by walk_at "side"), ?_⟩
  | refine ⟨_, _, rfl, .inl (by walk_at "sq"), ?_⟩
  | refine ⟨_, _, rfl, .inl ⟨(by walk_at "sq"), ?_⟩⟩
  | refine ⟨_, _, rfl, .inr (by walk_at "sq"), ?_⟩
  | refine ⟨_, _, _, _, _, rfl, (by walk_at "hp"), (by walk_at "cls"), (by walk_at "noat"), rfl, ?_⟩
  | refine ⟨_, _, _, _, rfl, rfl, (by walk_at "sq"), (by first | assumption | exact XR.at0 | exact XR.at1), ?_⟩
  | refine ⟨rfl, ?_⟩
  | refine And.intro (by walk_at "side") ?_
  | refine .inl ⟨_, rfl, ?_⟩
  | refine And.intro ⟨_, (by walk_at "sq")⟩ ?_
  | refine ⟨_, _, rfl, (by walk_at "sq"), ?_⟩
  | refine ⟨_, _, rfl, ?_⟩
  | refine .inr ⟨_, rfl, (by walk_at "side"), ?_⟩
  | refine ⟨_, _, _, rfl, (by walk_at "hp"), ?_⟩
  | refine iteT ?_
  | refine iteF ?_)
local macro_rules | `(tactic| walk_at "rd") => `(tactic| repeat (walk_at "rd1"))
local macro_rules | `(tactic| walk_at "nn") => `(tactic| (simp only [Int.reduceToNat, Int.reducePow, Int.reduceMul, Int.reduceAdd, Int.reduceSub, Int.reduceNeg]))
local macro_rules | `(tactic| walk_at "dr") => `(tactic| repeat (first | refine And.intro (by first | assumption | walk_at "pre") ?_ | refine And.intro (by first | decide | omega) ?_))
section
variable {P : Program} {w : World} {K : PySem.W.Frag} {mg : Str → Option Value} {base : Heap} {D : Ad}
/-! ### the law's draws -/
abbrev bagV (x y : Int) (cs : List Int) : List V := .int x :: .int y :: cs.map V.int
def BoxAt (H : Hp) (b : Addr) : Prop := ∃ (x y : Int) (cs : List Int), H b = some (.lst (bagV x y cs)) ∧ 0 ≤ x ∧ 0 ≤ y ∧ y < 2147483647 ∧ (∀ c ∈ cs, 0 ≤ c) ∧ cs.length ≤ 63
theorem BoxAt.new {H : Hp} {b t : Addr} {o : HO} (h : BoxAt H b) (n : H t = none) : BoxAt (L2.upd H t o) b := by
  obtain ⟨x, y, cs, e1, r⟩ := h
  exact ⟨x, y, cs, by rw [upd_ne (ne_of_none e1 n)]; exact e1, r⟩
theorem BoxAt.ne {H : Hp} {b t : Addr} (h : BoxAt H b) (n : H t = none) : t ≠ b := by
  obtain ⟨x, y, cs, e1, _⟩ := h
  exact (ne_of_none e1 n).symm
theorem BoxAt.put {H : Hp} {b l : Addr} {o : HO} (h : BoxAt H b) (n : l ≠ b) : BoxAt (L2.upd H l o) b := by
  obtain ⟨x, y, cs, e1, r⟩ := h
  exact ⟨x, y, cs, by rw [upd_ne n.symm]; exact e1, r⟩
theorem BoxAt.some {H : Hp} {b : Addr} (h : BoxAt H b) : H b ≠ none := by
  obtain ⟨x, y, cs, e1, _⟩ := h
  rw [e1]
  exact fun z => by cases z
theorem BoxAt.same {H H' : Hp} {b : Addr} (h : BoxAt H b) (x : Same H H') : BoxAt H' b := by
  obtain ⟨u, y, cs, e1, r⟩ := h
  exact ⟨u, y, cs, x _ _ e1, r⟩
theorem ix_bag0 {x y : Int} {cs : List Int} : ixN (bagV x y cs).length 0 = some 0 := by
  unfold ixN
  simp [bagV]
  try omega
theorem ix_bag1 {x y : Int} {cs : List Int} : ixN (bagV x y cs).length 1 = some 1 := by
  unfold ixN
  simp [bagV]
  try omega
local macro_rules | `(tactic| walk_at "pre") => `(tactic| first | assumption | exact BoxAt.new (by walk_at "pre") (by assumption) | exact BoxAt.put (by walk_at "pre") (by assumption) | exact BoxAt.same (by walk_at "pre") (by assumption))
/-- a drawn number -/
def Drawn (b : Addr) (H : Hp) (hi : Int) (Q : VK) : Prop := ∀ r H', 0 ≤ r → r < hi → BoxAt H' b → ExB b H H' → Q (.int r) H'
def spBag (K : PySem.W.Frag) : Sp := fun vs H Q _ => ∃ (a : Addr) (ns : List Int), vs = [.ref a] ∧ SqL K H a (ns.map V.int) ∧ ns.length ≤ 63 ∧ ∀ b H', H b = none → Same H H' → BoxAt H' b → Q (.ref b) H'
def spTake : Sp := fun vs H Q _ => ∃ (b : Addr) (n : Int), vs = [.ref b, .int n] ∧ BoxAt H b ∧ 0 < n ∧ n < 2 ^ 63 ∧ Drawn b H n Q
theorem sc__law_bag : FnScope ["_law_script", "_law_cell"] ["_law_script"] (defScope s__law_bag) := ⟨rfl, rfl, rfl, by decide +kernel, rfl, by decide +kernel, by decide +kernel⟩
theorem ok__law_bag (T : Txt K mg D) : FnOk P w K mg base CX0 1 D.a__law_bag D.d__law_bag ["_law_script"] (spBag K) := by
  refine T.F__law_bag.ok sc__law_bag (fun vs H Q E h => ?_) (fun cdv A outer s H vs Q E hr h => ?_)
  · obtain ⟨a, ns, rfl, _⟩ := h
    rfl
  · obtain ⟨a, ns, rfl, hS, hl, k⟩ := h
    refine ⟨_, (pss_one (ps_ret (pe_op op_cat (pe_lst (pa_cons pe_int (pa_cons pe_int pa_nil))) (pe_lc (own := [("_law_cell", 1)]) (g := gName 1) (tt := tYes) (by rfl) sc__law_bag.nd (XR.pi_sq (pe_slice sl_list (pv 0) po_none (po_some pe_int))) (blkOk_by (own := [("_law_cell", 1)]) (N := ["_law_script", "_law_cell"]) (sc := defScope s__law_bag) (by decide +kernel)) (fun _ _ _ _ _ => (pg_name (i := 1) sc__law_bag.nd rfl (Or.inl rfl))) (fun _ _ _ _ _ => pts_nil) (fun _ _ _ _ _ => (pe_callB call_abs (by rfl) T.n_abs (by decide +kernel) (pa_cons (pv 1) pa_nil))))))), ?_⟩
    walk_at "rd"
    intro p hp
    have hS1 := SqL.same hS (Same.add (o := .lst [V.int 0, V.int 0]) hp)
    walk_at "rd"
    intro q hq
    have ec : cutV (ns.map V.int) none (some 63) = (ns.take 63).map V.int := cutV_take ns 63
    walk_at "rd"
    rw [ec] at *
    have lm : (ns.take 63).length ≤ 63 := by rw [List.length_take]; omega
    generalize ns.take 63 = ms at *
    refine ⟨q, _, _, rfl, .inl (SqL.of upd_same), Same.refl _, fun J W Dl hD => ?_⟩
    have old : Same (L2.upd H p (.lst [V.int 0, V.int 0])) (L2.upd (L2.upd H p (.lst [V.int 0, V.int 0])) q (.lst (ms.map V.int))) := Same.add hq
    refine lc_it W (fun i H' => LcI K (L2.upd (L2.upd H p (.lst [V.int 0, V.int 0])) q (.lst (ms.map V.int))) (L2.upd (L2.upd H p (.lst [V.int 0, V.int 0])) q (.lst (ms.map V.int))) Dl ((ms.take i).map fun z => PyData.int (if z < 0 then -z else z)) H') (LcI.start (Same.refl _) hD) (fun i H' _ I => I.vw) ?_ ?_
    · rintro i x H1 _ hi ⟨G1, acc, g⟩ ⟨rfl, hx⟩
      obtain ⟨z, hz, rfl⟩ := get_int hx
      walk_at "rd"
      exact g.push_map (f := fun z => PyData.int (if z < 0 then -z else z)) hz (.int _) (by omega)
    · intro H1 I
      obtain ⟨G1, acc, g⟩ := I.all_map (f := fun z => PyData.int (if z < 0 then -z else z)) (by rw [List.length_map]; omega)
      have eq0 : (ms.map fun z : Int => PyData.int (if z < 0 then -z else z)) = (ms.map fun z : Int => if z < 0 then -z else z).map PyData.int := by rw [List.map_map]; rfl
      rw [eq0] at g
      have ea := DpAll.ints g.ds
      have e1 : H1 Dl = some (.lst ((ms.map fun z : Int => if z < 0 then -z else z).map V.int)) := ea ▸ g.el
      have e2 : H1 p = some (.lst [V.int 0, V.int 0]) := g.st.hh _ _ (old _ _ upd_same)
      have x1 : Same H H1 := (Same.add hp).trans (old.trans g.st.hh)
      refine ⟨p, Dl, _, _, rfl, rfl, e2, e1, by simp only [List.length_cons, List.length_nil, List.length_map]; rw [sizeLine_eq]; omega, fun b hb => ?_⟩
      refine k b _ (none_back x1 hb) (Same.new x1 hb) ⟨0, 0, ms.map fun z : Int => if z < 0 then -z else z, upd_same, by decide, by decide, by decide, fun c hc => ?_, by rw [List.length_map]; exact lm⟩
      obtain ⟨z, _, rfl⟩ := List.mem_map.mp hc
      split <;> omega
theorem sc__law_take : FnScope ["_law_bag_here", "_law_many", "_law_cell", "_law_digit", "_law_mixed"] ["_law_bag_here", "_law_many"] (defScope s__law_take) := ⟨rfl, rfl, rfl, by decide +kernel, rfl, by decide +kernel, by decide +kernel⟩
theorem ok__law_take (T : Txt K mg D) : FnOk P w K mg base CX0 1 D.a__law_take D.d__law_take ["_law_bag_here", "_law_many"] spTake := by
  refine T.F__law_take.ok sc__law_take (fun vs H Q E h => ?_) (fun cdv A outer s H vs Q E hr h => ?_)
  · obtain ⟨b, n, rfl, _⟩ := h
    rfl
  · obtain ⟨b, n, rfl, ⟨x, y, cs, hb, hx, hy, hy2, hc, hcl⟩, hn, hn2, k⟩ := h
    refine ⟨_, (Evl.pss_cut (ps_if (PW.pt (pw_and (pt_cmpR op_eq (pe_ix ix_list (pv 0) pe_int (fun _ _ => rfl)) pe_int (nomark _)) (pw_and1 (pt_cmpR op_gt (pe_callB call_len_seq (by rfl) T.n_len (by decide +kernel) (pa_cons (pv 0) pa_nil)) pe_int (nomark _)))))
      (pss_cons (ps_set (i := 2) sc__law_take.nd rfl (Or.inl rfl) (pe_bm PySem.F.plainAttrs_list PySem.F.slot_list_pop PySem.F.type_list_pop mt_popAt (pv 0) (pa_cons pe_int pa_nil)))
      (pss_one (ps_if (pt_cmpR op_ge (pv 2) (pe_op op_pow pe_int pe_int) (nomark _))
      (pss_one (ps_asg (pv 2) (pg_sub (pv 0) pe_int set_list)))
      (pss_one (ps_asg (pe_op op_mod (pe_callTy call_int1 (by rfl) T.n_int (by decide +kernel) (pa_cons (pe_op op_add (pe_ix ix_list (pv 0) pe_int (fun _ _ => rfl)) (pv 2)) pa_nil)) pe_int) (pg_sub (pv 0) pe_int set_list))))))
      pss_nil)
      (pss_cons (ps_if (pt_cmpR op_gt (pe_ix ix_list (pv 0) pe_int (fun _ _ => rfl)) pe_int (nomark _))
      (pss_cons (ps_set (i := 3) sc__law_take.nd rfl (Or.inl rfl) (pe_op op_mod (pe_callTy call_int1 (by rfl) T.n_int (by decide +kernel) (pa_cons (pe_ix ix_list (pv 0) pe_int (fun _ _ => rfl)) pa_nil)) (pv 1)))
      (pss_cons (ps_asg (pe_op op_fdivW (pe_ix ix_list (pv 0) pe_int (fun _ _ => rfl)) (pv 1)) (pg_sub (pv 0) pe_int set_list))
      (pss_one (ps_ret (pv 3)))))
      pss_nil)
      (pss_cons (ps_asg (pe_op op_mod (pe_callTy call_int1 (by rfl) T.n_int (by decide +kernel) (pa_cons (pe_op op_mul (pe_ix ix_list (pv 0) pe_int (fun _ _ => rfl)) pe_int) pa_nil)) pe_int) (pg_sub (pv 0) pe_int set_list))
      (pss_cons (ps_set (i := 4) sc__law_take.nd rfl (Or.inl rfl) (pe_op op_mod (pe_callTy call_int1 (by rfl) T.n_int (by decide +kernel) (pa_cons (pe_op op_mul (pe_ix ix_list (pv 0) pe_int (fun _ _ => rfl)) pe_int) pa_nil)) pe_int))
      (pss_cons (ps_set (i := 4) sc__law_take.nd rfl (Or.inl rfl) (pe_op op_mod (pe_callTy call_int1 (by rfl) T.n_int (by decide +kernel) (pa_cons (pe_op op_add (pe_op op_mul (pv 4) (pv 4)) (pv 4)) pa_nil)) pe_int))
      (pss_one (ps_ret (pe_op op_mod (pe_callTy call_int1 (by rfl) T.n_int (by decide +kernel) (pa_cons (pv 4) pa_nil)) (pv 1))))))))), ?_⟩
    walk_at "rd"
    refine ⟨fun σ' H' => Stop (∃ (v : Option V) (x' y' : Int) (cs' : List Int), σ' = [some (.ref b), some (.int n), v, none, none] ∧ H' b = some (.lst (bagV x' y' cs')) ∧ 0 ≤ x' ∧ 0 ≤ y' ∧ y' < 2147483647 ∧ (∀ c ∈ cs', 0 ≤ c) ∧ cs'.length ≤ 63 ∧ ExB b H H'), ?_, fun σ1 H1 hm => ?_⟩
    · walk_at "rd"
      walk_at "br"
      · walk_at "rd"
        walk_at "br"
        · rename_i hlen
          obtain ⟨c, cs', rfl⟩ : ∃ c cs', cs = c :: cs' := by
            cases cs with
            | nil => exact absurd hlen (by simp [bagV])
            | cons c r => exact ⟨c, r, rfl⟩
          have c0 : 0 ≤ c := hc c List.mem_cons_self
          have cl : cs'.length ≤ 63 := by rw [List.length_cons] at hcl; omega
          have cc : ∀ d ∈ cs', 0 ≤ d := fun d hd => hc d (List.mem_cons_of_mem _ hd)
          walk_at "rd"
          refine ⟨.inl ⟨rfl, _, SqL.of hb⟩, ?_⟩
          walk_at "rd"
          refine ⟨b, bagV x y (c :: cs'), 2, 2, .int c, rfl, rfl, hb, by decide, by decide, ?_, rfl, ?_⟩
          · unfold seqIndex?
            simp only [bagV, List.length_cons, List.length_map]
            rw [if_pos (by simp; omega)]
            rfl
          have hb2 : (L2.upd H b (.lst ((bagV x y (c :: cs')).eraseIdx 2))) b = some (.lst (bagV x y cs')) := upd_same
          have x2 : ExB b H (L2.upd H b (.lst ((bagV x y (c :: cs')).eraseIdx 2))) := ExB.refl.upd
          generalize L2.upd H b (.lst ((bagV x y (c :: cs')).eraseIdx 2)) = H2 at hb2 x2 ⊢
          walk_at "rd"
          walk_at "br"
          · walk_at "rd"
            refine ⟨_, _, _, _, rfl, rfl, hb2, ix_bag0, ?_⟩
            exact .go ⟨_, c, y, cs', rfl, upd_same, c0, hy, hy2, cc, cl, x2.upd⟩
          · walk_at "rd"
            refine ⟨_, _, _, _, rfl, rfl, hb2, ix_bag1, ?_⟩
            exact .go ⟨_, x, (y + c) % 2147483647, cs', rfl, upd_same, hx, Int.emod_nonneg _ (by decide), Int.emod_lt_of_pos _ (by decide), cc, cl, x2.upd⟩
        · exact .go ⟨none, x, y, cs, rfl, hb, hx, hy, hy2, hc, hcl, ExB.refl⟩
      · walk_at "rd"
        exact .go ⟨none, x, y, cs, rfl, hb, hx, hy, hy2, hc, hcl, ExB.refl⟩
    · obtain ⟨v, x', y', cs', rfl, hb1, hx1, hy1, hy3, hc1, hl1, x1⟩ := hm.out
      walk_at "rd"
      walk_at "br"
      · walk_at "rd"
        refine ⟨_, _, _, _, rfl, rfl, hb1, ix_bag0, ?_⟩
        walk_at "rd"
        exact k _ _ (Int.emod_nonneg _ (by omega)) (Int.emod_lt_of_pos _ hn) ⟨_, _, cs', upd_same, Int.ediv_nonneg hx1 (by omega), hy1, hy3, hc1, hl1⟩ x1.upd
      · walk_at "rd"
        refine ⟨_, _, _, _, rfl, rfl, hb1, ix_bag1, ?_⟩
        have hb3 : ∀ z : Int, (L2.upd H1 b (.lst (bagV x' z cs'))) b = some (.lst (bagV x' z cs')) := fun _ => upd_same
        walk_at "rd"
        exact k _ _ (Int.emod_nonneg _ (by omega)) (Int.emod_lt_of_pos _ hn) ⟨_, _, cs', upd_same, hx1, Int.emod_nonneg _ (by decide), Int.emod_lt_of_pos _ (by decide), hc1, hl1⟩ x1.upd
end
end Toy
set_option Elab.async false
set_option linter.all false
set_option maxRecDepth 100000
set_option maxHeartbeats 4000000
namespace Toy
open PySem L2 XR
local macro_rules | `(tactic| walk_at "ne") => `(tactic| first | assumption | (apply Ne.symm; assumption) | exact XR.ne_fresh (by assumption) (by walk_at "hp") | exact Ne.symm (XR.ne_fresh (by assumption) (by walk_at "hp")))
local macro_rules | `(tactic| walk_at "hp") => `(tactic| first | assumption | exact upd_same | (refine Eq.trans (upd_ne ?_) ?_; (walk_at "ne"); walk_at "hp"))
local macro_rules | `(tactic| walk_at "sq") => `(tactic| first | walk_at "hp" | exact SqL.of (by walk_at "hp") | exact SqT.of (by walk_at "hp") | exact XR.SqT.same (by assumption) (by assumption) | exact XR.SqL.same (by assumption) (by assumption))
local macro_rules | `(tactic| walk_at "br") => `(tactic| (refine ite2 ?_ ?_ <;> intro hbr <;> (try simp only [decide_eq_true_eq, decide_eq_false_iff_not, V.int.injEq, V.bl.injEq, V.str.injEq, Bool.not_eq_true, Bool.not_eq_eq_eq_not, Bool.not_true, Bool.not_false, ne_eq, Int.reduceToNat, Int.reducePow, Int.reduceMul, Int.reduceAdd, Int.reduceSub, reduceCtorEq, not_true_eq_false, not_false_eq_true, Int.not_lt, Int.not_le] at hbr)))
local macro_rules | `(tactic| walk_at "side") => `(tactic| first
  | exact ⟨by decide, by decide, by decide⟩
  | exact .inl ⟨by decide, by decide⟩
  | exact .inr ⟨by decide, by decide⟩
  | exact XR.divw (by first | decide | omega) (by first | decide | omega)
  | (show (_ : Int) = _; first | rfl | omega)
  | (show (0 : Int) < _; first | decide | assumption | omega)
  | exact .inl ⟨by omega, by omega⟩
  | exact .inr ⟨by omega, by omega⟩
  | exact .inl (XR.cmul_mod (by decide))
  | exact XR.log_lt (by omega) (by omega)
  | decide
  | (rw [sizeLine_eq]; simp; done)
  | (show 2 ≤ sizeLine; decide) | (show 3 ≤ sizeLine; decide) | (show 4 ≤ sizeLine; decide) | (show 5 ≤ sizeLine; decide) | (show 6 ≤ sizeLine; decide) | (show 7 ≤ sizeLine; decide) | (show 1 ≤ sizeLine; decide) | (show 8 ≤ sizeLine; decide) | (show 0 ≤ sizeLine; decide))
local macro_rules | `(tactic| walk_at "rd1") => `(tactic| first
  | refine ⟨_, rfl, ?_⟩
  | refine ⟨_, _, rfl, rfl, ?_⟩
  | refine ⟨_, _, _, _, rfl, rfl, (by walk_at "sq"), rfl, ?_⟩
  | refine ⟨_, _, _, _, rfl, rfl, (by walk_at "hp"), (by walk_at "hp"), (by walk_at "side"), ?_⟩
  | refine ⟨_, _, rfl, .inl (by walk_at "sq"), ?_⟩
  | refine ⟨_, _, rfl, .inl ⟨(by walk_at "sq"), ?_⟩⟩
  | refine ⟨_, _, rfl, .inr (by walk_at "sq"), ?_⟩
  | refine ⟨_, _, _, _, _, rfl, (by walk_at "hp"), (by walk_at "cls"), (by walk_at "noat"), rfl, ?_⟩
  | refine ⟨_, _, _, _, rfl, rfl, (by walk_at "sq"), (by first | assumption | exact XR.at0 | exact XR.at1), ?_⟩
  | refine ⟨rfl, ?_⟩
  | refine And.intro (by walk_at "side") ?_
  | refine .inl ⟨_, rfl, ?_⟩
  | refine And.intro ⟨_, (by walk_at "sq")⟩ ?_
  | refine ⟨_, _, rfl, (by walk_at "sq"), ?_⟩
  | refine ⟨_, _, rfl, ?_⟩
  | refine .inr ⟨_, rfl, (by walk_at "side"), ?_⟩
  | refine ⟨_, _, _, rfl, (by walk_at "hp"), ?_⟩
  | refine iteT ?_
  | refine iteF ?_)
local macro_rules | `(tactic| walk_at "rd") => `(tactic| repeat (walk_at "rd1"))
local macro_rules | `(tactic| walk_at "nn") => `(tactic| (simp only [Int.reduceToNat, Int.reducePow, Int.reduceMul, Int.reduceAdd, Int.reduceSub, Int.reduceNeg]))
local macro_rules | `(tactic| walk_at "dr") => `(tactic| repeat (first | refine And.intro (by first | assumption | walk_at "pre") ?_ | refine And.intro (by first | decide | omega) ?_))
local macro_rules | `(tactic| walk_at "pre") => `(tactic| first | assumption | exact BoxAt.new (by walk_at "pre") (by assumption) | exact BoxAt.put (by walk_at "pre") (by assumption) | exact BoxAt.same (by walk_at "pre") (by assumption))
section
variable {P : Program} {w : World} {K : PySem.W.Frag} {mg : Str → Option Value} {base : Heap} {D : Ad}
/-! ### names and moves -/
def spRolls : Sp := fun vs H Q _ => ∃ (b : Addr) (n : Int), vs = [.ref b, .int n] ∧ BoxAt H b ∧ 1 ≤ n ∧ n ≤ 16 ∧ ∀ l H' (ss : List Str), H l = none → l ≠ b → H' l = some (.lst (ss.map V.str)) → (ss.length : Int) = n → (∀ s ∈ ss, okS 40 s) → BoxAt H' b → ExB b H H' → Q (.ref l) H'
theorem sc__law_rolls : FnScope ["_law_bag_here", "_law_many", "_law_style", "_law_turn", "_law_leap", "_law_place", "_law_names", "_law_k", "_law_at", "_law_name"] ["_law_bag_here", "_law_many"] (defScope s__law_rolls) := ⟨rfl, rfl, rfl, by decide +kernel, rfl, by decide +kernel, by decide +kernel⟩
theorem ok__law_rolls (T : Txt K mg D) : FnOk P w K mg base CX0 3 D.a__law_rolls D.d__law_rolls ["_law_bag_here", "_law_many"] spRolls := by
  have G__law_take := ok__law_take (P := P) (w := w) (base := base) T
  refine T.F__law_rolls.ok sc__law_rolls (fun vs H Q E h => ?_) (fun cdv A outer s H vs Q E hr h => ?_)
  · obtain ⟨b, n, rfl, _⟩ := h
    rfl
  · obtain ⟨b, n, rfl, B, hn1, hn2, k⟩ := h
    refine ⟨_, (pss_cons (ps_set (i := 2) sc__law_rolls.nd rfl (Or.inl rfl) (pe_call G__law_take (hr.mono (by decide)) (by rfl) T.g__law_take T.F__law_take.kp T.b__law_take .nil pass0 (pa_cons (pv 0) (pa_cons pe_int pa_nil))))
      (pss_cons (ps_set (i := 3) sc__law_rolls.nd rfl (Or.inl rfl) (pe_call G__law_take (hr.mono (by decide)) (by rfl) T.g__law_take T.F__law_take.kp T.b__law_take .nil pass0 (pa_cons (pv 0) (pa_cons pe_int pa_nil))))
      (pss_cons (ps_set (i := 4) sc__law_rolls.nd rfl (Or.inl rfl) (pe_op op_add pe_int (pe_op op_mul pe_int (pe_call G__law_take (hr.mono (by decide)) (by rfl) T.g__law_take T.F__law_take.kp T.b__law_take .nil pass0 (pa_cons (pv 0) (pa_cons pe_int pa_nil))))))
      (pss_cons (ps_set (i := 5) sc__law_rolls.nd rfl (Or.inl rfl) (pe_call G__law_take (hr.mono (by decide)) (by rfl) T.g__law_take T.F__law_take.kp T.b__law_take .nil pass0 (pa_cons (pv 0) (pa_cons pe_int pa_nil))))
      (pss_cons (ps_set (i := 6) sc__law_rolls.nd rfl (Or.inl rfl) (pe_lst pa_nil))
      (pss_cons (ps_for PassesOwn.never rfl (pi_range1 (by rfl) T.n_range (pa_cons (pv 1) pa_nil)) (pg_name (i := 7) sc__law_rolls.nd rfl (Or.inl rfl))
      (pss_cons (ps_set (i := 8) sc__law_rolls.nd rfl (Or.inl rfl) (pe_op op_mod (pe_callTy call_int1 (by rfl) T.n_int (by decide +kernel) (pa_cons (pe_op op_add (pv 3) (pe_op op_mul (pv 7) (pv 4))) pa_nil)) pe_int))
      (pss_cons (ps_set (i := 9) sc__law_rolls.nd rfl (Or.inl rfl) (pe_ix ix_str pe_str (pv 8) (fun _ _ => rfl)))
      (Evl.pss_cut (ps_if (pt_cmpR op_eq (pv 2) pe_int (nomark _))
      (pss_one (ps_set (i := 9) sc__law_rolls.nd rfl (Or.inl rfl) (pe_op op_add_str (pe_op op_add_str (pe_slice sl_str pe_str po_none (po_some (pv 5))) (pv 9)) (pe_slice sl_str pe_str (po_some (pv 5)) po_none))))
      pss_nil)
      (Evl.pss_cut (ps_if (pt_cmpR op_eq (pv 2) pe_int (nomark _))
      (pss_one (ps_set (i := 9) sc__law_rolls.nd rfl (Or.inl rfl) (pe_op XR.op_mul_str pe_str (pe_op op_add (pv 8) pe_int))))
      pss_nil)
      (Evl.pss_cut (ps_if (pt_cmpR op_eq (pv 2) pe_int (nomark _))
      (pss_one (ps_set (i := 9) sc__law_rolls.nd rfl (Or.inl rfl) (pe_callTy call_str_int (by rfl) T.n_str (by decide +kernel) (pa_cons (pe_op op_add (pe_op op_mul pe_int (pv 8)) pe_int) pa_nil))))
      pss_nil)
      (Evl.pss_cut (ps_if (pt_cmpR op_eq (pv 2) pe_int (nomark _))
      (pss_one (ps_set (i := 9) sc__law_rolls.nd rfl (Or.inl rfl) (pe_op op_add_str (pe_ix ix_str pe_str (pe_op op_fdivW (pv 8) pe_int) (fun _ _ => rfl)) (pe_ix ix_str pe_str (pe_op op_mod (pv 8) pe_int) (fun _ _ => rfl)))))
      pss_nil)
      (pss_one (ps_expr (pe_bm PySem.F.plainAttrs_list PySem.F.slot_list_append PySem.F.type_list_append mt_append (pv 6) (pa_cons (pv 9) pa_nil)))))))))))
      (pss_one (ps_ret (pv 6))))))))), ?_⟩
    walk_at "rd"
    walk_at "dr"
    intro r1 H1 p1 q1 B1 x1
    walk_at "rd"
    walk_at "dr"
    intro r2 H2 p2 q2 B2 x2
    walk_at "rd"
    walk_at "dr"
    intro r3 H3 p3 q3 B3 x3
    walk_at "rd"
    walk_at "dr"
    intro r4 H4 p4 q4 B4 x4
    walk_at "rd"
    intro l hl
    have x := (x1.trans x2).trans (x3.trans x4)
    have nl : l ≠ b := BoxAt.ne B4 hl
    walk_at "rd"
    refine ⟨by omega, by omega, ?_⟩
    refine for_range (fun i σ H' => Stop (∃ (ss : List Str) (v1 v2 v3 : Option V), σ = [some (.ref b), some (.int n), some (.int r1), some (.int r2), some (.int (1 + 2 * r3)), some (.int r4), some (.ref l), v1, v2, v3] ∧ H' l = some (.lst (ss.map V.str)) ∧ ss.length = i ∧ (∀ s ∈ ss, okS 40 s) ∧ (∀ q o, q ≠ l → H4 q = some o → H' q = some o)))
      (.go ⟨[], none, none, none, rfl, upd_same, rfl, fun s hs => absurd hs (by simp), fun q o nq e => by rw [upd_ne nq]; exact e⟩) ?_ ?_
    · intro i σ H5 hi hm
      obtain ⟨ss, v1, v2, v3, rfl, el, hlen, ok, x5⟩ := hm.out
      have a0 : (0 : Int) ≤ (r2 + (0 + (i : Int)) * (1 + 2 * r3)) % 16 := Int.emod_nonneg _ (by decide)
      have a1 : (r2 + (0 + (i : Int)) * (1 + 2 * r3)) % 16 < 16 := Int.emod_lt_of_pos _ (by decide)
      walk_at "rd"
      obtain ⟨c, hc, okc⟩ := okS.at (z := Str.ofString "abcdefghijklmnop") (n := 16) ⟨by decide +kernel, by decide +kernel⟩ a0 (by rw [show (Str.ofString "abcdefghijklmnop").length = 16 by decide +kernel]; omega)
      refine ⟨_, _, c, rfl, rfl, by rw [sizeLine_eq]; decide +kernel, hc, ?_⟩
      generalize (⟨#[c]⟩ : Str) = nm at *
      have okr : okS 4 (Str.ofString "room") := ⟨by decide +kernel, by decide +kernel⟩
      have okq : okS 1 (Str.ofString "q") := ⟨by decide +kernel, by decide +kernel⟩
      walk_at "rd"
      refine ⟨fun σ' H' => Stop (∃ s, σ' = [some (.ref b), some (.int n), some (.int r1), some (.int r2), some (.int (1 + 2 * r3)), some (.int r4), some (.ref l), some (.int (0 + (i : Int))), some (.int ((r2 + (0 + (i : Int)) * (1 + 2 * r3)) % 16)), some (.str s)] ∧ okS 40 s ∧ H' = H5), ?_, fun σ6 H6 hm => ?_⟩
      · walk_at "rd"
        walk_at "br"
        · walk_at "rd"
          refine ⟨okS.room (okr.cut none (some r4)) okc (by decide), ?_⟩
          walk_at "rd"
          refine ⟨okS.room ((okr.cut none (some r4)).add okc) (okr.cut (some r4) none) (by decide), ?_⟩
          exact .go ⟨_, rfl, (((okr.cut none (some r4)).add okc).add (okr.cut (some r4) none)).mono (by decide), rfl⟩
        · exact .go ⟨_, rfl, okc.mono (by decide), rfl⟩
      obtain ⟨s1, rfl, ok1, rfl⟩ := hm.out
      walk_at "rd"
      refine ⟨fun σ' H' => Stop (∃ s, σ' = [some (.ref b), some (.int n), some (.int r1), some (.int r2), some (.int (1 + 2 * r3)), some (.int r4), some (.ref l), some (.int (0 + (i : Int))), some (.int ((r2 + (0 + (i : Int)) * (1 + 2 * r3)) % 16)), some (.str s)] ∧ okS 40 s ∧ H' = H6), ?_, fun σ7 H7 hm => ?_⟩
      · walk_at "rd"
        walk_at "br"
        · walk_at "rd"
          refine ⟨by omega, by decide +kernel, ?_⟩
          exact .go ⟨_, rfl, (okq.mul (by omega) (by omega)).mono (by decide), rfl⟩
        · exact .go ⟨_, rfl, ok1, rfl⟩
      obtain ⟨s2, rfl, ok2, rfl⟩ := hm.out
      walk_at "rd"
      refine ⟨fun σ' H' => Stop (∃ s, σ' = [some (.ref b), some (.int n), some (.int r1), some (.int r2), some (.int (1 + 2 * r3)), some (.int r4), some (.ref l), some (.int (0 + (i : Int))), some (.int ((r2 + (0 + (i : Int)) * (1 + 2 * r3)) % 16)), some (.str s)] ∧ okS 40 s ∧ H' = H7), ?_, fun σ8 H8 hm => ?_⟩
      · walk_at "rd"
        walk_at "br"
        · walk_at "rd"
          exact .go ⟨_, rfl, (okS_int _ (by omega) (by omega)).mono (by decide), rfl⟩
        · exact .go ⟨_, rfl, ok2, rfl⟩
      obtain ⟨s3, rfl, ok3, rfl⟩ := hm.out
      walk_at "rd"
      refine ⟨fun σ' H' => Stop (∃ s, σ' = [some (.ref b), some (.int n), some (.int r1), some (.int r2), some (.int (1 + 2 * r3)), some (.int r4), some (.ref l), some (.int (0 + (i : Int))), some (.int ((r2 + (0 + (i : Int)) * (1 + 2 * r3)) % 16)), some (.str s)] ∧ okS 40 s ∧ H' = H8), ?_, fun σ9 H9 hm => ?_⟩
      · walk_at "rd"
        walk_at "br"
        · walk_at "rd"
          obtain ⟨c1, hc1, okc1⟩ := okS.at (z := Str.ofString "fedcba") (n := 6) (i := ((r2 + (0 + (i : Int)) * (1 + 2 * r3)) % 16) / 3) ⟨by decide +kernel, by decide +kernel⟩ (by omega) (by rw [show (Str.ofString "fedcba").length = 6 by decide +kernel]; omega)
          refine ⟨_, _, c1, rfl, rfl, by rw [sizeLine_eq]; decide +kernel, hc1, ?_⟩
          walk_at "rd"
          obtain ⟨c2, hc2, okc2⟩ := okS.at (z := Str.ofString "+- ") (n := 3) (i := ((r2 + (0 + (i : Int)) * (1 + 2 * r3)) % 16) % 3) ⟨by decide +kernel, by decide +kernel⟩ (by omega) (by rw [show (Str.ofString "+- ").length = 3 by decide +kernel]; omega)
          refine ⟨_, _, c2, rfl, rfl, by rw [sizeLine_eq]; decide +kernel, hc2, ?_⟩
          walk_at "rd"
          exact .go ⟨_, rfl, (okc1.add okc2).mono (by decide), rfl⟩
        · exact .go ⟨_, rfl, ok3, rfl⟩
      obtain ⟨s4, rfl, ok4, rfl⟩ := hm.out
      walk_at "rd"
      refine ⟨.inl ⟨rfl, _, SqL.of el⟩, ?_⟩
      walk_at "rd"
      refine ⟨l, _, .str s4, rfl, rfl, el, by rw [List.length_map, sizeLine_eq]; omega, ?_⟩
      exact .go ⟨ss ++ [s4], _, _, _, rfl, by rw [List.map_append]; exact upd_same, by rw [List.length_append, hlen]; rfl, fun s hs => (List.mem_append.mp hs).elim (ok s) fun h => by rw [List.mem_singleton.mp h]; exact ok4, fun q o nq e => by rw [upd_ne nq]; exact x5 q o nq e⟩
    · intro σ H5 hm
      obtain ⟨ss, v1, v2, v3, rfl, el, hlen, ok, x5⟩ := hm.out
      walk_at "rd"
      refine k l H5 ss (none_backB x nl hl) nl el (by omega) ok ?_ (x.trans ?_)
      · obtain ⟨u, y, cs, e1, r⟩ := B4
        exact ⟨u, y, cs, x5 _ _ nl.symm e1, r⟩
      · exact fun q o nq e => x5 _ _ (ne_of_none e hl) e
end
end Toy
set_option Elab.async false
set_option linter.all false
set_option maxRecDepth 100000
set_option maxHeartbeats 4000000
namespace Toy
open PySem L2 XR
local macro_rules | `(tactic| walk_at "ne") => `(tactic| first | assumption | (apply Ne.symm; assumption) | exact XR.ne_fresh (by assumption) (by walk_at "hp") | exact Ne.symm (XR.ne_fresh (by assumption) (by walk_at "hp")))
local macro_rules | `(tactic| walk_at "hp") => `(tactic| first | assumption | exact upd_same | (refine Eq.trans (upd_ne ?_) ?_; (walk_at "ne"); walk_at "hp"))
local macro_rules | `(tactic| walk_at "sq") => `(tactic| first | walk_at "hp" | exact SqL.of (by walk_at "hp") | exact SqT.of (by walk_at "hp") | exact XR.SqT.same (by assumption) (by assumption) | exact XR.SqL.same (by assumption) (by assumption))
local macro_rules | `(tactic| walk_at "br") => `(tactic| (refine ite2 ?_ ?_ <;> intro hbr <;> (try simp only [decide_eq_true_eq, decide_eq_false_iff_not, V.int.injEq, V.bl.injEq, V.str.injEq, Bool.not_eq_true, Bool.not_eq_eq_eq_not, Bool.not_true, Bool.not_false, ne_eq, Int.reduceToNat, Int.reducePow, Int.reduceMul, Int.reduceAdd, Int.reduceSub, reduceCtorEq, not_true_eq_false, not_false_eq_true, Int.not_lt, Int.not_le] at hbr)))
local macro_rules | `(tactic| walk_at "side") => `(tactic| first
  | exact ⟨by decide, by decide, by decide⟩
  | exact .inl ⟨by decide, by decide⟩
  | exact .inr ⟨by decide, by decide⟩
  | exact XR.divw (by first | decide | omega) (by first | decide | omega)
  | (show (_ : Int) = _; first | rfl | omega)
  | (show (0 : Int) < _; first | decide | assumption | omega)
  | exact .inl ⟨by omega, by omega⟩
  | exact .inr ⟨by omega, by omega⟩
  | exact .inl (XR.cmul_mod (by decide))
  | exact XR.log_lt (by omega) (by omega)
  | decide
  | (rw [sizeLine_eq]; simp; done)
  | (show 2 ≤ sizeLine; decide) | (show 3 ≤ sizeLine; decide) | (show 4 ≤ sizeLine; decide) | (show 5 ≤ sizeLine; decide) | (show 6 ≤ sizeLine; decide) | (show 7 ≤ sizeLine; decide) | (show 1 ≤ sizeLine; decide) | (show 8 ≤ sizeLine; decide) | (show 0 ≤ sizeLine; decide))
local macro_rules | `(tactic| walk_at "rd1") => `(tactic| first
  | refine ⟨_, rfl, ?_⟩
  | refine ⟨_, _, rfl, rfl, ?_⟩
  | refine ⟨_, _, _, _, rfl, rfl, (by walk_at "sq"), rfl, ?_⟩
  | refine ⟨_, _, _, _, rfl, rfl, (by walk_at "hp"), (by walk_at "hp"), (by walk_at "side"), ?_⟩
  | refine ⟨_, _, rfl, .inl (by walk_at "sq"), ?_⟩
  | refine ⟨_, _, rfl, .inl ⟨(by walk_at "sq"), ?_⟩⟩
  | refine ⟨_, _, rfl, .inr (by walk_at "sq"), ?_⟩
  | refine ⟨_, _, _, _, _, rfl, (by walk_at "hp"), (by walk_at "cls"), (by walk_at "noat"), rfl, ?_⟩
  | refine ⟨_, _, _, _, rfl, rfl, (by walk_at "sq"), (by first | assumption | exact XR.at0 | exact XR.at1), ?_⟩
  | refine ⟨rfl, ?_⟩
  | refine And.intro (by walk_at "side") ?_
  | refine .inl ⟨_, rfl, ?_⟩
  | refine And.intro ⟨_, (by walk_at "sq")⟩ ?_
  | refine ⟨_, _, rfl, (by walk_at "sq"), ?_⟩
  | refine ⟨_, _, rfl, ?_⟩
  | refine .inr ⟨_, rfl, (by walk_at "side"), ?_⟩
  | refine ⟨_, _, _, rfl, (by walk_at "hp"), ?_⟩
  | refine iteT ?_
  | refine iteF ?_)
local macro_rules | `(tactic| walk_at "rd") => `(tactic| repeat (walk_at "rd1"))
local macro_rules | `(tactic| walk_at "nn") => `(tactic| (simp only [Int.reduceToNat, Int.reducePow, Int.reduceMul, Int.reduceAdd, Int.reduceSub, Int.reduceNeg]))
local macro_rules | `(tactic| walk_at "dr") => `(tactic| repeat (first | refine And.intro (by first | assumption | walk_at "pre") ?_ | refine And.intro (by first | decide | omega) ?_))
local macro_rules | `(tactic| walk_at "pre") => `(tactic| first | assumption | exact BoxAt.new (by walk_at "pre") (by assumption) | exact BoxAt.put (by walk_at "pre") (by assumption) | exact BoxAt.same (by walk_at "pre") (by assumption))
section
variable {P : Program} {w : World} {K : PySem.W.Frag} {mg : Str → Option Value} {base : Heap} {D : Ad}
theorem erase_map {α β : Type} (f : α → β) : ∀ (xs : List α) (k : Nat), (xs.map f).eraseIdx k = (xs.eraseIdx k).map f
  | [], _ => by simp
  | x :: r, 0 => by simp
  | x :: r, k + 1 => by simp [erase_map f r k]
theorem erase_mem {α : Type} {x : α} : ∀ {xs : List α} {k : Nat}, x ∈ xs.eraseIdx k → x ∈ xs := fun h => List.mem_of_mem_eraseIdx h
/-- the three lists while moves are drawn -/
structure Mv (K : PySem.W.Frag) (b : Addr) (G H : Hp) (r s m : Addr) (rs ts : List Str) (acc : List V) (cs : List (Str × Str)) (G1 H1 : Hp) : Prop where
  vw : Same G1 H1
  gg : Same G G1
  gb : G1 b = none
  gr : G1 r = none
  gs : G1 s = none
  gm : G1 m = none
  hh : ExB b H H1
  er : H1 r = some (.lst (rs.map V.str))
  es : H1 s = some (.lst (ts.map V.str))
  em : H1 m = some (.lst acc)
  ds : DpAll K G1 acc (sDs cs)
  bx : BoxAt H1 b
/-- what stays: they are three, and not the box -/
structure Apart (b : Addr) (H : Hp) (r s m : Addr) : Prop where
  nr : H r = none
  ns : H s = none
  nm : H m = none
  rb : r ≠ b
  sb : s ≠ b
  mb : m ≠ b
  rs : r ≠ s
  rm : r ≠ m
  sm : s ≠ m
section
variable {b r s m p : Addr} {G H G1 H1 H2 : Hp} {rs ts : List Str} {acc : List V} {cs : List (Str × Str)} {o : HO}
theorem Mv.draw (A : Apart b H r s m) (M : Mv K b G H r s m rs ts acc cs G1 H1) (B : BoxAt H2 b) (x : ExB b H1 H2) : Mv K b G H r s m rs ts acc cs G1 H2 :=
  ⟨fun q u e => x q u (fun z => by rw [z, M.gb] at e; cases e) (M.vw q u e), M.gg, M.gb, M.gr, M.gs, M.gm, M.hh.trans x, x _ _ A.rb M.er, x _ _ A.sb M.es, x _ _ A.mb M.em, M.ds, B⟩
theorem Mv.new (M : Mv K b G H r s m rs ts acc cs G1 H1) (h : H1 p = none) : Mv K b G H r s m rs ts acc cs G1 (L2.upd H1 p o) :=
  have x : Same H1 (L2.upd H1 p o) := Same.add h
  ⟨M.vw.trans x, M.gg, M.gb, M.gr, M.gs, M.gm, M.hh.same x, x _ _ M.er, x _ _ M.es, x _ _ M.em, M.ds, M.bx.same x⟩
theorem Mv.newG (M : Mv K b G H r s m rs ts acc cs G1 H1) (h : H1 p = none) : Mv K b G H r s m rs ts acc cs (L2.upd G1 p o) (L2.upd H1 p o) := by
  have x : Same H1 (L2.upd H1 p o) := Same.add h
  have g : Same G1 (L2.upd G1 p o) := Same.add (Same.free M.vw h)
  have np : p ≠ b := BoxAt.ne M.bx h
  exact ⟨Same.upd2 M.vw, M.gg.trans g, by rw [upd_ne np.symm]; exact M.gb, by rw [upd_ne (ne_of_none M.er h)]; exact M.gr, by rw [upd_ne (ne_of_none M.es h)]; exact M.gs, by rw [upd_ne (ne_of_none M.em h)]; exact M.gm, M.hh.same x, x _ _ M.er, x _ _ M.es, x _ _ M.em, DpAll.same g M.ds, M.bx.same x⟩
theorem Mv.putR (A : Apart b H r s m) (M : Mv K b G H r s m rs ts acc cs G1 H1) (us : List Str) : Mv K b G H r s m us ts acc cs G1 (L2.upd H1 r (.lst (us.map V.str))) :=
  ⟨fun q u e => by rw [upd_ne (ne_of_none e M.gr)]; exact M.vw _ _ e, M.gg, M.gb, M.gr, M.gs, M.gm, fun q u n e => by rw [upd_ne (ne_of_none e A.nr)]; exact M.hh _ _ n e, upd_same, by rw [upd_ne A.rs.symm]; exact M.es, by rw [upd_ne A.rm.symm]; exact M.em, M.ds, M.bx.put A.rb⟩
theorem Mv.putS (A : Apart b H r s m) (M : Mv K b G H r s m rs ts acc cs G1 H1) (us : List Str) : Mv K b G H r s m rs us acc cs G1 (L2.upd H1 s (.lst (us.map V.str))) :=
  ⟨fun q u e => by rw [upd_ne (ne_of_none e M.gs)]; exact M.vw _ _ e, M.gg, M.gb, M.gr, M.gs, M.gm, fun q u n e => by rw [upd_ne (ne_of_none e A.ns)]; exact M.hh _ _ n e, by rw [upd_ne A.rs]; exact M.er, upd_same, by rw [upd_ne A.sm.symm]; exact M.em, M.ds, M.bx.put A.sb⟩
theorem Mv.putM (A : Apart b H r s m) (M : Mv K b G H r s m rs ts acc cs G1 H1) {v : V} {c : Str × Str} (d : Dp K G1 v (sD c)) : Mv K b G H r s m rs ts (acc ++ [v]) (cs ++ [c]) G1 (L2.upd H1 m (.lst (acc ++ [v]))) :=
  ⟨fun q u e => by rw [upd_ne (ne_of_none e M.gm)]; exact M.vw _ _ e, M.gg, M.gb, M.gr, M.gs, M.gm, fun q u n e => by rw [upd_ne (ne_of_none e A.nm)]; exact M.hh _ _ n e, by rw [upd_ne A.rm]; exact M.er, by rw [upd_ne A.sm]; exact M.es, upd_same, (show sDs (cs ++ [c]) = sDs cs ++ [sD c] from List.map_append) ▸ DpAll.snoc M.ds d, M.bx.put A.mb⟩
end
theorem ok_put : okS 40 (Str.ofString "put") := ⟨by decide +kernel, by decide +kernel⟩
theorem ok_take : okS 40 (Str.ofString "take") := ⟨by decide +kernel, by decide +kernel⟩
def MovesOk (cs : List (Str × Str)) : Prop := (∀ c ∈ cs, okP 40 c) ∧ cs.length ≤ 32
def spMoves (K : PySem.W.Frag) : Sp := fun vs H Q _ => ∃ (b l : Addr) (ss : List Str) (G : Hp), vs = [.ref b, .ref l] ∧ BoxAt H b ∧ Same G H ∧ G b = none ∧ H l = some (.lst (ss.map V.str)) ∧ ss.length ≤ 16 ∧ (∀ s ∈ ss, okS 40 s) ∧ l ≠ b ∧
  ∀ m G' H' cs, StB b G H G' H' → Dp K G' (.ref m) (.list (sDs cs)) → MovesOk cs → BoxAt H' b → Q (.ref m) H'
theorem sc__law_moves : FnScope ["_law_bag_here", "_law_rolls_here", "_law_rest", "_law_stack", "_law_moves_here", "_law_k", "_law_way", "_law_roll"] ["_law_bag_here", "_law_rolls_here"] (defScope s__law_moves) := ⟨rfl, rfl, rfl, by decide +kernel, rfl, by decide +kernel, by decide +kernel⟩
theorem ok__law_moves (T : Txt K mg D) : FnOk P w K mg base CX0 3 D.a__law_moves D.d__law_moves ["_law_bag_here", "_law_rolls_here"] (spMoves K) := by
  have G__law_take := ok__law_take (P := P) (w := w) (base := base) T
  refine T.F__law_moves.ok sc__law_moves (fun vs H Q E h => ?_) (fun cdv A outer s H vs Q E hr h => ?_)
  · obtain ⟨b, l, ss, G, rfl, _⟩ := h
    rfl
  · obtain ⟨b, l, ss, G, rfl, B, gv, gb, hl, hlen, hok, nlb, k⟩ := h
    refine ⟨_, (pss_cons (ps_set (i := 2) sc__law_moves.nd rfl (Or.inl rfl) (pe_callTy call_list_of (by rfl) T.n_list (by decide +kernel) (pa_cons (pv 1) pa_nil)))
      (pss_cons (ps_set (i := 3) sc__law_moves.nd rfl (Or.inl rfl) (pe_lst pa_nil))
      (pss_cons (ps_set (i := 4) sc__law_moves.nd rfl (Or.inl rfl) (pe_lst pa_nil))
      (pss_cons (ps_for PassesOwn.never rfl (pi_range1 (by rfl) T.n_range (pa_cons (pe_op op_mod (pe_callTy call_int1 (by rfl) T.n_int (by decide +kernel) (pa_cons (pe_op op_add pe_int (pe_call G__law_take (hr.mono (by decide)) (by rfl) T.g__law_take T.F__law_take.kp T.b__law_take .nil pass0 (pa_cons (pv 0) (pa_cons pe_int pa_nil)))) pa_nil)) pe_int) pa_nil)) (pg_name (i := 5) sc__law_moves.nd rfl (Or.inl rfl))
      (pss_cons (ps_set (i := 6) sc__law_moves.nd rfl (Or.inl rfl) (pe_op op_mod (pe_callTy call_int1 (by rfl) T.n_int (by decide +kernel) (pa_cons (pe_op op_add (pe_op op_mul pe_int (pv 5)) (pe_call G__law_take (hr.mono (by decide)) (by rfl) T.g__law_take T.F__law_take.kp T.b__law_take .nil pass0 (pa_cons (pv 0) (pa_cons pe_int pa_nil)))) pa_nil)) pe_int))
      (pss_one (ps_if (PW.pt (pw_and (pt_cmpR (op_neD hr.units) (pv 2) (pe_lst pa_nil) (nomark _)) (pw_and1 (PW.pt (pw_or (pt_cmpR op_lt (pv 6) pe_int (nomark _)) (pw_or1 (pt_cmpR (op_eqD hr.units) (pv 3) (pe_lst pa_nil) (nomark _))))))))
      (pss_cons (ps_set (i := 7) sc__law_moves.nd rfl (Or.inl rfl) (pe_bm PySem.F.plainAttrs_list PySem.F.slot_list_pop PySem.F.type_list_pop mt_popAt (pv 2) (pa_cons (pe_call G__law_take (hr.mono (by decide)) (by rfl) T.g__law_take T.F__law_take.kp T.b__law_take .nil pass0 (pa_cons (pv 0) (pa_cons (pe_callB call_len_seq (by rfl) T.n_len (by decide +kernel) (pa_cons (pv 2) pa_nil)) pa_nil))) pa_nil)))
      (pss_cons (ps_expr (pe_bm PySem.F.plainAttrs_list PySem.F.slot_list_append PySem.F.type_list_append mt_append (pv 3) (pa_cons (pv 7) pa_nil)))
      (pss_one (ps_expr (pe_bm PySem.F.plainAttrs_list PySem.F.slot_list_append PySem.F.type_list_append mt_append (pv 4) (pa_cons (pe_tup (pa_cons pe_str (pa_cons (pv 7) pa_nil))) pa_nil))))))
      (pss_one (ps_if (pt_cmpR (op_neD hr.units) (pv 3) (pe_lst pa_nil) (nomark _))
      (pss_one (ps_expr (pe_bm PySem.F.plainAttrs_list PySem.F.slot_list_append PySem.F.type_list_append mt_append (pv 4) (pa_cons (pe_tup (pa_cons pe_str (pa_cons (pe_bm0 PySem.F.plainAttrs_list PySem.F.slot_list_pop PySem.F.type_list_pop mt_pop (pv 3)) pa_nil))) pa_nil))))
      pss_nil))))))
      (pss_one (ps_ret (pv 4))))))), ?_⟩
    have hl0 : SqL K H l (ss.map V.str) := SqL.of hl
    walk_at "rd"
    intro r hr
    walk_at "rd"
    intro s hs
    walk_at "rd"
    intro m hm
    walk_at "rd"
    have e1 : (L2.upd H r (.lst (ss.map V.str))) r = some (.lst (ss.map V.str)) := upd_same
    have nrs : r ≠ s := ne_of_none e1 hs
    have e2 : (L2.upd (L2.upd H r (.lst (ss.map V.str))) s (.lst [])) r = some (.lst (ss.map V.str)) := by rw [upd_ne nrs]; exact e1
    have e3 : (L2.upd (L2.upd H r (.lst (ss.map V.str))) s (.lst [])) s = some (.lst []) := upd_same
    have nrm : r ≠ m := ne_of_none e2 hm
    have nsm : s ≠ m := ne_of_none e3 hm
    have hs0 : H s = none := none_back (Same.add hr) hs
    have hm0 : H m = none := none_back ((Same.add hr).trans (Same.add hs)) hm
    have A : Apart b H r s m := ⟨hr, hs0, hm0, BoxAt.ne B hr, BoxAt.ne B hs0, BoxAt.ne B hm0, nrs, nrm, nsm⟩
    have x0 : Same H (L2.upd (L2.upd (L2.upd H r (.lst (ss.map V.str))) s (.lst [])) m (.lst [])) := ((Same.add hr).trans (Same.add hs)).trans (Same.add hm)
    have M0 : Mv K b G H r s m ss [] [] [] G (L2.upd (L2.upd (L2.upd H r (.lst (ss.map V.str))) s (.lst [])) m (.lst [])) :=
      ⟨gv.trans x0, Same.refl _, gb, Same.free gv hr, Same.free gv hs0, Same.free gv hm0, fun q o _ e => x0 q o e, by rw [upd_ne nrm, upd_ne nrs]; exact upd_same, by rw [upd_ne nsm]; exact upd_same, upd_same, .nil, B.same x0⟩
    generalize L2.upd (L2.upd (L2.upd H r (.lst (ss.map V.str))) s (.lst [])) m (.lst []) = H0 at M0 ⊢
    have B0 := M0.bx
    walk_at "dr"
    intro n0 H1 p0 q0 B1 x1
    have M1 := M0.draw A B1 x1
    walk_at "rd"
    have z0 : 0 ≤ (3 + n0) % 33 := Int.emod_nonneg _ (by decide)
    have z1 : (3 + n0) % 33 < 33 := Int.emod_lt_of_pos _ (by decide)
    refine ⟨by omega, by omega, ?_⟩
    refine for_range (fun i σ H' => Stop (∃ (v1 v2 v3 : Option V) (rs ts : List Str) (acc : List V) (cs : List (Str × Str)) (G' : Hp), σ = [some (.ref b), some (.ref l), some (.ref r), some (.ref s), some (.ref m), v1, v2, v3] ∧ Mv K b G H r s m rs ts acc cs G' H' ∧ (∀ x ∈ rs, okS 40 x) ∧ rs.length ≤ 16 ∧ (∀ x ∈ ts, okS 40 x) ∧ ts.length ≤ i ∧ (∀ c ∈ cs, okP 40 c) ∧ cs.length ≤ i))
      (.go ⟨none, none, none, ss, [], [], [], G, rfl, M1, hok, hlen, fun _ h => absurd h (by simp), Nat.le_refl _, fun _ h => absurd h (by simp), Nat.le_refl _⟩) ?_ ?_
    · intro i σ H2 hi hm
      obtain ⟨v1, v2, v3, rs, ts, acc, cs, G2, rfl, M2, ok1, ok2, ok3, ok4, ok5, ok6⟩ := hm.out
      have B2 := M2.bx
      walk_at "rd"
      walk_at "dr"
      intro n1 H3 p1 q1 B3 x3
      have M3 := M2.draw A B3 x3
      walk_at "rd"
      intro e he
      have M4 := M3.new (o := .lst []) he
      refine ⟨_, _, .lst (SqL.of M4.er) (DpAll.of_strs rs), .lst (SqL.of upd_same) .nil, (shaped_strs rs ok1).1, rfl, ?_⟩
      rw [eqv_empty, isE_map]
      walk_at "rd"
      by_cases hrs : rs = []
      · refine ifF (by simp [hrs]) ?_
        have M5 := M4
        walk_at "rd"
        intro e2 he2
        have M6 := M5.new (o := .lst []) he2
        refine ⟨_, _, .lst (SqL.of M6.es) (DpAll.of_strs ts), .lst (SqL.of upd_same) .nil, (shaped_strs ts ok3).1, rfl, ?_⟩
        rw [eqv_empty, isE_map]
        walk_at "rd"
        by_cases hts : ts = []
        · subst hts
          refine ifF (by simp) ?_
          exact .go ⟨_, _, _, _, _, _, _, _, rfl, M6, ok1, ok2, ok3, by omega, ok5, by omega⟩
        · refine ifT (by simp [hts]) ?_
          walk_at "rd"
          refine ⟨.inl ⟨rfl, _, SqL.of M6.em⟩, ?_⟩
          walk_at "rd"
          refine ⟨.inl ⟨rfl, _, SqL.of M6.es⟩, ?_⟩
          walk_at "rd"
          obtain ⟨us, y, rfl⟩ : ∃ us y, ts = us ++ [y] := ⟨_, _, (List.dropLast_concat_getLast hts).symm⟩
          have oky : okS 40 y := ok3 y (by simp)
          refine ⟨s, (us ++ [y]).map V.str, .str y, rfl, rfl, M6.es, by simp, ?_⟩
          rw [← List.map_dropLast, List.dropLast_concat]
          have M7 := M6.putS A us
          rw [List.length_append, List.length_singleton] at ok4
          walk_at "rd"
          intro t ht
          have M9 := M7.newG (o := .tup [.str "take", .str y]) ht
          walk_at "rd"
          refine ⟨m, _, .ref t, rfl, rfl, M9.em, by rw [DpAll.length M9.ds, List.length_map, sizeLine_eq]; omega, ?_⟩
          have M10 := M9.putM A (Dp.mk_spair (a := "take") (b := y) (SqT.of upd_same))
          refine .go ⟨_, _, _, _, _, _, _, _, rfl, M10, ok1, ok2, fun x hx => ok3 x (List.mem_append_left _ hx), by omega, ?_, by rw [List.length_append, List.length_singleton]; omega⟩
          exact fun x hx => (List.mem_append.mp hx).elim (ok5 x) fun h => by rw [List.mem_singleton.mp h]; exact ⟨by first | exact ok_put | exact ok_take, oky⟩
      · refine ifT (by simp [hrs]) ?_
        walk_at "rd"
        walk_at "br"
        · have M5 := M4
          walk_at "rd"
          have er5 := M5.er
          have lr5 : 0 < ((rs.map V.str).length : Int) := by
            rw [List.length_map]
            have : rs.length ≠ 0 := fun z => hrs (List.eq_nil_of_length_eq_zero z)
            omega
          have lr6 : ((rs.map V.str).length : Int) < 2 ^ 63 := by rw [List.length_map]; omega
          have B5 := M5.bx
          refine ⟨.inl ⟨rfl, _, SqL.of er5⟩, ?_⟩
          refine ⟨_, rfl, ?_⟩
          refine ⟨_, rfl, ?_⟩
          refine ⟨_, _, rfl, .inl (SqL.of er5), ?_⟩
          refine ⟨b, _, rfl, B5, lr5, lr6, ?_⟩
          walk_at "dr"
          intro n2 H6 p2 q2 B6 x6
          have M6 := M5.draw A B6 x6
          rw [List.length_map] at q2
          obtain ⟨y, hy⟩ : ∃ y, rs[n2.toNat]? = some y := ⟨rs[n2.toNat]'(by omega), List.getElem?_eq_getElem _⟩
          have oky : okS 40 y := ok1 y (List.mem_of_getElem? hy)
          walk_at "rd"
          refine ⟨r, rs.map V.str, n2, n2.toNat, .str y, rfl, rfl, M6.er, by omega, by omega, seq_ix p2 (by rw [List.length_map]; omega), by rw [List.getElem?_map, hy]; rfl, ?_⟩
          rw [erase_map]
          have M7 := M6.putR A (rs.eraseIdx n2.toNat)
          walk_at "rd"
          refine ⟨.inl ⟨rfl, _, SqL.of M7.es⟩, ?_⟩
          walk_at "rd"
          refine ⟨s, _, .str y, rfl, rfl, M7.es, by rw [List.length_map, sizeLine_eq]; omega, ?_⟩
          have M8 := M7.putS A (ts ++ [y])
          rw [List.map_append] at M8
          walk_at "rd"
          refine ⟨.inl ⟨rfl, _, SqL.of M8.em⟩, ?_⟩
          walk_at "rd"
          intro t ht
          have M9 := M8.newG (o := .tup [.str "put", .str y]) ht
          walk_at "rd"
          refine ⟨m, _, .ref t, rfl, rfl, M9.em, by rw [DpAll.length M9.ds, List.length_map, sizeLine_eq]; omega, ?_⟩
          have M10 := M9.putM A (Dp.mk_spair (a := "put") (b := y) (SqT.of upd_same))
          refine .go ⟨_, _, _, _, _, _, _, _, rfl, M10, fun x hx => ok1 x (erase_mem hx), Nat.le_trans (List.length_eraseIdx_le _ _) ok2, ?_, by rw [List.length_append, List.length_singleton]; omega, ?_, by rw [List.length_append, List.length_singleton]; omega⟩
          · exact fun x hx => (List.mem_append.mp hx).elim (ok3 x) fun h => by rw [List.mem_singleton.mp h]; exact oky
          · exact fun x hx => (List.mem_append.mp hx).elim (ok5 x) fun h => by rw [List.mem_singleton.mp h]; exact ⟨by first | exact ok_put | exact ok_take, oky⟩
        · walk_at "rd"
          intro e1 he1
          have M5 := M4.new (o := .lst []) he1
          refine ⟨_, _, .lst (SqL.of M5.es) (DpAll.of_strs ts), .lst (SqL.of upd_same) .nil, (shaped_strs ts ok3).1, rfl, ?_⟩
          rw [eqv_empty, isE_map]
          walk_at "rd"
          by_cases hts : ts = []
          · refine ifT (by simp [hts]) ?_
            walk_at "rd"
            have er5 := M5.er
            have lr5 : 0 < ((rs.map V.str).length : Int) := by
              rw [List.length_map]
              have : rs.length ≠ 0 := fun z => hrs (List.eq_nil_of_length_eq_zero z)
              omega
            have lr6 : ((rs.map V.str).length : Int) < 2 ^ 63 := by rw [List.length_map]; omega
            have B5 := M5.bx
            refine ⟨.inl ⟨rfl, _, SqL.of er5⟩, ?_⟩
            refine ⟨_, rfl, ?_⟩
            refine ⟨_, rfl, ?_⟩
            refine ⟨_, _, rfl, .inl (SqL.of er5), ?_⟩
            refine ⟨b, _, rfl, B5, lr5, lr6, ?_⟩
            walk_at "dr"
            intro n2 H6 p2 q2 B6 x6
            have M6 := M5.draw A B6 x6
            rw [List.length_map] at q2
            obtain ⟨y, hy⟩ : ∃ y, rs[n2.toNat]? = some y := ⟨rs[n2.toNat]'(by omega), List.getElem?_eq_getElem _⟩
            have oky : okS 40 y := ok1 y (List.mem_of_getElem? hy)
            walk_at "rd"
            refine ⟨r, rs.map V.str, n2, n2.toNat, .str y, rfl, rfl, M6.er, by omega, by omega, seq_ix p2 (by rw [List.length_map]; omega), by rw [List.getElem?_map, hy]; rfl, ?_⟩
            rw [erase_map]
            have M7 := M6.putR A (rs.eraseIdx n2.toNat)
            walk_at "rd"
            refine ⟨.inl ⟨rfl, _, SqL.of M7.es⟩, ?_⟩
            walk_at "rd"
            refine ⟨s, _, .str y, rfl, rfl, M7.es, by rw [List.length_map, sizeLine_eq]; omega, ?_⟩
            have M8 := M7.putS A (ts ++ [y])
            rw [List.map_append] at M8
            walk_at "rd"
            refine ⟨.inl ⟨rfl, _, SqL.of M8.em⟩, ?_⟩
            walk_at "rd"
            intro t ht
            have M9 := M8.newG (o := .tup [.str "put", .str y]) ht
            walk_at "rd"
            refine ⟨m, _, .ref t, rfl, rfl, M9.em, by rw [DpAll.length M9.ds, List.length_map, sizeLine_eq]; omega, ?_⟩
            have M10 := M9.putM A (Dp.mk_spair (a := "put") (b := y) (SqT.of upd_same))
            refine .go ⟨_, _, _, _, _, _, _, _, rfl, M10, fun x hx => ok1 x (erase_mem hx), Nat.le_trans (List.length_eraseIdx_le _ _) ok2, ?_, by rw [List.length_append, List.length_singleton]; omega, ?_, by rw [List.length_append, List.length_singleton]; omega⟩
            · exact fun x hx => (List.mem_append.mp hx).elim (ok3 x) fun h => by rw [List.mem_singleton.mp h]; exact oky
            · exact fun x hx => (List.mem_append.mp hx).elim (ok5 x) fun h => by rw [List.mem_singleton.mp h]; exact ⟨by first | exact ok_put | exact ok_take, oky⟩
          · refine ifF (by simp [hts]) ?_
            walk_at "rd"
            intro e2 he2
            have M6 := M5.new (o := .lst []) he2
            refine ⟨_, _, .lst (SqL.of M6.es) (DpAll.of_strs ts), .lst (SqL.of upd_same) .nil, (shaped_strs ts ok3).1, rfl, ?_⟩
            rw [eqv_empty, isE_map]
            walk_at "rd"
            refine ifT (by simp [hts]) ?_
            walk_at "rd"
            refine ⟨.inl ⟨rfl, _, SqL.of M6.em⟩, ?_⟩
            walk_at "rd"
            refine ⟨.inl ⟨rfl, _, SqL.of M6.es⟩, ?_⟩
            walk_at "rd"
            obtain ⟨us, y, rfl⟩ : ∃ us y, ts = us ++ [y] := ⟨_, _, (List.dropLast_concat_getLast hts).symm⟩
            have oky : okS 40 y := ok3 y (by simp)
            refine ⟨s, (us ++ [y]).map V.str, .str y, rfl, rfl, M6.es, by simp, ?_⟩
            rw [← List.map_dropLast, List.dropLast_concat]
            have M7 := M6.putS A us
            rw [List.length_append, List.length_singleton] at ok4
            walk_at "rd"
            intro t ht
            have M9 := M7.newG (o := .tup [.str "take", .str y]) ht
            walk_at "rd"
            refine ⟨m, _, .ref t, rfl, rfl, M9.em, by rw [DpAll.length M9.ds, List.length_map, sizeLine_eq]; omega, ?_⟩
            have M10 := M9.putM A (Dp.mk_spair (a := "take") (b := y) (SqT.of upd_same))
            refine .go ⟨_, _, _, _, _, _, _, _, rfl, M10, ok1, ok2, fun x hx => ok3 x (List.mem_append_left _ hx), by omega, ?_, by rw [List.length_append, List.length_singleton]; omega⟩
            exact fun x hx => (List.mem_append.mp hx).elim (ok5 x) fun h => by rw [List.mem_singleton.mp h]; exact ⟨by first | exact ok_put | exact ok_take, oky⟩
    · intro σ H2 hm
      obtain ⟨v1, v2, v3, rs, ts, acc, cs, G2, rfl, M2, ok1, ok2, ok3, ok4, ok5, ok6⟩ := hm.out
      walk_at "rd"
      refine k m (L2.upd G2 m (.lst acc)) H2 cs ⟨?_, M2.gg.trans (Same.add M2.gm), by rw [upd_ne A.mb.symm]; exact M2.gb, M2.hh⟩ (.lst (SqL.of upd_same) (DpAll.same (Same.add M2.gm) M2.ds)) ⟨ok5, by omega⟩ M2.bx
      intro q u e
      by_cases nq : q = m
      · subst nq
        rw [upd_same] at e
        exact M2.em.trans e
      · rw [upd_ne nq] at e
        exact M2.vw _ _ e
end
end Toy
set_option Elab.async false
set_option linter.all false
set_option maxRecDepth 100000
set_option maxHeartbeats 4000000
namespace Toy
open PySem L2 XR
local macro_rules | `(tactic| walk_at "ne") => `(tactic| first | assumption | (apply Ne.symm; assumption) | exact XR.ne_fresh (by assumption) (by walk_at "hp") | exact Ne.symm (XR.ne_fresh (by assumption) (by walk_at "hp")))
local macro_rules | `(tactic| walk_at "hp") => `(tactic| first | assumption | exact upd_same | (refine Eq.trans (upd_ne ?_) ?_; (walk_at "ne"); walk_at "hp"))
local macro_rules | `(tactic| walk_at "sq") => `(tactic| first | walk_at "hp" | exact SqL.of (by walk_at "hp") | exact SqT.of (by walk_at "hp") | exact XR.SqT.same (by assumption) (by assumption) | exact XR.SqL.same (by assumption) (by assumption))
local macro_rules | `(tactic| walk_at "br") => `(tactic| (refine ite2 ?_ ?_ <;> intro hbr <;> (try simp only [decide_eq_true_eq, decide_eq_false_iff_not, V.int.injEq, V.bl.injEq, V.str.injEq, Bool.not_eq_true, Bool.not_eq_eq_eq_not, Bool.not_true, Bool.not_false, ne_eq, Int.reduceToNat, Int.reducePow, Int.reduceMul, Int.reduceAdd, Int.reduceSub, reduceCtorEq, not_true_eq_false, not_false_eq_true, Int.not_lt, Int.not_le] at hbr)))
local macro_rules | `(tactic| walk_at "side") => `(tactic| first
  | exact ⟨by decide, by decide, by decide⟩
  | exact .inl ⟨by decide, by decide⟩
  | exact .inr ⟨by decide, by decide⟩
  | exact XR.divw (by first | decide | omega) (by first | decide | omega)
  | (show (_ : Int) = _; first | rfl | omega)
  | (show (0 : Int) < _; first | decide | assumption | omega)
  | exact .inl ⟨by omega, by omega⟩
  | exact .inr ⟨by omega, by omega⟩
  | exact .inl (XR.cmul_mod (by decide))
  | exact XR.log_lt (by omega) (by omega)
  | decide
  | (rw [sizeLine_eq]; simp; done)
  | (show 2 ≤ sizeLine; decide) | (show 3 ≤ sizeLine; decide) | (show 4 ≤ sizeLine; decide) | (show 5 ≤ sizeLine; decide) | (show 6 ≤ sizeLine; decide) | (show 7 ≤ sizeLine; decide) | (show 1 ≤ sizeLine; decide) | (show 8 ≤ sizeLine; decide) | (show 0 ≤ sizeLine; decide))
local macro_rules | `(tactic| walk_at "rd1") => `(tactic| first
  | refine ⟨_, rfl, ?_⟩
  | refine ⟨_, _, rfl, rfl, ?_⟩
  | refine ⟨_, _, _, _, rfl, rfl, (by walk_at "sq"), rfl, ?_⟩
  | refine ⟨_, _, _, _, rfl, rfl, (by walk_at "hp"), (by walk_at "hp"), (by walk_at "side"), ?_⟩
  | refine ⟨_, _, rfl, .inl (by walk_at "sq"), ?_⟩
  | refine ⟨_, _, rfl, .inl ⟨(by walk_at "sq"), ?_⟩⟩
  | refine ⟨_, _, rfl, .inr (by walk_at "sq"), ?_⟩
  | refine ⟨_, _, _, _, _, rfl, (by walk_at "hp"), (by walk_at "cls"), (by walk_at "noat"), rfl, ?_⟩
  | refine ⟨_, _, _, _, rfl, rfl, (by walk_at "sq"), (by first | assumption | exact XR.at0 | exact XR.at1), ?_⟩
  | refine ⟨rfl, ?_⟩
  | refine And.intro (by walk_at "side") ?_
  | refine .inl ⟨_, rfl, ?_⟩
  | refine And.intro ⟨_, (by walk_at "sq")⟩ ?_
  | refine ⟨_, _, rfl, (by walk_at "sq"), ?_⟩
  | refine ⟨_, _, rfl, ?_⟩
  | refine .inr ⟨_, rfl, (by walk_at "side"), ?_⟩
  | refine ⟨_, _, _, rfl, (by walk_at "hp"), ?_⟩
  | refine iteT ?_
  | refine iteF ?_)
local macro_rules | `(tactic| walk_at "rd") => `(tactic| repeat (walk_at "rd1"))
local macro_rules | `(tactic| walk_at "nn") => `(tactic| (simp only [Int.reduceToNat, Int.reducePow, Int.reduceMul, Int.reduceAdd, Int.reduceSub, Int.reduceNeg]))
local macro_rules | `(tactic| walk_at "dr") => `(tactic| repeat (first | refine And.intro (by first | assumption | walk_at "pre") ?_ | refine And.intro (by first | decide | omega) ?_))
local macro_rules | `(tactic| walk_at "pre") => `(tactic| first | assumption | exact BoxAt.new (by walk_at "pre") (by assumption) | exact BoxAt.put (by walk_at "pre") (by assumption) | exact BoxAt.same (by walk_at "pre") (by assumption))
section
variable {P : Program} {w : World} {K : PySem.W.Frag} {mg : Str → Option Value} {base : Heap} {D : Ad}
def gPair (c : Str × Str) : Prop := okP 40 c
theorem ss_at {K : PySem.W.Frag} {G : Hp} {xs : List V} {cs : List (Str × Str)} {i : Int} (h : DpAll K G xs (sDs cs)) (h0 : 0 ≤ i) (h1 : i < (cs.length : Int)) : ∃ c p, c ∈ cs ∧ atI xs i = some (.ref p) ∧ SqT K G p [.str c.1, .str c.2] ∧ Dp K G (.ref p) (sD c) := by
  have hl : i.toNat < cs.length := by omega
  obtain ⟨x, hx, q⟩ := DpAll.get' (i := i.toNat) (d := sD cs[i.toNat]) h (by rw [List.getElem?_map, List.getElem?_eq_getElem hl]; rfl)
  obtain ⟨p, rfl, s⟩ := Dp.spair q
  have e := atI_nat hx
  rw [show ((i.toNat : Nat) : Int) = i by omega] at e
  exact ⟨_, p, List.getElem_mem hl, e, s, q⟩
def spWild (K : PySem.W.Frag) : Sp := fun vs H Q _ => ∃ (b l m : Addr) (ss : List Str) (cs : List (Str × Str)) (G : Hp), vs = [.ref b, .ref l, .ref m] ∧ BoxAt H b ∧ Same G H ∧ G b = none ∧ G l = some (.lst (ss.map V.str)) ∧ ss.length ≤ 16 ∧ (∀ s ∈ ss, okS 40 s) ∧
  Dp K G (.ref m) (.list (sDs cs)) ∧ MovesOk cs ∧ ∀ p G' H' c, StB b G H G' H' → Dp K G' (.ref p) (sD c) → okP 40 c → BoxAt H' b → Q (.ref p) H'
theorem sc__law_wild : FnScope ["_law_bag_here", "_law_rolls_here", "_law_moves_here", "_law_way", "_law_roll", "_law_word"] ["_law_bag_here", "_law_rolls_here", "_law_moves_here"] (defScope s__law_wild) := ⟨rfl, rfl, rfl, by decide +kernel, rfl, by decide +kernel, by decide +kernel⟩
theorem ok__law_wild (T : Txt K mg D) : FnOk P w K mg base CX0 3 D.a__law_wild D.d__law_wild ["_law_bag_here", "_law_rolls_here", "_law_moves_here"] (spWild K) := by
  have G__law_take := ok__law_take (P := P) (w := w) (base := base) T
  refine T.F__law_wild.ok sc__law_wild (fun vs H Q E h => ?_) (fun cdv A outer s H vs Q E hr h => ?_)
  · obtain ⟨b, l, m, ss, cs, G, rfl, _⟩ := h
    rfl
  · obtain ⟨b, l, m, ss, cs, G, rfl, B, gv, gb, hl, hlen, hok, hm, ⟨hc1, hc2⟩, k⟩ := h
    refine ⟨_, (pss_cons (ps_set (i := 3) sc__law_wild.nd rfl (Or.inl rfl) (pe_call G__law_take (hr.mono (by decide)) (by rfl) T.g__law_take T.F__law_take.kp T.b__law_take .nil pass0 (pa_cons (pv 0) (pa_cons pe_int pa_nil))))
      (pss_cons (ps_set (i := 4) sc__law_wild.nd rfl (Or.inl rfl) (pe_ix ix_list (pe_op op_cat (pv 1) (pe_lst (pa_cons pe_str pa_nil))) (pe_call G__law_take (hr.mono (by decide)) (by rfl) T.g__law_take T.F__law_take.kp T.b__law_take .nil pass0 (pa_cons (pv 0) (pa_cons (pe_op op_add (pe_callB call_len_seq (by rfl) T.n_len (by decide +kernel) (pa_cons (pv 1) pa_nil)) pe_int) pa_nil))) (fun _ _ => rfl)))
      (pss_cons (ps_set (i := 5) sc__law_wild.nd rfl (Or.inl rfl) (pe_ix ix_list (pe_lst (pa_cons pe_str (pa_cons pe_str (pa_cons pe_str (pa_cons pe_str (pa_cons pe_str (pa_cons pe_str pa_nil))))))) (pe_call G__law_take (hr.mono (by decide)) (by rfl) T.g__law_take T.F__law_take.kp T.b__law_take .nil pass0 (pa_cons (pv 0) (pa_cons pe_int pa_nil))) (fun _ _ => rfl)))
      (pss_cons (ps_if (pt_cmpR op_eq (pv 3) pe_int (nomark _))
      (pss_one (ps_ret (pe_tup (pa_cons pe_str (pa_cons (pv 4) pa_nil)))))
      pss_nil)
      (Evl.pss_cut (ps_if (PW.pt (pw_and (pt_cmpR op_eq (pv 3) pe_int (nomark _)) (pw_and1 (pt_cmpR (op_neD hr.units) (pv 2) (pe_lst pa_nil) (nomark _)))))
      (pss_one (ps_ret (pe_ix ix_list (pv 2) (pe_call G__law_take (hr.mono (by decide)) (by rfl) T.g__law_take T.F__law_take.kp T.b__law_take .nil pass0 (pa_cons (pv 0) (pa_cons (pe_callB call_len_seq (by rfl) T.n_len (by decide +kernel) (pa_cons (pv 2) pa_nil)) pa_nil))) (fun _ _ => rfl))))
      pss_nil)
      (pss_cons (ps_if (pt_cmpR op_eq (pv 3) pe_int (nomark _))
      (pss_one (ps_ret (pe_tup (pa_cons (pv 5) (pa_cons (pv 4) pa_nil)))))
      pss_nil)
      (Evl.pss_cut (ps_if (PW.pt (pw_and (pt_cmpR op_eq (pv 3) pe_int (nomark _)) (pw_and1 (pt_cmpR (op_neD hr.units) (pv 2) (pe_lst pa_nil) (nomark _)))))
      (pss_one (ps_ret (pe_tup (pa_cons (pv 5) (pa_cons (pe_ix ix_tup (pe_ix ix_list (pv 2) (pe_un un_neg pe_int) (fun _ _ => rfl)) pe_int (fun _ _ => rfl)) pa_nil)))))
      pss_nil)
      (pss_one (ps_ret (pe_tup (pa_cons pe_str (pa_cons (pv 4) pa_nil)))))))))))), ?_⟩
    walk_at "rd"
    walk_at "dr"
    intro r1 H1 p1 q1 B1 x1
    walk_at "rd"
    have S0 : StB b G H G H := StB.refl gv gb
    have S1 := S0.draw x1
    obtain ⟨m', mxs, em, hsm, dsm⟩ := Dp.lst_inv hm
    cases em
    intro p hp
    have S2 := S1.mut (o := .lst [V.str "!"]) hp
    have B2 : BoxAt (L2.upd H1 p (.lst [V.str "!"])) b := B1.new hp
    have hl2 := S2.vw _ _ (S2.gg _ _ hl)
    have hp2 : (L2.upd H1 p (.lst [V.str "!"])) p = some (.lst [V.str "!"]) := upd_same
    generalize L2.upd H1 p (.lst [V.str "!"]) = H2 at S2 B2 hl2 hp2 ⊢
    refine ⟨l, p, _, _, rfl, rfl, hl2, hp2, by simp only [List.length_cons, List.length_nil, List.length_map]; rw [sizeLine_eq]; omega, ?_⟩
    intro q hq
    have S3 := S2.mut (o := .lst (ss.map V.str ++ [V.str "!"])) hq
    have B3 := B2.new (o := .lst (ss.map V.str ++ [V.str "!"])) hq
    have hl3 := S3.vw _ _ (S3.gg _ _ hl)
    have nqb : q ≠ b := BoxAt.ne B2 hq
    have hq3 : (L2.upd H2 q (.lst (ss.map V.str ++ [V.str "!"]))) q = some (.lst ((ss ++ [Str.ofString "!"]).map V.str)) := by rw [List.map_append]; exact upd_same
    generalize L2.upd H2 q (.lst (ss.map V.str ++ [V.str "!"])) = H3 at S3 B3 hl3 hq3 ⊢
    have ok3 : ∀ x ∈ ss ++ [Str.ofString "!"], okS 40 x := fun x hx => (List.mem_append.mp hx).elim (hok x) fun h => by rw [List.mem_singleton.mp h]; exact ⟨by decide +kernel, by decide +kernel⟩
    refine ⟨_, rfl, ?_⟩
    refine ⟨_, rfl, ?_⟩
    refine ⟨_, _, rfl, .inl (SqL.of hl3), ?_⟩
    refine ⟨_, _, rfl, rfl, ?_⟩
    rw [List.length_map]
    refine ⟨b, _, rfl, B3, by omega, by omega, ?_⟩
    intro r2 H4 p2 q2 B4 x4
    have S4 := S3.draw x4
    have hq4 := x4 _ _ nqb hq3
    obtain ⟨y, hy, oky, _⟩ := strs_at (ss ++ [Str.ofString "!"]) p2 (by rw [List.length_append, List.length_singleton]; omega) ok3
    refine ⟨_, _, _, _, rfl, rfl, SqL.of hq4, hy, ?_⟩
    walk_at "rd"
    intro q5 hq5
    walk_at "rd"
    have S5 := S4.mut (o := .lst ([Str.ofString "lay", Str.ofString "Put", Str.ofString "Take", Str.ofString "", Str.ofString "put ", Str.ofString "taken"].map V.str)) hq5
    have B5 : BoxAt (L2.upd H4 q5 (.lst ([Str.ofString "lay", Str.ofString "Put", Str.ofString "Take", Str.ofString "", Str.ofString "put ", Str.ofString "taken"].map V.str))) b := B4.new hq5
    have hq6 : (L2.upd H4 q5 (.lst ([Str.ofString "lay", Str.ofString "Put", Str.ofString "Take", Str.ofString "", Str.ofString "put ", Str.ofString "taken"].map V.str))) q5 = some (.lst ([Str.ofString "lay", Str.ofString "Put", Str.ofString "Take", Str.ofString "", Str.ofString "put ", Str.ofString "taken"].map V.str)) := upd_same
    refine ⟨B5, by decide, by decide, fun r3 H6 p3 q3 B6 x6 => ?_⟩
    have S6 := S5.draw x6
    have hq7 := x6 _ _ (BoxAt.ne B4 hq5) hq6
    obtain ⟨wd, hw, okw, _⟩ := strs_at (n := 40) [Str.ofString "lay", Str.ofString "Put", Str.ofString "Take", Str.ofString "", Str.ofString "put ", Str.ofString "taken"] p3 q3 (by show ∀ s ∈ _, PyData.strOk s = true ∧ s.length ≤ 40; decide +kernel)
    refine ⟨_, _, _, _, rfl, rfl, SqL.of hq7, hw, ?_⟩
    have fin : ∀ Gk Hk, StB b G H Gk Hk → BoxAt Hk b → ∀ w z, okS 40 w → okS 40 z → ∀ t, Hk t = none → Q (.ref t) (L2.upd Hk t (.tup [.str w, .str z])) := fun Gk Hk S B w z ow oz t ht =>
      k t _ _ (w, z) (S.new ht (BoxAt.ne B ht)) (Dp.mk_spair (SqT.of upd_same)) ⟨ow, oz⟩ (B.new ht)
    have hlist : ∀ Gk Hk, StB b G H Gk Hk → Dp K Hk (.ref m) (.list (sDs cs)) := fun Gk Hk S => .lst (SqL.same (SqL.same hsm S.gg) S.vw) (DpAll.same S.vw (DpAll.same S.gg dsm))
    walk_at "rd"
    walk_at "br"
    · walk_at "rd"
      exact fin _ _ S6 B6 _ _ ok_put oky
    · walk_at "rd"
      refine ⟨fun σ' H' => Stop (σ' = [some (.ref b), some (.ref l), some (.ref m), some (.int r1), some (.str y), some (.str wd)] ∧ ∃ G', StB b G H G' H' ∧ BoxAt H' b), ?_, fun σ7 H7 hm => ?_⟩
      · walk_at "rd"
        walk_at "br"
        · walk_at "rd"
          intro e he
          have S7 := S6.mut (o := .lst []) he
          have B7 := B6.new (o := .lst []) he
          refine ⟨_, _, hlist _ _ S7, .lst (SqL.of upd_same) .nil, shaped_sDs cs hc1, rfl, ?_⟩
          rw [eqv_empty, isE_map]
          walk_at "rd"
          by_cases hcs : cs = []
          · subst hcs
            refine ifF (by simp) ?_
            exact .go ⟨rfl, _, S7, B7⟩
          · refine ifT (by simp [hcs]) ?_
            have hm7 := SqL.same (SqL.same hsm S7.gg) S7.vw
            have lm : mxs.length = cs.length := by rw [DpAll.length dsm, List.length_map]
            have lc : cs.length ≠ 0 := fun z => hcs (List.eq_nil_of_length_eq_zero z)
            refine ⟨_, rfl, ?_⟩
            refine ⟨_, rfl, ?_⟩
            refine ⟨_, rfl, ?_⟩
            refine ⟨_, _, rfl, .inl hm7, ?_⟩
            rw [lm]
            refine ⟨b, _, rfl, B7, by omega, by omega, fun r4 H8 p4 q4 B8 x8 => ?_⟩
            have S8 := S7.draw x8
            obtain ⟨c, t, hc, hat, sq, dp⟩ := ss_at (DpAll.same S8.gg dsm) p4 q4
            refine ⟨_, _, _, _, rfl, rfl, SqL.same (SqL.same hsm S8.gg) S8.vw, hat, ?_⟩
            exact k t _ _ c S8 dp (hc1 c hc) B8
        · exact .go ⟨rfl, _, S6, B6⟩
      obtain ⟨rfl, G7, S7, B7⟩ := hm.out
      walk_at "rd"
      walk_at "br"
      · walk_at "rd"
        exact fin _ _ S7 B7 _ _ okw oky
      · walk_at "rd"
        refine ⟨fun σ' H' => Stop (σ' = [some (.ref b), some (.ref l), some (.ref m), some (.int r1), some (.str y), some (.str wd)] ∧ ∃ G', StB b G H G' H' ∧ BoxAt H' b), ?_, fun σ8 H8 hm => ?_⟩
        · walk_at "rd"
          walk_at "br"
          · walk_at "rd"
            intro e he
            have S8 := S7.mut (o := .lst []) he
            have B8 := B7.new (o := .lst []) he
            refine ⟨_, _, hlist _ _ S8, .lst (SqL.of upd_same) .nil, shaped_sDs cs hc1, rfl, ?_⟩
            rw [eqv_empty, isE_map]
            walk_at "rd"
            by_cases hcs : cs = []
            · subst hcs
              refine ifF (by simp) ?_
              exact .go ⟨rfl, _, S8, B8⟩
            · refine ifT (by simp [hcs]) ?_
              have hm8 := SqL.same (SqL.same hsm S8.gg) S8.vw
              obtain ⟨cs0, c, rfl⟩ : ∃ us y, cs = us ++ [y] := ⟨_, _, (List.dropLast_concat_getLast hcs).symm⟩
              have dsm2 := DpAll.same S8.vw (DpAll.same S8.gg dsm)
              rw [show sDs (cs0 ++ [c]) = sDs cs0 ++ [sD c] from List.map_append] at dsm2
              obtain ⟨ys, v, rfl, d1, d2⟩ := DpAll.snoc_inv dsm2
              obtain ⟨t, rfl, sq⟩ := Dp.spair d2
              have al := atI_last ys (.ref t)
              refine ⟨_, rfl, ?_⟩
              refine ⟨_, rfl, ?_⟩
              refine ⟨_, rfl, ?_⟩
              refine ⟨_, _, _, _, rfl, rfl, hm8, al, ?_⟩
              refine ⟨_, _, _, _, rfl, rfl, sq, XR.at1, ?_⟩
              walk_at "rd"
              exact fin _ _ S8 B8 _ _ okw (hc1 c (by simp)).2
          · exact .go ⟨rfl, _, S7, B7⟩
        obtain ⟨rfl, G8, S8, B8⟩ := hm.out
        walk_at "rd"
        exact fin _ _ S8 B8 _ _ ok_take oky
theorem DpAll.drop {K : PySem.W.Frag} {G : Hp} : ∀ {xs : List V} {ds : List PyData} (n : Nat), DpAll K G xs ds → DpAll K G (xs.drop n) (ds.drop n)
  | _, _, 0, h => h
  | _, _, _ + 1, .nil => .nil
  | _, _, n + 1, .cons _ b => DpAll.drop n b
theorem DpAll.take {K : PySem.W.Frag} {G : Hp} : ∀ {xs : List V} {ds : List PyData} (n : Nat), DpAll K G xs ds → DpAll K G (xs.take n) (ds.take n)
  | _, _, 0, _ => .nil
  | _, _, _ + 1, .nil => .nil
  | _, _, n + 1, .cons a b => .cons a (DpAll.take n b)
theorem cutV_dp {K : PySem.W.Frag} {G : Hp} {xs : List V} {cs : List (Str × Str)} (h : DpAll K G xs (sDs cs)) (lo hi : Option Int) : ∃ ds, DpAll K G (cutV xs lo hi) (sDs ds) ∧ (∀ c ∈ ds, c ∈ cs) ∧ ds.length ≤ cs.length := by
  unfold cutV
  generalize HT.sIx xs.length xs.length hi - HT.sIx xs.length 0 lo = a
  generalize HT.sIx xs.length 0 lo = j
  refine ⟨(cs.drop j).take a, ?_, fun c hc => List.mem_of_mem_drop (List.mem_of_mem_take hc), by rw [List.length_take, List.length_drop]; omega⟩
  rw [sDs, List.map_take, List.map_drop]
  exact DpAll.take _ (DpAll.drop _ h)
def spSpoilt (K : PySem.W.Frag) : Sp := fun vs H Q _ => ∃ (b l m : Addr) (ss : List Str) (cs : List (Str × Str)) (G : Hp), vs = [.ref b, .ref l, .ref m] ∧ BoxAt H b ∧ Same G H ∧ G b = none ∧ G l = some (.lst (ss.map V.str)) ∧ ss.length ≤ 16 ∧ (∀ s ∈ ss, okS 40 s) ∧
  Dp K G (.ref m) (.list (sDs cs)) ∧ MovesOk cs ∧ ∀ p G' H' cs', StB b G H G' H' → Dp K G' (.ref p) (.list (sDs cs')) → (∀ c ∈ cs', okP 40 c) → cs'.length ≤ 132 → BoxAt H' b → Q (.ref p) H'
theorem sc__law_spoilt : FnScope ["_law_bag_here", "_law_rolls_here", "_law_moves_here", "_law_spoilt_here", "_law_k", "_law_at"] ["_law_bag_here", "_law_rolls_here", "_law_moves_here"] (defScope s__law_spoilt) := ⟨rfl, rfl, rfl, by decide +kernel, rfl, by decide +kernel, by decide +kernel⟩
theorem ok__law_spoilt (T : Txt K mg D) : FnOk P w K mg base CX0 5 D.a__law_spoilt D.d__law_spoilt ["_law_bag_here", "_law_rolls_here", "_law_moves_here"] (spSpoilt K) := by
  have G__law_take := ok__law_take (P := P) (w := w) (base := base) T
  have G__law_wild := ok__law_wild (P := P) (w := w) (base := base) T
  refine T.F__law_spoilt.ok sc__law_spoilt (fun vs H Q E h => ?_) (fun cdv A outer s H vs Q E hr h => ?_)
  · obtain ⟨b, l, m, ss, cs, G, rfl, _⟩ := h
    rfl
  · obtain ⟨b, l, m, ss, cs, G, rfl, B, gv, gb, hl, hlen, hok, hm, hcs, k⟩ := h
    refine ⟨_, (pss_cons (ps_set (i := 3) sc__law_spoilt.nd rfl (Or.inl rfl) (pe_callTy call_list_of (by rfl) T.n_list (by decide +kernel) (pa_cons (pv 2) pa_nil)))
      (pss_cons (ps_for PassesOwn.never rfl (pi_range1 (by rfl) T.n_range (pa_cons (pe_call G__law_take (hr.mono (by decide)) (by rfl) T.g__law_take T.F__law_take.kp T.b__law_take .nil pass0 (pa_cons (pv 0) (pa_cons pe_int pa_nil))) pa_nil)) (pg_name (i := 4) sc__law_spoilt.nd rfl (Or.inl rfl))
      (pss_cons (ps_set (i := 5) sc__law_spoilt.nd rfl (Or.inl rfl) (pe_call G__law_take (hr.mono (by decide)) (by rfl) T.g__law_take T.F__law_take.kp T.b__law_take .nil pass0 (pa_cons (pv 0) (pa_cons (pe_op op_add (pe_callB call_len_seq (by rfl) T.n_len (by decide +kernel) (pa_cons (pv 3) pa_nil)) pe_int) pa_nil))))
      (pss_one (ps_set (i := 3) sc__law_spoilt.nd rfl (Or.inl rfl) (pe_op op_cat (pe_op op_cat (pe_slice sl_list (pv 3) po_none (po_some (pv 5))) (pe_lst (pa_cons (pe_call G__law_wild (hr.mono (by decide)) (by rfl) T.g__law_wild T.F__law_wild.kp T.b__law_wild .nil pass0 (pa_cons (pv 0) (pa_cons (pv 1) (pa_cons (pv 2) pa_nil)))) pa_nil))) (pe_slice sl_list (pv 3) (po_some (pv 5)) po_none))))))
      (pss_one (ps_ret (pv 3))))), ?_⟩
    have hc1 := hcs.1
    have hc2 := hcs.2
    obtain ⟨m2, mxs, em, hsm, dsm⟩ := Dp.lst_inv hm
    cases em
    have S0 : StB b G H G H := StB.refl gv gb
    have hm0 := SqL.same hsm gv
    walk_at "rd"
    intro p hp
    have S1 := S0.new (o := .lst mxs) hp (BoxAt.ne B hp)
    have B1 := B.new (o := .lst mxs) hp
    have D1 : Dp K (L2.upd G p (.lst mxs)) (.ref p) (.list (sDs cs)) := .lst (SqL.of upd_same) (DpAll.same (Same.add (Same.free gv hp)) dsm)
    walk_at "rd"
    walk_at "dr"
    intro n0 H2 p0 q0 B2 x2
    have S2 := S1.draw x2
    walk_at "rd"
    refine ⟨by omega, by omega, ?_⟩
    refine for_range (fun i σ H' => Stop (∃ (v1 v2 : Option V) (p : Addr) (cs' : List (Str × Str)) (G' : Hp), σ = [some (.ref b), some (.ref l), some (.ref m), some (.ref p), v1, v2] ∧ StB b G H G' H' ∧ Dp K G' (.ref p) (.list (sDs cs')) ∧ (∀ c ∈ cs', okP 40 c) ∧ cs'.length + 1 ≤ 33 * 2 ^ i ∧ BoxAt H' b))
      (.go ⟨none, none, p, cs, _, rfl, S2, D1, hc1, by show _ ≤ 33 * 1; omega, B2⟩) ?_ ?_
    · intro i σ H3 hi hI
      obtain ⟨v1, v2, p, cs', G3, rfl, S3, D3, ok3, len3, B3⟩ := hI.out
      obtain ⟨p', pxs, ep, hsp, dsp⟩ := Dp.lst_inv D3
      cases ep
      have lm : pxs.length = cs'.length := by rw [DpAll.length dsp, List.length_map]
      have hp3 := SqL.same hsp S3.vw
      have hi2 : i ≤ 1 := by omega
      have len4 : cs'.length ≤ 66 := by
        rcases (show i = 0 ∨ i = 1 by omega) with rfl | rfl <;> simp at len3 <;> omega
      refine ⟨_, rfl, ?_⟩
      refine ⟨_, rfl, ?_⟩
      refine ⟨_, _, rfl, .inl hp3, ?_⟩
      refine ⟨_, _, rfl, rfl, ?_⟩
      rw [lm]
      refine ⟨b, _, rfl, B3, by omega, by omega, fun r4 H4 p4 q4 B4 x4 => ?_⟩
      have S4 := S3.draw x4
      have hp4 := SqL.same hsp S4.vw
      obtain ⟨c1, d1, m1, l1⟩ := cutV_dp dsp none (some r4)
      obtain ⟨c2, d2, m2, l2⟩ := cutV_dp dsp (some r4) none
      have lc1 : (cutV pxs none (some r4)).length = c1.length := by rw [DpAll.length d1, List.length_map]
      have lc2 : (cutV pxs (some r4) none).length = c2.length := by rw [DpAll.length d2, List.length_map]
      walk_at "rd"
      intro a1 h1
      have S5 := S4.new (o := .lst (cutV pxs none (some r4))) h1 (BoxAt.ne B4 h1)
      have B5 := B4.new (o := .lst (cutV pxs none (some r4))) h1
      have ea5 : (L2.upd G3 a1 (.lst (cutV pxs none (some r4)))) a1 = some (.lst (cutV pxs none (some r4))) := upd_same
      have g5 : Same G3 (L2.upd G3 a1 (.lst (cutV pxs none (some r4)))) := Same.add (Same.free S4.vw h1)
      generalize L2.upd G3 a1 (.lst (cutV pxs none (some r4))) = G5 at S5 ea5 g5
      generalize L2.upd H4 a1 (.lst (cutV pxs none (some r4))) = H5 at S5 B5 ⊢
      refine ⟨_, rfl, ?_⟩
      refine ⟨_, rfl, ?_⟩
      refine ⟨_, rfl, ?_⟩
      refine ⟨b, l, m, ss, cs, G5, rfl, B5, S5.vw, S5.gb, S5.gg _ _ hl, hlen, hok, Dp.same S5.gg hm, hcs, fun t G6 H6 c S6 dp okc B6 => ?_⟩
      have S56 := S5.trans S6
      have ea6 := S6.gg _ _ ea5
      have g6 := g5.trans S6.gg
      walk_at "rd"
      intro q hq
      have S7 := S56.new (o := .lst [.ref t]) hq (BoxAt.ne B6 hq)
      have B7 := B6.new (o := .lst [.ref t]) hq
      have gn7 : Same G6 (L2.upd G6 q (.lst [.ref t])) := Same.add (Same.free S56.vw hq)
      have g7 := g6.trans gn7
      have ea7 := gn7 _ _ ea6
      have dp7 := Dp.same gn7 dp
      have eq7 : (L2.upd G6 q (.lst [.ref t])) q = some (.lst [.ref t]) := upd_same
      generalize L2.upd G6 q (.lst [.ref t]) = G7 at S7 g7 ea7 dp7 eq7
      have hq7 : (L2.upd H6 q (.lst [.ref t])) q = some (.lst [.ref t]) := upd_same
      generalize L2.upd H6 q (.lst [.ref t]) = H7 at S7 B7 hq7 ⊢
      refine ⟨a1, q, _, _, rfl, rfl, S7.vw _ _ ea7, hq7, by rw [List.length_singleton, lc1, sizeLine_eq]; omega, fun z hz => ?_⟩
      have S8 := S7.new (o := .lst (cutV pxs none (some r4) ++ [.ref t])) hz (BoxAt.ne B7 hz)
      have B8 := B7.new (o := .lst (cutV pxs none (some r4) ++ [.ref t])) hz
      have gn8 : Same G7 (L2.upd G7 z (.lst (cutV pxs none (some r4) ++ [.ref t]))) := Same.add (Same.free S7.vw hz)
      have g8 := g7.trans gn8
      have dp8 := Dp.same gn8 dp7
      have ez8 : (L2.upd G7 z (.lst (cutV pxs none (some r4) ++ [.ref t]))) z = some (.lst (cutV pxs none (some r4) ++ [.ref t])) := upd_same
      generalize L2.upd G7 z (.lst (cutV pxs none (some r4) ++ [.ref t])) = G8 at S8 g8 dp8 ez8
      generalize L2.upd H7 z (.lst (cutV pxs none (some r4) ++ [.ref t])) = H8 at S8 B8 ⊢
      have hp8 := SqL.same (SqL.same hsp g8) S8.vw
      walk_at "rd"
      intro y hy
      have S9 := S8.new (o := .lst (cutV pxs (some r4) none)) hy (BoxAt.ne B8 hy)
      have B9 := B8.new (o := .lst (cutV pxs (some r4) none)) hy
      have gn9 : Same G8 (L2.upd G8 y (.lst (cutV pxs (some r4) none))) := Same.add (Same.free S8.vw hy)
      have g9 := g8.trans gn9
      have dp9 := Dp.same gn9 dp8
      have ez9 := gn9 _ _ ez8
      have ey9 : (L2.upd G8 y (.lst (cutV pxs (some r4) none))) y = some (.lst (cutV pxs (some r4) none)) := upd_same
      generalize L2.upd G8 y (.lst (cutV pxs (some r4) none)) = G9 at S9 g9 dp9 ez9 ey9
      generalize L2.upd H8 y (.lst (cutV pxs (some r4) none)) = H9 at S9 B9 ⊢
      refine ⟨z, y, _, _, rfl, rfl, S9.vw _ _ ez9, S9.vw _ _ ey9, by rw [List.length_append, List.length_singleton, lc1, lc2, sizeLine_eq]; omega, fun u hu => ?_⟩
      have S10 := S9.new (o := .lst (cutV pxs none (some r4) ++ [.ref t] ++ cutV pxs (some r4) none)) hu (BoxAt.ne B9 hu)
      have gn10 : Same G9 (L2.upd G9 u (.lst (cutV pxs none (some r4) ++ [.ref t] ++ cutV pxs (some r4) none))) := Same.add (Same.free S9.vw hu)
      have g10 := g9.trans gn10
      refine .go ⟨_, _, u, c1 ++ [c] ++ c2, _, rfl, S10, .lst (SqL.of upd_same) ?_, ?_, ?_, B9.new hu⟩
      · rw [sDs, List.map_append, List.map_append]
        exact DpAll.append (DpAll.same g10 d2) (DpAll.snoc (DpAll.same g10 d1) (Dp.same gn10 dp9))
      · intro x hx
        rcases List.mem_append.mp hx with h | h
        · rcases List.mem_append.mp h with h | h
          · exact ok3 x (m1 x h)
          · rw [List.mem_singleton.mp h]; exact okc
        · exact ok3 x (m2 x h)
      · rw [List.length_append, List.length_append, List.length_singleton]
        rw [Nat.pow_succ]
        omega
    · intro σ H3 hm
      obtain ⟨v1, v2, p, cs', G3, rfl, S3, D3, ok3, len3, B3⟩ := hm.out
      walk_at "rd"
      have : 33 * 2 ^ n0.toNat ≤ 33 * 2 ^ 2 := Nat.mul_le_mul (Nat.le_refl _) (Nat.pow_le_pow_right (by decide) (by omega))
      exact k p G3 H3 cs' S3 D3 ok3 (by omega) B3
end
end Toy
set_option Elab.async false
set_option linter.all false
set_option maxRecDepth 100000
set_option maxHeartbeats 4000000
namespace Toy
open PySem L2 XR
local macro_rules | `(tactic| walk_at "ne") => `(tactic| first | assumption | (apply Ne.symm; assumption) | exact XR.ne_fresh (by assumption) (by walk_at "hp") | exact Ne.symm (XR.ne_fresh (by assumption) (by walk_at "hp")))
local macro_rules | `(tactic| walk_at "hp") => `(tactic| first | assumption | exact upd_same | (refine Eq.trans (upd_ne ?_) ?_; (walk_at "ne"); walk_at "hp"))
local macro_rules | `(tactic| walk_at "sq") => `(tactic| first | walk_at "hp" | exact SqL.of (by walk_at "hp") | exact SqT.of (by walk_at "hp") | exact XR.SqT.same (by assumption) (by assumption) | exact XR.SqL.same (by assumption) (by assumption))
local macro_rules | `(tactic| walk_at "br") => `(tactic| (refine ite2 ?_ ?_ <;> intro hbr <;> (try simp only [decide_eq_true_eq, decide_eq_false_iff_not, V.int.injEq, V.bl.injEq, V.str.injEq, Bool.not_eq_true, Bool.not_eq_eq_eq_not, Bool.not_true, Bool.not_false, ne_eq, Int.reduceToNat, Int.reducePow, Int.reduceMul, Int.reduceAdd, Int.reduceSub, reduceCtorEq, not_true_eq_false, not_false_eq_true, Int.not_lt, Int.not_le] at hbr)))
local macro_rules | `(tactic| walk_at "side") => `(tactic| first
  | exact ⟨by decide, by decide, by decide⟩
  | exact .inl ⟨by decide, by decide⟩
  | exact .inr ⟨by decide, by decide⟩
  | exact XR.divw (by first | decide | omega) (by first | decide | omega)
  | (show (_ : Int) = _; first | rfl | omega)
  | (show (0 : Int) < _; first | decide | assumption | omega)
  | exact .inl ⟨by omega, by omega⟩
  | exact .inr ⟨by omega, by omega⟩
  | exact .inl (XR.cmul_mod (by decide))
  | exact XR.log_lt (by omega) (by omega)
  | decide
  | (rw [sizeLine_eq]; simp; done)
  | (show 2 ≤ sizeLine; decide) | (show 3 ≤ sizeLine; decide) | (show 4 ≤ sizeLine; decide) | (show 5 ≤ sizeLine; decide) | (show 6 ≤ sizeLine; decide) | (show 7 ≤ sizeLine; decide) | (show 1 ≤ sizeLine; decide) | (show 8 ≤ sizeLine; decide) | (show 0 ≤ sizeLine; decide))
local macro_rules | `(tactic| walk_at "rd1") => `(tactic| first
  | refine ⟨_, rfl, ?_⟩
  | refine ⟨_, _, rfl, rfl, ?_⟩
  | refine ⟨_, _, _, _, rfl, rfl, (by walk_at "sq"), rfl, ?_⟩
  | refine ⟨_, _, _, _, rfl, rfl, (by walk_at "hp"), (by walk_at "hp"), (by walk_at "side"), ?_⟩
  | refine ⟨_, _, rfl, .inl (by walk_at "sq"), ?_⟩
  | refine ⟨_, _, rfl, .inl ⟨(by walk_at "sq"), ?_⟩⟩
  | refine ⟨_, _, rfl, .inr (by walk_at "sq"), ?_⟩
  | refine ⟨_, _, _, _, _, rfl, (by walk_at "hp"), (by walk_at "cls"), (by walk_at "noat"), rfl, ?_⟩
  | refine ⟨_, _, _, _, rfl, rfl, (by walk_at "sq"), (by first | assumption | exact XR.at0 | exact XR.at1), ?_⟩
  | refine ⟨rfl, ?_⟩
  | refine And.intro (by walk_at "side") ?_
  | refine .inl ⟨_, rfl, ?_⟩
  | refine And.intro ⟨_, (by walk_at "sq")⟩ ?_
  | refine ⟨_, _, rfl, (by walk_at "sq"), ?_⟩
  | refine ⟨_, _, rfl, ?_⟩
  | refine .inr ⟨_, rfl, (by walk_at "side"), ?_⟩
  | refine ⟨_, _, _, rfl, (by walk_at "hp"), ?_⟩
  | refine iteT ?_
  | refine iteF ?_)
local macro_rules | `(tactic| walk_at "rd") => `(tactic| repeat (walk_at "rd1"))
local macro_rules | `(tactic| walk_at "nn") => `(tactic| (simp only [Int.reduceToNat, Int.reducePow, Int.reduceMul, Int.reduceAdd, Int.reduceSub, Int.reduceNeg]))
local macro_rules | `(tactic| walk_at "dr") => `(tactic| repeat (first | refine And.intro (by first | assumption | walk_at "pre") ?_ | refine And.intro (by first | decide | omega) ?_))
local macro_rules | `(tactic| walk_at "pre") => `(tactic| first | assumption | exact BoxAt.new (by walk_at "pre") (by assumption) | exact BoxAt.put (by walk_at "pre") (by assumption) | exact BoxAt.same (by walk_at "pre") (by assumption))
section
variable {P : Program} {w : World} {K : PySem.W.Frag} {mg : Str → Option Value} {base : Heap} {D : Ad}
/-! ### the play -/
def memb (x : Str) (ys : List Str) : Bool := inV (.str x) (ys.map V.str)
theorem inV_strs (x : Str) : ∀ ys : List Str, inV (.str x) (ys.map V.str) = decide (x ∈ ys)
  | [] => by simp [inV]
  | y :: r => by
    have ih := inV_strs x r
    unfold inV at ih ⊢
    rw [List.map_cons, List.any_cons, ih]
    show ((y == x) || decide (x ∈ r)) = _
    by_cases e : y = x
    · subst e; simp
    · have : ¬ x = y := fun z => e z.symm
      simp [e, this]
/-- one move: what lies (stack), what was laid (roll, below), known -/
structure Sk where
  st : List Str
  un : List (Str × Str)
  had : List Str
def topOf (st : List Str) : Str := (st.getLast?).getD Str.empty
def mvStep (s : Sk) (c : Str × Str) : Option Sk :=
  if c.1 = Str.ofString "put" ∧ ¬ c.2 ∈ s.had then some ⟨s.st ++ [c.2], s.un ++ [(c.2, topOf s.st)], s.had ++ [c.2]⟩
  else if c.1 = Str.ofString "take" ∧ s.st.getLast? = some c.2 then some ⟨s.st.dropLast, s.un, s.had⟩ else none
/-- the first n moves -/
def mvRun (cs : List (Str × Str)) : Nat → Option Sk
  | 0 => some ⟨[], [], []⟩
  | n + 1 => (mvRun cs n).bind fun s => (cs[n]?).bind fun c => mvStep s c
abbrev fs_BadMove : List V → Option (List (Str × V)) := fun ws => match ws with | [v0] => some [("at", v0)] | _ => none
theorem sc_BadMove_init : FnScope ["self", "at"] ["self", "at"] (defScope s_BadMove_init) := ⟨rfl, rfl, rfl, by decide +kernel, rfl, by decide +kernel, by decide +kernel⟩
theorem ok_BadMove_init (T : Txt K mg D) : FnOk P w K mg base CX0 1 D.a_BadMove_init D.d_BadMove_init ["self", "at"] (spEx D.c_BadMove fs_BadMove) := by
  refine T.F_BadMove_init.ok sc_BadMove_init (fun vs H Q E h => ?_) (fun cdv A outer s H vs Q E hr h => ?_)
  · obtain ⟨a, ws, l, rfl, e, _⟩ := h
    match ws, e with
    | [_], _ => rfl
  · obtain ⟨a, ws, l, rfl, e, ha, k⟩ := h
    match ws, e with
    | [v0], e =>
      cases e
      refine ⟨_, (pss_one (ps_ost (pv 0) (pv 1))), ?_⟩
      walk_at "rd"
      exact init_ex1 (T_ox_BadMove T) T.e_BadMove_at ha fun d H1 hd hda ea ed x1 => k d H1 hd hda ea ed x1

/-- the lists of a play -/
structure Pl (K : PySem.W.Frag) (H : Hp) (st la kn : Addr) (s : Sk) (acc : List V) (G1 H1 : Hp) : Prop where
  vw : Same G1 H1
  gg : Same H G1
  gs : G1 st = none
  gl : G1 la = none
  gk : G1 kn = none
  es : H1 st = some (.lst (s.st.map V.str))
  el : H1 la = some (.lst acc)
  ek : ∃ kvs : List (Key × V), H1 kn = some (.dK kvs) ∧ (∀ x, (valV kvs (.inr x)).isSome = decide (x ∈ s.had)) ∧ kvs.length ≤ s.had.length
  ds : DpAll K G1 acc (sDs s.un)
structure Ap (st la kn : Addr) : Prop where
  sl : st ≠ la
  sk : st ≠ kn
  lk : la ≠ kn
section
variable {st la kn p : Addr} {H G1 H1 : Hp} {s : Sk} {acc : List V} {o : HO}
theorem Pl.new (M : Pl K H st la kn s acc G1 H1) (h : H1 p = none) : Pl K H st la kn s acc (L2.upd G1 p o) (L2.upd H1 p o) := by
  have x : Same H1 (L2.upd H1 p o) := Same.add h
  have g : Same G1 (L2.upd G1 p o) := Same.add (Same.free M.vw h)
  obtain ⟨kvs, e1, e2, e3⟩ := M.ek
  exact ⟨Same.upd2 M.vw, M.gg.trans g, by rw [upd_ne (ne_of_none M.es h)]; exact M.gs, by rw [upd_ne (ne_of_none M.el h)]; exact M.gl, by rw [upd_ne (ne_of_none e1 h)]; exact M.gk, x _ _ M.es, x _ _ M.el, ⟨kvs, x _ _ e1, e2, e3⟩, DpAll.same g M.ds⟩
theorem up_vw {q : Addr} (v : Same G1 H1) (g : G1 q = none) : Same G1 (L2.upd H1 q o) := fun a u e => by rw [upd_ne (ne_of_none e g)]; exact v _ _ e
theorem Pl.putS (A : Ap st la kn) (M : Pl K H st la kn s acc G1 H1) (us : List Str) : Pl K H st la kn ⟨us, s.un, s.had⟩ acc G1 (L2.upd H1 st (.lst (us.map V.str))) := by
  obtain ⟨kvs, e1, e2, e3⟩ := M.ek
  exact ⟨up_vw M.vw M.gs, M.gg, M.gs, M.gl, M.gk, upd_same, by rw [upd_ne A.sl.symm]; exact M.el, ⟨kvs, by rw [upd_ne A.sk.symm]; exact e1, e2, e3⟩, M.ds⟩
theorem Pl.putL (A : Ap st la kn) (M : Pl K H st la kn s acc G1 H1) {v : V} {c : Str × Str} (d : Dp K G1 v (sD c)) : Pl K H st la kn ⟨s.st, s.un ++ [c], s.had⟩ (acc ++ [v]) G1 (L2.upd H1 la (.lst (acc ++ [v]))) := by
  obtain ⟨kvs, e1, e2, e3⟩ := M.ek
  exact ⟨up_vw M.vw M.gl, M.gg, M.gs, M.gl, M.gk, by rw [upd_ne A.sl]; exact M.es, upd_same, ⟨kvs, by rw [upd_ne A.lk.symm]; exact e1, e2, e3⟩, (show sDs (s.un ++ [c]) = sDs s.un ++ [sD c] from List.map_append) ▸ DpAll.snoc M.ds d⟩
theorem Pl.putK (A : Ap st la kn) (M : Pl K H st la kn s acc G1 H1) {kvs : List (Key × V)} (e1 : H1 kn = some (.dK kvs)) (e2 : ∀ x, (valV kvs (.inr x)).isSome = decide (x ∈ s.had)) (e3 : kvs.length ≤ s.had.length) (x : Str) (b : Bool) :
    Pl K H st la kn ⟨s.st, s.un, s.had ++ [x]⟩ acc G1 (L2.upd H1 kn (.dK (putK kvs (.inr x) (.bl b)))) :=
  ⟨up_vw M.vw M.gk, M.gg, M.gs, M.gl, M.gk, by rw [upd_ne A.sk]; exact M.es, by rw [upd_ne A.lk]; exact M.el, ⟨_, upd_same, fun y => by
    rw [valV_put]
    by_cases e : y = x
    · subst e; simp
    · rw [if_neg (fun z => e (Sum.inr.inj z)), e2]; simp [e], by
    have := length_putK kvs (.inr x) (.bl b)
    rw [List.length_append, List.length_singleton]
    omega⟩, M.ds⟩
end
theorem mvStep_len {s u : Sk} {c : Str × Str} (h : mvStep s c = some u) {n : Nat} (h1 : s.st.length ≤ n ∧ s.un.length ≤ n ∧ s.had.length ≤ n) : u.st.length ≤ n + 1 ∧ u.un.length ≤ n + 1 ∧ u.had.length ≤ n + 1 := by
  unfold mvStep at h
  split at h
  · cases h
    simp only [List.length_append, List.length_singleton]
    omega
  · split at h
    · cases h
      simp only [List.length_dropLast]
      omega
    · cases h
theorem mvRun_succ {cs : List (Str × Str)} {n : Nat} {s u : Sk} {c : Str × Str} (h : mvRun cs n = some s) (hc : cs[n]? = some c) (e : mvStep s c = some u) : mvRun cs (n + 1) = some u := by
  rw [mvRun, h]
  show ((cs[n]?).bind fun c => mvStep s c) = _
  rw [hc]
  exact e
theorem last_at (ts : List Str) (h : ts ≠ []) : ∃ us y, ts = us ++ [y] ∧ ts.getLast? = some y ∧ ts.dropLast = us ∧ atI (ts.map V.str) (-1) = some (.str y) := by
  obtain ⟨us, y, rfl⟩ : ∃ us y, ts = us ++ [y] := ⟨_, _, (List.dropLast_concat_getLast h).symm⟩
  exact ⟨us, y, rfl, by simp, by simp, by rw [List.map_append]; exact atI_last _ _⟩
def spPlay (K : PySem.W.Frag) (D : Ad) : Sp := fun vs H Q E => ∃ (a : Addr) (xs : List V) (cs : List (Str × Str)), vs = [.ref a] ∧ SqA K H a xs ∧ DpAll K H xs (sDs cs) ∧ cs.length ≤ 132 ∧
  (∀ n s c, mvRun cs n = some s → cs[n]? = some c → mvStep s c = none → ∀ H0, Same H H0 → Wish D.c_BadMove [("at", .int (n : Int))] H0 E) ∧
  (∀ s, mvRun cs cs.length = some s → ∀ t st la G1 H1 acc, Same H G1 → Same G1 H1 → H1 t = some (.tup [.ref st, .ref la]) → H1 st = some (.lst (s.st.map V.str)) → H1 la = some (.lst acc) → DpAll K G1 acc (sDs s.un) → s.st.length ≤ 132 → Q (.ref t) H1)
theorem sc__play : FnScope ["moves", "stack", "laid", "known", "at", "word", "roll"] ["moves"] (defScope s__play) := ⟨rfl, rfl, rfl, by decide +kernel, rfl, by decide +kernel, by decide +kernel⟩
theorem ok__play (T : Txt K mg D) : FnOk P w K mg base (L2.CX P w) 3 D.a__play D.d__play ["moves"] (spPlay K D) := by
  refine T.F__play.okX sc__play (fun vs H Q E h => ?_) (fun cdv A outer s H vs Q E hr h => ?_)
  · obtain ⟨a, xs, cs, rfl, _⟩ := h
    rfl
  · obtain ⟨a, xs, cs, rfl, hA, hx, hlen, kE, kS⟩ := h
    refine ⟨_, (pss_cons (ps_set (i := 1) sc__play.nd rfl (Or.inl rfl) (pe_lst pa_nil))
      (pss_cons (ps_set (i := 2) sc__play.nd rfl (Or.inl rfl) (pe_lst pa_nil))
      (pss_cons (ps_set (i := 3) sc__play.nd rfl (Or.inl rfl) pe_dnewK)
      (pss_cons (ps_for (passes_of rfl) rfl (XR.pi_enumQ (by rfl) T.n_enumerate (pa_cons (pv 0) pa_nil)) (pg_tup (by rfl) (pgs_cons (pg_name (i := 4) sc__play.nd rfl (Or.inl rfl)) (pgs_cons (pg_tup (by rfl) (pgs_cons (pg_name (i := 5) sc__play.nd rfl (Or.inl rfl)) (pgs_cons (pg_name (i := 6) sc__play.nd rfl (Or.inl rfl)) pgs_nil))) pgs_nil)))
      (pss_one (ps_if (PW.pt (pw_and (pt_cmpR op_eq (pv 5) pe_str (nomark _)) (pw_and1 (pt_cmp (pc_dnotin (hu_of hr) (pv 6) (pv 3))))))
      (pss_cons (ps_expr (pe_bm PySem.F.plainAttrs_list PySem.F.slot_list_append PySem.F.type_list_append mt_append (pv 2) (pa_cons (pe_tup (pa_cons (pv 6) (pa_cons (pe_ifExp (pt_truth (pv 1) (by intro _; rfl)) (pe_ix ix_list (pv 1) (pe_un un_neg pe_int) (fun _ _ => rfl)) pe_str) pa_nil))) pa_nil)))
      (pss_cons (ps_dput (hu_of hr) (pv 3) (pv 6) pe_bl rfl)
      (pss_one (ps_expr (pe_bm PySem.F.plainAttrs_list PySem.F.slot_list_append PySem.F.type_list_append mt_append (pv 1) (pa_cons (pv 6) pa_nil))))))
      (pss_one (ps_if (PW.pt (pw_and (pt_cmpR op_eq (pv 5) pe_str (nomark _)) (pw_and (pt_truth (pv 1) (by intro _; rfl)) (pw_and1 (pt_cmpR op_eq (pe_ix ix_list (pv 1) (pe_un un_neg pe_int) (fun _ _ => rfl)) (pv 6) (nomark _))))))
      (pss_one (ps_expr (pe_bm0 PySem.F.plainAttrs_list PySem.F.slot_list_pop PySem.F.type_list_pop mt_pop (pv 1))))
      (pss_one (ps_raise rfl (takes_of rfl rfl rfl rfl) (pmk_oex (T_ox_BadMove T) T.m_BadMove_init T.xti_BadMove (ok_BadMove_init T) (hr.mono (by decide)) T.b_BadMove_init .nil (fun _ _ _ _ _ _ _ z => z.elim) (by rfl) T.g_BadMove (pa_cons (pv 4) pa_nil)))))))))
      (pss_one (ps_ret (pe_tup (pa_cons (pv 1) (pa_cons (pv 2) pa_nil))))))))), ?_⟩
    walk_at "rd"
    intro st hst
    walk_at "rd"
    intro la hla
    walk_at "rd"
    intro kn hkn
    walk_at "rd"
    have x0 : Same H (L2.upd (L2.upd (L2.upd H st (.lst [])) la (.lst [])) kn (.dK [])) := ((Same.add hst).trans (Same.add hla)).trans (Same.add hkn)
    have n1 : st ≠ la := ne_of_none (upd_same (H := H)) hla
    have e1 : (L2.upd (L2.upd H st (.lst [])) la (.lst [])) st = some (.lst []) := by rw [upd_ne n1]; exact upd_same
    have n2 : st ≠ kn := ne_of_none e1 hkn
    have e2 : (L2.upd (L2.upd H st (.lst [])) la (.lst [])) la = some (.lst []) := upd_same
    have n3 : la ≠ kn := ne_of_none e2 hkn
    have A : Ap st la kn := ⟨n1, n2, n3⟩
    have hla0 : H la = none := none_back (Same.add hst) hla
    have hkn0 : H kn = none := none_back ((Same.add hst).trans (Same.add hla)) hkn
    have M0 : Pl K H st la kn ⟨[], [], []⟩ [] H (L2.upd (L2.upd (L2.upd H st (.lst [])) la (.lst [])) kn (.dK [])) :=
      ⟨x0, Same.refl _, hst, hla0, hkn0, by rw [upd_ne n2]; exact e1, by rw [upd_ne n3]; exact upd_same, ⟨[], upd_same, fun x => by simp [valV_nil], Nat.le_refl _⟩, .nil⟩
    generalize L2.upd (L2.upd (L2.upd H st (.lst [])) la (.lst [])) kn (.dK []) = H0 at M0 ⊢
    have lx : xs.length = cs.length := by rw [DpAll.length hx, List.length_map]
    refine ⟨M0.vw, fun J W => ?_⟩
    refine for_it W (fun i σ H1 => Stop (∃ v1 v2 v3 s acc G1, σ = [some (.ref a), some (.ref st), some (.ref la), some (.ref kn), v1, v2, v3] ∧ mvRun cs i = some s ∧ Pl K H st la kn s acc G1 H1 ∧ s.st.length ≤ i ∧ s.un.length ≤ i ∧ s.had.length ≤ i))
      (.go ⟨none, none, none, _, _, _, rfl, rfl, M0, Nat.le_refl _, Nat.le_refl _, Nat.le_refl _⟩) (fun i σ H1 _ I => by obtain ⟨_, _, _, _, _, _, _, _, M, _⟩ := I.out; exact M.gg.trans M.vw) ?_ ?_
    · rintro i x σ H1 H2 hi I ⟨T2, u, v, rfl, hT, rfl, hu, hv⟩
      obtain ⟨v1, v2, v3, s, acc, G1, rfl, hrun, M1, b1, b2, b3⟩ := I.out
      cases hu
      have hdp := DpAll.get hx hv
      obtain ⟨d, hd, dp⟩ := hdp
      rw [List.getElem?_map] at hd
      obtain ⟨c, hc, rfl⟩ : ∃ c, cs[i]? = some c ∧ d = sD c := by
        cases e : cs[i]? with
        | none => rw [e] at hd; cases hd
        | some c => rw [e] at hd; cases hd; exact ⟨c, rfl, rfl⟩
      obtain ⟨q, rfl, sq⟩ := Dp.spair dp
      have M2 := M1.new (o := .tup [.int i, .ref q]) hT
      have sT : SqT K (L2.upd H1 T2 (.tup [.int i, .ref q])) T2 [.int i, .ref q] := SqT.of upd_same
      have sq2 := SqT.same sq (M2.gg.trans M2.vw)
      walk_at "rd"
      refine ⟨_, rfl, sq2, rfl, ?_⟩
      obtain ⟨kv2, k1, k2, k3⟩ := M2.ek
      have hi132 : i < 132 := by omega
      walk_at "rd"
      walk_at "br"
      · rename_i hput
        walk_at "rd"
        refine ⟨_, _, rfl, DGet.k (k := .inr c.2) k1, ?_⟩
        rw [k2]
        walk_at "rd"
        by_cases hmem : c.2 ∈ s.had
        · refine ifF (by simp [hmem]) ?_
          have hnp : ¬(c.1 = Str.ofString "put" ∧ ¬c.2 ∈ s.had) := fun z => z.2 hmem
          walk_at "rd"
          walk_at "br"
          · rename_i htk
            walk_at "rd"
            refine ⟨_, .inl ⟨_, SqL.of M2.es, rfl⟩, ?_⟩
            rw [isE_map]
            by_cases hst : s.st = []
            · refine ifF (by simp [hst]) ?_
              walk_at "rd"
              exact mk_ex (by show 1 ≤ 1000; decide) rfl (kE i s c hrun hc (by unfold mvStep; rw [if_neg hnp, if_neg (fun z => by rw [hst] at z; cases z.2)]) _ (M2.gg.trans M2.vw))
            · refine ifT (by simp [hst]) ?_
              obtain ⟨us, y, ey, gl, dl, al⟩ := last_at s.st hst
              have es2 := M2.es
              walk_at "rd"
              walk_at "br"
              · rename_i hyc
                walk_at "rd"
                refine ⟨.inl ⟨rfl, _, SqL.of M2.es⟩, ?_⟩
                walk_at "rd"
                refine ⟨st, s.st.map V.str, .str y, rfl, rfl, M2.es, by rw [ey]; simp, ?_⟩
                rw [← List.map_dropLast]
                have M3 := M2.putS A s.st.dropLast
                have e6 : mvStep s c = some ⟨s.st.dropLast, s.un, s.had⟩ := by
                  unfold mvStep
                  rw [if_neg hnp, if_pos ⟨htk, by rw [gl, hyc]⟩]
                exact .go ⟨_, _, _, _, _, _, rfl, mvRun_succ hrun hc e6, M3, mvStep_len e6 ⟨b1, b2, b3⟩⟩
              · rename_i hyc
                walk_at "rd"
                exact mk_ex (by show 1 ≤ 1000; decide) rfl (kE i s c hrun hc (by unfold mvStep; rw [if_neg hnp, if_neg (fun z => by rw [gl] at z; exact hyc (Option.some.inj z.2))]) _ (M2.gg.trans M2.vw))
          · rename_i htk
            walk_at "rd"
            exact mk_ex (by show 1 ≤ 1000; decide) rfl (kE i s c hrun hc (by unfold mvStep; rw [if_neg hnp, if_neg (fun z => htk z.1)]) _ (M2.gg.trans M2.vw))
        · refine ifT (by simp [hmem]) ?_
          walk_at "rd"
          refine ⟨.inl ⟨rfl, _, SqL.of M2.el⟩, ?_⟩
          walk_at "rd"
          refine ⟨_, .inl ⟨_, SqL.of M2.es, rfl⟩, ?_⟩
          rw [isE_map]
          by_cases hst : s.st = []
          · refine ifF (by simp [hst]) ?_
            have htop : topOf s.st = Str.ofString "" := by rw [hst]; rfl
            walk_at "rd"
            intro tp htp
            have M3 := M2.new (o := .tup [.str c.2, .str (Str.ofString "")]) htp
            walk_at "rd"
            refine ⟨la, _, .ref tp, rfl, rfl, M3.el, by rw [DpAll.length M3.ds, List.length_map, sizeLine_eq]; omega, ?_⟩
            have M4 := M3.putL A (Dp.mk_spair (a := c.2) (b := (Str.ofString "")) (SqT.of upd_same))
            obtain ⟨kv4, f1, f2, f3⟩ := M4.ek
            walk_at "rd"
            refine ⟨kn, _, rfl, DPut.k (k := .inr c.2) f1 (by rw [sizeLine_eq]; exact Nat.lt_of_le_of_lt f3 (by show s.had.length < _; omega)), ?_⟩
            have M5 := M4.putK A f1 f2 f3 c.2 true
            walk_at "rd"
            refine ⟨.inl ⟨rfl, _, SqL.of M5.es⟩, ?_⟩
            walk_at "rd"
            refine ⟨st, _, .str c.2, rfl, rfl, M5.es, by rw [List.length_map, sizeLine_eq]; show s.st.length < _; omega, ?_⟩
            have M6 := M5.putS A (s.st ++ [c.2])
            rw [List.map_append] at M6
            have e6 : mvStep s c = some ⟨s.st ++ [c.2], s.un ++ [(c.2, (Str.ofString ""))], s.had ++ [c.2]⟩ := by
              unfold mvStep
              rw [if_pos ⟨hput, hmem⟩, htop]
            have l6 := mvStep_len e6 ⟨b1, b2, b3⟩
            exact .go ⟨_, _, _, _, _, _, rfl, mvRun_succ hrun hc e6, M6, l6⟩
          · refine ifT (by simp [hst]) ?_
            obtain ⟨us, y, ey, gl, dl, al⟩ := last_at s.st hst
            have es2 := M2.es
            have htop : topOf s.st = y := by unfold topOf; rw [gl]; rfl
            walk_at "rd"
            intro tp htp
            have M3 := M2.new (o := .tup [.str c.2, .str y]) htp
            walk_at "rd"
            refine ⟨la, _, .ref tp, rfl, rfl, M3.el, by rw [DpAll.length M3.ds, List.length_map, sizeLine_eq]; omega, ?_⟩
            have M4 := M3.putL A (Dp.mk_spair (a := c.2) (b := y) (SqT.of upd_same))
            obtain ⟨kv4, f1, f2, f3⟩ := M4.ek
            walk_at "rd"
            refine ⟨kn, _, rfl, DPut.k (k := .inr c.2) f1 (by rw [sizeLine_eq]; exact Nat.lt_of_le_of_lt f3 (by show s.had.length < _; omega)), ?_⟩
            have M5 := M4.putK A f1 f2 f3 c.2 true
            walk_at "rd"
            refine ⟨.inl ⟨rfl, _, SqL.of M5.es⟩, ?_⟩
            walk_at "rd"
            refine ⟨st, _, .str c.2, rfl, rfl, M5.es, by rw [List.length_map, sizeLine_eq]; show s.st.length < _; omega, ?_⟩
            have M6 := M5.putS A (s.st ++ [c.2])
            rw [List.map_append] at M6
            have e6 : mvStep s c = some ⟨s.st ++ [c.2], s.un ++ [(c.2, y)], s.had ++ [c.2]⟩ := by
              unfold mvStep
              rw [if_pos ⟨hput, hmem⟩, htop]
            have l6 := mvStep_len e6 ⟨b1, b2, b3⟩
            exact .go ⟨_, _, _, _, _, _, rfl, mvRun_succ hrun hc e6, M6, l6⟩
      · rename_i hput
        have hnp : ¬(c.1 = Str.ofString "put" ∧ ¬c.2 ∈ s.had) := fun z => hput z.1
        walk_at "rd"
        walk_at "br"
        · rename_i htk
          walk_at "rd"
          refine ⟨_, .inl ⟨_, SqL.of M2.es, rfl⟩, ?_⟩
          rw [isE_map]
          by_cases hst : s.st = []
          · refine ifF (by simp [hst]) ?_
            walk_at "rd"
            exact mk_ex (by show 1 ≤ 1000; decide) rfl (kE i s c hrun hc (by unfold mvStep; rw [if_neg hnp, if_neg (fun z => by rw [hst] at z; cases z.2)]) _ (M2.gg.trans M2.vw))
          · refine ifT (by simp [hst]) ?_
            obtain ⟨us, y, ey, gl, dl, al⟩ := last_at s.st hst
            have es2 := M2.es
            walk_at "rd"
            walk_at "br"
            · rename_i hyc
              walk_at "rd"
              refine ⟨.inl ⟨rfl, _, SqL.of M2.es⟩, ?_⟩
              walk_at "rd"
              refine ⟨st, s.st.map V.str, .str y, rfl, rfl, M2.es, by rw [ey]; simp, ?_⟩
              rw [← List.map_dropLast]
              have M3 := M2.putS A s.st.dropLast
              have e6 : mvStep s c = some ⟨s.st.dropLast, s.un, s.had⟩ := by
                unfold mvStep
                rw [if_neg hnp, if_pos ⟨htk, by rw [gl, hyc]⟩]
              exact .go ⟨_, _, _, _, _, _, rfl, mvRun_succ hrun hc e6, M3, mvStep_len e6 ⟨b1, b2, b3⟩⟩
            · rename_i hyc
              walk_at "rd"
              exact mk_ex (by show 1 ≤ 1000; decide) rfl (kE i s c hrun hc (by unfold mvStep; rw [if_neg hnp, if_neg (fun z => by rw [gl] at z; exact hyc (Option.some.inj z.2))]) _ (M2.gg.trans M2.vw))
        · rename_i htk
          walk_at "rd"
          exact mk_ex (by show 1 ≤ 1000; decide) rfl (kE i s c hrun hc (by unfold mvStep; rw [if_neg hnp, if_neg (fun z => htk z.1)]) _ (M2.gg.trans M2.vw))
    · intro σ H1 I
      obtain ⟨v1, v2, v3, s, acc, G1, rfl, hrun, M1, b1, b2, b3⟩ := I.out
      rw [lx] at hrun b1
      walk_at "rd"
      intro t ht
      have M2 := M1.new (o := .tup [.ref st, .ref la]) ht
      exact kS s hrun t st la _ _ acc M2.gg M2.vw upd_same M2.es M2.el M2.ds (by omega)
theorem hasT {a b : Option Sk} (h : a = b) : b = a := h.symm
def spPlayT (K : PySem.W.Frag) (D : Ad) : Sp := fun vs H Q E => ∃ (a : Addr) (xs : List V) (cs : List (Str × Str)), vs = [.ref a] ∧ SqA K H a xs ∧ DpAll K H xs (sDs cs) ∧ cs.length ≤ 132 ∧
  (∀ n s c, mvRun cs n = some s → cs[n]? = some c → mvStep s c = none → ∀ H0, Same H H0 → Wish D.c_BadMove [("at", .int (n : Int))] H0 E) ∧
  (∀ s, mvRun cs cs.length = some s → ∀ t H1, Same H H1 → H1 t = some (.tup (s.st.map V.str)) → Q (.ref t) H1)
theorem sc_play : FnScope ["moves", "stack", "_"] ["moves"] (defScope s_play) := ⟨rfl, rfl, rfl, by decide +kernel, rfl, by decide +kernel, by decide +kernel⟩
theorem ok_play (T : Txt K mg D) : FnOk P w K mg base (L2.CX P w) 5 D.a_play D.d_play ["moves"] (spPlayT K D) := by
  have G__play := ok__play (P := P) (w := w) (base := base) T
  refine T.F_play.okX sc_play (fun vs H Q E h => ?_) (fun cdv A outer s H vs Q E hr h => ?_)
  · obtain ⟨a, xs, cs, rfl, _⟩ := h
    rfl
  · obtain ⟨a, xs, cs, rfl, hA, hx, hlen, kE, kS⟩ := h
    refine ⟨_, (pss_cons (ps_asg (pe_call G__play (hr.mono (by decide)) (by rfl) T.g__play T.F__play.kp T.b__play .nil (passes_call (takes_of rfl rfl rfl rfl) (fun _ _ _ _ z => z)) (pa_cons (pv 0) pa_nil)) (pg_tup (by rfl) (pgs_cons (pg_name (i := 1) sc_play.nd rfl (Or.inl rfl)) (pgs_cons (pg_name (i := 2) sc_play.nd rfl (Or.inl rfl)) pgs_nil))))
      (pss_one (ps_ret (pe_callTy call_tuple_of (by rfl) T.n_tuple (by decide +kernel) (pa_cons (pv 1) pa_nil))))), ?_⟩
    walk_at "rd"
    refine ⟨a, xs, cs, rfl, hA, hx, hlen, kE, fun s hs t st la G1 H1 acc g v et es el ds hl => ?_⟩
    have sT : SqT K H1 t [.ref st, .ref la] := SqT.of et
    walk_at "rd"
    intro z hz
    exact kS s hs z _ ((g.trans v).trans (Same.add hz)) upd_same
def spRests (K : PySem.W.Frag) (D : Ad) : Sp := fun vs H Q E => ∃ (a : Addr) (xs : List V) (cs : List (Str × Str)), vs = [.ref a] ∧ SqA K H a xs ∧ DpAll K H xs (sDs cs) ∧ cs.length ≤ 132 ∧
  (∀ n s c, mvRun cs n = some s → cs[n]? = some c → mvStep s c = none → ∀ H0, Same H H0 → Wish D.c_BadMove [("at", .int (n : Int))] H0 E) ∧
  (∀ s, mvRun cs cs.length = some s → ∀ t H1, Same H H1 → Dp K H1 (.ref t) (.list (sDs s.un)) → Q (.ref t) H1)
theorem sc_rests : FnScope ["moves", "_", "laid"] ["moves"] (defScope s_rests) := ⟨rfl, rfl, rfl, by decide +kernel, rfl, by decide +kernel, by decide +kernel⟩
theorem ok_rests (T : Txt K mg D) : FnOk P w K mg base (L2.CX P w) 5 D.a_rests D.d_rests ["moves"] (spRests K D) := by
  have G__play := ok__play (P := P) (w := w) (base := base) T
  refine T.F_rests.okX sc_rests (fun vs H Q E h => ?_) (fun cdv A outer s H vs Q E hr h => ?_)
  · obtain ⟨a, xs, cs, rfl, _⟩ := h
    rfl
  · obtain ⟨a, xs, cs, rfl, hA, hx, hlen, kE, kS⟩ := h
    refine ⟨_, (pss_cons (ps_asg (pe_call G__play (hr.mono (by decide)) (by rfl) T.g__play T.F__play.kp T.b__play .nil (passes_call (takes_of rfl rfl rfl rfl) (fun _ _ _ _ z => z)) (pa_cons (pv 0) pa_nil)) (pg_tup (by rfl) (pgs_cons (pg_name (i := 1) sc_rests.nd rfl (Or.inl rfl)) (pgs_cons (pg_name (i := 2) sc_rests.nd rfl (Or.inl rfl)) pgs_nil))))
      (pss_one (ps_ret (pv 2)))), ?_⟩
    walk_at "rd"
    refine ⟨a, xs, cs, rfl, hA, hx, hlen, kE, fun s hs t st la G1 H1 acc g v et es el ds hl => ?_⟩
    have sT : SqT K H1 t [.ref st, .ref la] := SqT.of et
    walk_at "rd"
    exact kS s hs la H1 (g.trans v) (.lst (SqL.of el) (DpAll.same v ds))
end
end Toy
set_option Elab.async false
set_option linter.all false
set_option maxRecDepth 100000
set_option maxHeartbeats 4000000
namespace Toy
open PySem L2 XR
local macro_rules | `(tactic| walk_at "ne") => `(tactic| first | assumption | (apply Ne.symm; assumption) | exact XR.ne_fresh (by assumption) (by walk_at "hp") | exact Ne.symm (XR.ne_fresh (by assumption) (by walk_at "hp")))
local macro_rules | `(tactic| walk_at "hp") => `(tactic| first | assumption | exact upd_same | (refine Eq.trans (upd_ne ?_) ?_; (walk_at "ne"); walk_at "hp"))
local macro_rules | `(tactic| walk_at "sq") => `(tactic| first | walk_at "hp" | exact SqL.of (by walk_at "hp") | exact SqT.of (by walk_at "hp") | exact XR.SqT.same (by assumption) (by assumption) | exact XR.SqL.same (by assumption) (by assumption))
local macro_rules | `(tactic| walk_at "br") => `(tactic| (refine ite2 ?_ ?_ <;> intro hbr <;> (try simp only [decide_eq_true_eq, decide_eq_false_iff_not, V.int.injEq, V.bl.injEq, V.str.injEq, Bool.not_eq_true, Bool.not_eq_eq_eq_not, Bool.not_true, Bool.not_false, ne_eq, Int.reduceToNat, Int.reducePow, Int.reduceMul, Int.reduceAdd, Int.reduceSub, reduceCtorEq, not_true_eq_false, not_false_eq_true, Int.not_lt, Int.not_le] at hbr)))
local macro_rules | `(tactic| walk_at "side") => `(tactic| first
  | exact ⟨by decide, by decide, by decide⟩
  | exact .inl ⟨by decide, by decide⟩
  | exact .inr ⟨by decide, by decide⟩
  | exact XR.divw (by first | decide | omega) (by first | decide | omega)
  | (show (_ : Int) = _; first | rfl | omega)
  | (show (0 : Int) < _; first | decide | assumption | omega)
  | exact .inl ⟨by omega, by omega⟩
  | exact .inr ⟨by omega, by omega⟩
  | exact .inl (XR.cmul_mod (by decide))
  | exact XR.log_lt (by omega) (by omega)
  | decide
  | (rw [sizeLine_eq]; simp; done)
  | (show 2 ≤ sizeLine; decide) | (show 3 ≤ sizeLine; decide) | (show 4 ≤ sizeLine; decide) | (show 5 ≤ sizeLine; decide) | (show 6 ≤ sizeLine; decide) | (show 7 ≤ sizeLine; decide) | (show 1 ≤ sizeLine; decide) | (show 8 ≤ sizeLine; decide) | (show 0 ≤ sizeLine; decide))
local macro_rules | `(tactic| walk_at "rd1") => `(tactic| first
  | refine ⟨_, rfl, ?_⟩
  | refine ⟨_, _, rfl, rfl, ?_⟩
  | refine ⟨_, _, _, _, rfl, rfl, (by walk_at "sq"), rfl, ?_⟩
  | refine ⟨_, _, _, _, rfl, rfl, (by walk_at "hp"), (by walk_at "hp"), (by walk_at "side"), ?_⟩
  | refine ⟨_, _, rfl, .inl (by walk_at "sq"), ?_⟩
  | refine ⟨_, _, rfl, .inl ⟨(by walk_at "sq"), ?_⟩⟩
  | refine ⟨_, _, rfl, .inr (by walk_at "sq"), ?_⟩
  | refine ⟨_, _, _, _, _, rfl, (by walk_at "hp"), (by walk_at "cls"), (by walk_at "noat"), rfl, ?_⟩
  | refine ⟨_, _, _, _, rfl, rfl, (by walk_at "sq"), (by first | assumption | exact XR.at0 | exact XR.at1), ?_⟩
  | refine ⟨rfl, ?_⟩
  | refine And.intro (by walk_at "side") ?_
  | refine .inl ⟨_, rfl, ?_⟩
  | refine And.intro ⟨_, (by walk_at "sq")⟩ ?_
  | refine ⟨_, _, rfl, (by walk_at "sq"), ?_⟩
  | refine ⟨_, _, rfl, ?_⟩
  | refine .inr ⟨_, rfl, (by walk_at "side"), ?_⟩
  | refine ⟨_, _, _, rfl, (by walk_at "hp"), ?_⟩
  | refine iteT ?_
  | refine iteF ?_)
local macro_rules | `(tactic| walk_at "rd") => `(tactic| repeat (walk_at "rd1"))
local macro_rules | `(tactic| walk_at "nn") => `(tactic| (simp only [Int.reduceToNat, Int.reducePow, Int.reduceMul, Int.reduceAdd, Int.reduceSub, Int.reduceNeg]))
local macro_rules | `(tactic| walk_at "dr") => `(tactic| repeat (first | refine And.intro (by first | assumption | walk_at "pre") ?_ | refine And.intro (by first | decide | omega) ?_))
local macro_rules | `(tactic| walk_at "pre") => `(tactic| first | assumption | exact BoxAt.new (by walk_at "pre") (by assumption) | exact BoxAt.put (by walk_at "pre") (by assumption) | exact BoxAt.same (by walk_at "pre") (by assumption))
section
variable {P : Program} {w : World} {K : PySem.W.Frag} {mg : Str → Option Value} {base : Heap} {D : Ad}
/-! ### what the law asks -/
theorem topOf_ok {ts : List Str} (h : ∀ x ∈ ts, okS 40 x) : okS 40 (topOf ts) := by
  unfold topOf
  cases e : ts.getLast? with
  | none => exact ⟨by decide +kernel, by decide +kernel⟩
  | some y => exact h y (List.mem_of_getLast? e)
theorem mvStep_ok {s u : Sk} {c : Str × Str} (hc : okP 40 c) (h : mvStep s c = some u) (k : (∀ x ∈ s.st, okS 40 x) ∧ ∀ x ∈ s.un, okP 40 x) : (∀ x ∈ u.st, okS 40 x) ∧ ∀ x ∈ u.un, okP 40 x := by
  unfold mvStep at h
  split at h
  · cases h
    refine ⟨fun x hx => (List.mem_append.mp hx).elim (k.1 x) fun z => by rw [List.mem_singleton.mp z]; exact hc.2, fun x hx => (List.mem_append.mp hx).elim (k.2 x) fun z => by rw [List.mem_singleton.mp z]; exact ⟨hc.2, topOf_ok k.1⟩⟩
  · split at h
    · cases h
      exact ⟨fun x hx => k.1 x ((List.dropLast_sublist _).subset hx), k.2⟩
    · cases h
theorem mvRun_ok {cs : List (Str × Str)} (hc : ∀ c ∈ cs, okP 40 c) : ∀ (n : Nat) {s : Sk}, mvRun cs n = some s → (∀ x ∈ s.st, okS 40 x) ∧ ∀ x ∈ s.un, okP 40 x
  | 0, s, h => by cases h; exact ⟨fun _ z => absurd z (by simp), fun _ z => absurd z (by simp)⟩
  | n + 1, s, h => by
    rw [mvRun] at h
    cases e : mvRun cs n with
    | none => rw [e] at h; cases h
    | some u =>
      rw [e] at h
      have h : ((cs[n]?).bind fun c => mvStep u c) = some s := h
      cases e2 : cs[n]? with
      | none => rw [e2] at h; cases h
      | some c => rw [e2] at h; exact mvStep_ok (hc c (List.mem_of_getElem? e2)) h (mvRun_ok hc n e)
/-- the lists of the law's own play -/
structure Pd (K : PySem.W.Frag) (H : Hp) (st la kn : Addr) (s : Sk) (acc : List V) (G1 H1 : Hp) : Prop where
  vw : Same G1 H1
  gg : Same H G1
  gs : G1 st = none
  gl : G1 la = none
  gk : G1 kn = none
  es : H1 st = some (.lst (s.st.map V.str))
  el : H1 la = some (.lst acc)
  ek : H1 kn = some (.lst (s.had.map V.str))
  ds : DpAll K G1 acc (sDs s.un)
section
variable {st la kn p : Addr} {H G1 H1 : Hp} {s : Sk} {acc : List V} {o : HO}
theorem Pd.new (M : Pd K H st la kn s acc G1 H1) (h : H1 p = none) : Pd K H st la kn s acc (L2.upd G1 p o) (L2.upd H1 p o) := by
  have x : Same H1 (L2.upd H1 p o) := Same.add h
  have g : Same G1 (L2.upd G1 p o) := Same.add (Same.free M.vw h)
  exact ⟨Same.upd2 M.vw, M.gg.trans g, by rw [upd_ne (ne_of_none M.es h)]; exact M.gs, by rw [upd_ne (ne_of_none M.el h)]; exact M.gl, by rw [upd_ne (ne_of_none M.ek h)]; exact M.gk, x _ _ M.es, x _ _ M.el, x _ _ M.ek, DpAll.same g M.ds⟩
theorem Pd.putS (A : Ap st la kn) (M : Pd K H st la kn s acc G1 H1) (us : List Str) : Pd K H st la kn ⟨us, s.un, s.had⟩ acc G1 (L2.upd H1 st (.lst (us.map V.str))) :=
  ⟨up_vw M.vw M.gs, M.gg, M.gs, M.gl, M.gk, upd_same, by rw [upd_ne A.sl.symm]; exact M.el, by rw [upd_ne A.sk.symm]; exact M.ek, M.ds⟩
theorem Pd.putL (A : Ap st la kn) (M : Pd K H st la kn s acc G1 H1) {v : V} {c : Str × Str} (d : Dp K G1 v (sD c)) : Pd K H st la kn ⟨s.st, s.un ++ [c], s.had⟩ (acc ++ [v]) G1 (L2.upd H1 la (.lst (acc ++ [v]))) :=
  ⟨up_vw M.vw M.gl, M.gg, M.gs, M.gl, M.gk, by rw [upd_ne A.sl]; exact M.es, upd_same, by rw [upd_ne A.lk.symm]; exact M.ek, (show sDs (s.un ++ [c]) = sDs s.un ++ [sD c] from List.map_append) ▸ DpAll.snoc M.ds d⟩
theorem Pd.putK (A : Ap st la kn) (M : Pd K H st la kn s acc G1 H1) (us : List Str) : Pd K H st la kn ⟨s.st, s.un, us⟩ acc G1 (L2.upd H1 kn (.lst (us.map V.str))) :=
  ⟨up_vw M.vw M.gk, M.gg, M.gs, M.gl, M.gk, by rw [upd_ne A.sk]; exact M.es, by rw [upd_ne A.lk]; exact M.el, upd_same, M.ds⟩
end
theorem flat_strs : ∀ ns : List Str, (ns.map V.str).all flatV = true
  | [] => rfl
  | _ :: r => by
    rw [List.map_cons, List.all_cons, flat_strs r]
    rfl
theorem top_at (ts : List Str) : atI (V.str (Str.ofString "") :: ts.map V.str) (-1) = some (.str (topOf ts)) := by
  by_cases h : ts = []
  · subst h; exact atI_last [] _
  · obtain ⟨us, y, rfl, e, _⟩ := last_at ts h
    rw [List.map_append]
    unfold topOf
    rw [e]
    exact atI_last (V.str (Str.ofString "") :: us.map V.str) _
theorem s_get {K : PySem.W.Frag} {G : Hp} {xs : List V} {cs : List (Str × Str)} {i : Nat} (h : DpAll K G xs (sDs cs)) (hi : i < cs.length) : ∃ c p, cs[i]? = some c ∧ xs[i]? = some (.ref p) ∧ SqT K G p [.str c.1, .str c.2] := by
  obtain ⟨x, hx, q⟩ := DpAll.get' (i := i) (d := sD cs[i]) h (by rw [List.getElem?_map, List.getElem?_eq_getElem hi]; rfl)
  obtain ⟨p, rfl, s⟩ := Dp.spair q
  exact ⟨_, p, List.getElem?_eq_getElem hi, hx, s⟩
def spDue (K : PySem.W.Frag) : Sp := fun vs H Q _ => ∃ (a : Addr) (xs : List V) (cs : List (Str × Str)), vs = [.ref a] ∧ SqL K H a xs ∧ DpAll K H xs (sDs cs) ∧ (∀ c ∈ cs, okP 40 c) ∧ cs.length ≤ 132 ∧
  (∀ n s c, mvRun cs n = some s → cs[n]? = some c → mvStep s c = none → ∀ t H1 e l, Same H H1 → H1 t = some (.tup [.int (n : Int), .ref e, .ref l]) → H1 e = some (.tup []) → H1 l = some (.lst []) → Q (.ref t) H1) ∧
  (∀ s, mvRun cs cs.length = some s → ∀ t e l H1, Same H H1 → H1 t = some (.tup [.int (-1), .ref e, .ref l]) → H1 e = some (.tup (s.st.map V.str)) → Dp K H1 (.ref l) (.list (sDs s.un)) → Q (.ref t) H1)
theorem sc__law_due : FnScope ["_law_moves_here", "_law_stack", "_law_under", "_law_had", "_law_at", "_law_word", "_law_roll"] ["_law_moves_here"] (defScope s__law_due) := ⟨rfl, rfl, rfl, by decide +kernel, rfl, by decide +kernel, by decide +kernel⟩
theorem ok__law_due (T : Txt K mg D) : FnOk P w K mg base CX0 1 D.a__law_due D.d__law_due ["_law_moves_here"] (spDue K) := by
  refine T.F__law_due.ok sc__law_due (fun vs H Q E h => ?_) (fun cdv A outer s H vs Q E hr h => ?_)
  · obtain ⟨a, xs, cs, rfl, _⟩ := h
    rfl
  · obtain ⟨a, xs, cs, rfl, hA, hx, hok, hlen, kE, kS⟩ := h
    refine ⟨_, (pss_cons (ps_set (i := 1) sc__law_due.nd rfl (Or.inl rfl) (pe_lst pa_nil))
      (pss_cons (ps_set (i := 2) sc__law_due.nd rfl (Or.inl rfl) (pe_lst pa_nil))
      (pss_cons (ps_set (i := 3) sc__law_due.nd rfl (Or.inl rfl) (pe_lst pa_nil))
      (pss_cons (ps_for PassesOwn.never rfl (pi_range1 (by rfl) T.n_range (pa_cons (pe_callB call_len_seq (by rfl) T.n_len (by decide +kernel) (pa_cons (pv 0) pa_nil)) pa_nil)) (pg_name (i := 4) sc__law_due.nd rfl (Or.inl rfl))
      (pss_cons (ps_asg (pe_ix ix_list (pv 0) (pv 4) (fun _ _ => rfl)) (pg_tup (by rfl) (pgs_cons (pg_name (i := 5) sc__law_due.nd rfl (Or.inl rfl)) (pgs_cons (pg_name (i := 6) sc__law_due.nd rfl (Or.inl rfl)) pgs_nil))))
      (pss_one (ps_if (PW.pt (pw_and (pt_cmpR op_eq (pv 5) pe_str (nomark _)) (pw_and1 (pt_cmpR op_notIn_seq (pv 6) (pv 3) rfl))))
      (pss_cons (ps_expr (pe_bm PySem.F.plainAttrs_list PySem.F.slot_list_append PySem.F.type_list_append mt_append (pv 2) (pa_cons (pe_tup (pa_cons (pv 6) (pa_cons (pe_ix ix_list (pe_op op_cat (pe_lst (pa_cons pe_str pa_nil)) (pv 1)) (pe_un un_neg pe_int) (fun _ _ => rfl)) pa_nil))) pa_nil)))
      (pss_cons (ps_expr (pe_bm PySem.F.plainAttrs_list PySem.F.slot_list_append PySem.F.type_list_append mt_append (pv 1) (pa_cons (pv 6) pa_nil)))
      (pss_one (ps_expr (pe_bm PySem.F.plainAttrs_list PySem.F.slot_list_append PySem.F.type_list_append mt_append (pv 3) (pa_cons (pv 6) pa_nil))))))
      (pss_one (ps_if (PW.pt (pw_and (pt_cmpR op_eq (pv 5) pe_str (nomark _)) (pw_and (pt_cmpR (op_neD hr.units) (pv 1) (pe_lst pa_nil) (nomark _)) (pw_and1 (pt_cmpR op_eq (pe_ix ix_list (pv 1) (pe_un un_neg pe_int) (fun _ _ => rfl)) (pv 6) (nomark _))))))
      (pss_one (ps_expr (pe_bm0 PySem.F.plainAttrs_list PySem.F.slot_list_pop PySem.F.type_list_pop mt_pop (pv 1))))
      (pss_one (ps_ret (pe_tup (pa_cons (pv 4) (pa_cons (pe_tup pa_nil) (pa_cons (pe_lst pa_nil) pa_nil))))))))))))
      (pss_one (ps_ret (pe_tup (pa_cons (pe_un un_neg pe_int) (pa_cons (pe_callTy call_tuple_of (by rfl) T.n_tuple (by decide +kernel) (pa_cons (pv 1) pa_nil)) (pa_cons (pv 2) pa_nil)))))))))), ?_⟩
    walk_at "rd"
    intro st hst
    walk_at "rd"
    intro la hla
    walk_at "rd"
    intro kn hkn
    have x0 : Same H (L2.upd (L2.upd (L2.upd H st (.lst [])) la (.lst [])) kn (.lst [])) := ((Same.add hst).trans (Same.add hla)).trans (Same.add hkn)
    have n1 : st ≠ la := ne_of_none (upd_same (H := H)) hla
    have e1 : (L2.upd (L2.upd H st (.lst [])) la (.lst [])) st = some (.lst []) := by rw [upd_ne n1]; exact upd_same
    have n2 : st ≠ kn := ne_of_none e1 hkn
    have e2 : (L2.upd (L2.upd H st (.lst [])) la (.lst [])) la = some (.lst []) := upd_same
    have n3 : la ≠ kn := ne_of_none e2 hkn
    have A : Ap st la kn := ⟨n1, n2, n3⟩
    have hla0 : H la = none := none_back (Same.add hst) hla
    have hkn0 : H kn = none := none_back ((Same.add hst).trans (Same.add hla)) hkn
    have M0 : Pd K H st la kn ⟨[], [], []⟩ [] H (L2.upd (L2.upd (L2.upd H st (.lst [])) la (.lst [])) kn (.lst [])) :=
      ⟨x0, Same.refl _, hst, hla0, hkn0, by rw [upd_ne n2]; exact e1, by rw [upd_ne n3]; exact upd_same, upd_same, .nil⟩
    have lx : xs.length = cs.length := by rw [DpAll.length hx, List.length_map]
    have hA0 := SqL.same hA x0
    walk_at "rd"
    generalize L2.upd (L2.upd (L2.upd H st (.lst [])) la (.lst [])) kn (.lst []) = H0 at M0 hA0 ⊢
    refine ⟨by omega, by omega, ?_⟩
    rw [lx, Int.toNat_natCast]
    refine for_range (fun i σ H1 => Stop (∃ v1 v2 v3 s acc G1, σ = [some (.ref a), some (.ref st), some (.ref la), some (.ref kn), v1, v2, v3] ∧ mvRun cs i = some s ∧ Pd K H st la kn s acc G1 H1 ∧ s.st.length ≤ i ∧ s.un.length ≤ i ∧ s.had.length ≤ i))
      (.go ⟨none, none, none, _, _, _, rfl, rfl, M0, Nat.le_refl _, Nat.le_refl _, Nat.le_refl _⟩) ?_ ?_
    · intro i σ H1 hi I
      obtain ⟨v1, v2, v3, s, acc, G1, rfl, hrun, M2, b1, b2, b3⟩ := I.out
      obtain ⟨c, q, hc, hq, sq⟩ := s_get hx hi
      have sq2 := SqT.same sq (M2.gg.trans M2.vw)
      have hA1 := SqL.same hA (M2.gg.trans M2.vw)
      have hat : atI xs (0 + (i : Int)) = some (.ref q) := by rw [Int.zero_add]; exact atI_nat hq
      have hi132 : i < 132 := by omega
      have okst : ∀ x ∈ s.st, okS 40 x := (mvRun_ok hok _ hrun).1
      walk_at "rd"
      walk_at "br"
      · rename_i hput
        walk_at "rd"
        refine ⟨_, _, rfl, .inl (SqL.of M2.ek), rfl, flat_strs _, ?_⟩
        rw [inV_strs]
        walk_at "rd"
        by_cases hmem : c.2 ∈ s.had
        · refine ifF (by simp [hmem]) ?_
          have hnp : ¬(c.1 = Str.ofString "put" ∧ ¬c.2 ∈ s.had) := fun z => z.2 hmem
          walk_at "rd"
          walk_at "br"
          · rename_i htk
            walk_at "rd"
            intro e0 he0
            have M2 := M2.new (o := .lst []) he0
            refine ⟨_, _, .lst (SqL.of M2.es) (DpAll.of_strs s.st), .lst (SqL.of upd_same) .nil, (shaped_strs s.st okst).1, rfl, ?_⟩
            rw [eqv_empty, isE_map]
            walk_at "rd"
            by_cases hst : s.st = []
            · refine ifF (by simp [hst]) ?_
              generalize L2.upd H1 e0 (.lst []) = H1 at M2 ⊢
              walk_at "rd"
              intro e1 he1
              have M3 := M2.new (o := .tup []) he1
              walk_at "rd"
              intro l1 hl1
              have M4 := M3.new (o := .lst []) hl1
              walk_at "rd"
              intro t1 ht1
              have ee : (L2.upd (L2.upd (L2.upd H1 e1 (.tup [])) l1 (.lst [])) t1 (.tup [.int (0 + (i : Int)), .ref e1, .ref l1])) e1 = some (.tup []) := (Same.add ht1) _ _ ((Same.add hl1) _ _ upd_same)
              have el : (L2.upd (L2.upd (L2.upd H1 e1 (.tup [])) l1 (.lst [])) t1 (.tup [.int (0 + (i : Int)), .ref e1, .ref l1])) l1 = some (.lst []) := (Same.add ht1) _ _ upd_same
              exact kE i s c hrun hc (by unfold mvStep; rw [if_neg hnp, if_neg (fun z => by rw [hst] at z; cases z.2)]) t1 _ e1 l1 ((M4.gg.trans M4.vw).trans (Same.add ht1)) (upd_same.trans (by rw [Int.zero_add])) ee el
            · refine ifT (by simp [hst]) ?_
              obtain ⟨us, y, ey, gl, dl, al⟩ := last_at s.st hst
              have es2 := M2.es
              generalize L2.upd H1 e0 (.lst []) = H1 at M2 es2 ⊢
              walk_at "rd"
              walk_at "br"
              · rename_i hyc
                walk_at "rd"
                refine ⟨.inl ⟨rfl, _, SqL.of M2.es⟩, ?_⟩
                walk_at "rd"
                refine ⟨st, s.st.map V.str, .str y, rfl, rfl, M2.es, by rw [ey]; simp, ?_⟩
                rw [← List.map_dropLast]
                have M3 := M2.putS A s.st.dropLast
                have e6 : mvStep s c = some ⟨s.st.dropLast, s.un, s.had⟩ := by
                  unfold mvStep
                  rw [if_neg hnp, if_pos ⟨htk, by rw [gl, hyc]⟩]
                exact .go ⟨_, _, _, _, _, _, rfl, mvRun_succ hrun hc e6, M3, mvStep_len e6 ⟨b1, b2, b3⟩⟩
              · rename_i hyc
                walk_at "rd"
                intro e1 he1
                have M3 := M2.new (o := .tup []) he1
                walk_at "rd"
                intro l1 hl1
                have M4 := M3.new (o := .lst []) hl1
                walk_at "rd"
                intro t1 ht1
                have ee : (L2.upd (L2.upd (L2.upd H1 e1 (.tup [])) l1 (.lst [])) t1 (.tup [.int (0 + (i : Int)), .ref e1, .ref l1])) e1 = some (.tup []) := (Same.add ht1) _ _ ((Same.add hl1) _ _ upd_same)
                have el : (L2.upd (L2.upd (L2.upd H1 e1 (.tup [])) l1 (.lst [])) t1 (.tup [.int (0 + (i : Int)), .ref e1, .ref l1])) l1 = some (.lst []) := (Same.add ht1) _ _ upd_same
                exact kE i s c hrun hc (by unfold mvStep; rw [if_neg hnp, if_neg (fun z => by rw [gl] at z; exact hyc (Option.some.inj z.2))]) t1 _ e1 l1 ((M4.gg.trans M4.vw).trans (Same.add ht1)) (upd_same.trans (by rw [Int.zero_add])) ee el
          · rename_i htk
            walk_at "rd"
            intro e1 he1
            have M3 := M2.new (o := .tup []) he1
            walk_at "rd"
            intro l1 hl1
            have M4 := M3.new (o := .lst []) hl1
            walk_at "rd"
            intro t1 ht1
            have ee : (L2.upd (L2.upd (L2.upd H1 e1 (.tup [])) l1 (.lst [])) t1 (.tup [.int (0 + (i : Int)), .ref e1, .ref l1])) e1 = some (.tup []) := (Same.add ht1) _ _ ((Same.add hl1) _ _ upd_same)
            have el : (L2.upd (L2.upd (L2.upd H1 e1 (.tup [])) l1 (.lst [])) t1 (.tup [.int (0 + (i : Int)), .ref e1, .ref l1])) l1 = some (.lst []) := (Same.add ht1) _ _ upd_same
            exact kE i s c hrun hc (by unfold mvStep; rw [if_neg hnp, if_neg (fun z => htk z.1)]) t1 _ e1 l1 ((M4.gg.trans M4.vw).trans (Same.add ht1)) (upd_same.trans (by rw [Int.zero_add])) ee el
        · refine ifT (by simp [hmem]) ?_
          walk_at "rd"
          refine ⟨.inl ⟨rfl, _, SqL.of M2.el⟩, ?_⟩
          walk_at "rd"
          intro e0 he0
          have M3 := M2.new (o := .lst [.str ""]) he0
          have ee0 : (L2.upd H1 e0 (.lst [V.str ""])) e0 = some (.lst [V.str ""]) := upd_same
          walk_at "rd"
          refine ⟨e0, st, _, _, rfl, rfl, ee0, M3.es, by rw [List.length_singleton, List.length_map, sizeLine_eq]; omega, fun e1 he1 => ?_⟩
          have M4 := M3.new (o := .lst ([V.str ""] ++ s.st.map V.str)) he1
          walk_at "rd"
          refine ⟨_, _, _, _, rfl, rfl, SqL.of upd_same, top_at s.st, ?_⟩
          walk_at "rd"
          intro tp htp
          have M5 := M4.new (o := .tup [.str c.2, .str (topOf s.st)]) htp
          walk_at "rd"
          refine ⟨la, _, .ref tp, rfl, rfl, M5.el, by rw [DpAll.length M5.ds, List.length_map, sizeLine_eq]; omega, ?_⟩
          have M6 := M5.putL A (Dp.mk_spair (a := c.2) (b := topOf s.st) (SqT.of upd_same))
          walk_at "rd"
          refine ⟨.inl ⟨rfl, _, SqL.of M6.es⟩, ?_⟩
          walk_at "rd"
          refine ⟨st, _, .str c.2, rfl, rfl, M6.es, by rw [List.length_map, sizeLine_eq]; show s.st.length < _; omega, ?_⟩
          have M7 := M6.putS A (s.st ++ [c.2])
          rw [List.map_append] at M7
          walk_at "rd"
          refine ⟨.inl ⟨rfl, _, SqL.of M7.ek⟩, ?_⟩
          walk_at "rd"
          refine ⟨kn, _, .str c.2, rfl, rfl, M7.ek, by rw [List.length_map, sizeLine_eq]; show s.had.length < _; omega, ?_⟩
          have M8 := M7.putK A (s.had ++ [c.2])
          rw [List.map_append] at M8
          have e6 : mvStep s c = some ⟨s.st ++ [c.2], s.un ++ [(c.2, topOf s.st)], s.had ++ [c.2]⟩ := by
            unfold mvStep
            rw [if_pos ⟨hput, hmem⟩]
          exact .go ⟨_, _, _, _, _, _, rfl, mvRun_succ hrun hc e6, M8, mvStep_len e6 ⟨b1, b2, b3⟩⟩
      · rename_i hput
        have hnp : ¬(c.1 = Str.ofString "put" ∧ ¬c.2 ∈ s.had) := fun z => hput z.1
        walk_at "rd"
        walk_at "br"
        · rename_i htk
          walk_at "rd"
          intro e0 he0
          have M2 := M2.new (o := .lst []) he0
          refine ⟨_, _, .lst (SqL.of M2.es) (DpAll.of_strs s.st), .lst (SqL.of upd_same) .nil, (shaped_strs s.st okst).1, rfl, ?_⟩
          rw [eqv_empty, isE_map]
          walk_at "rd"
          by_cases hst : s.st = []
          · refine ifF (by simp [hst]) ?_
            generalize L2.upd H1 e0 (.lst []) = H1 at M2 ⊢
            walk_at "rd"
            intro e1 he1
            have M3 := M2.new (o := .tup []) he1
            walk_at "rd"
            intro l1 hl1
            have M4 := M3.new (o := .lst []) hl1
            walk_at "rd"
            intro t1 ht1
            have ee : (L2.upd (L2.upd (L2.upd H1 e1 (.tup [])) l1 (.lst [])) t1 (.tup [.int (0 + (i : Int)), .ref e1, .ref l1])) e1 = some (.tup []) := (Same.add ht1) _ _ ((Same.add hl1) _ _ upd_same)
            have el : (L2.upd (L2.upd (L2.upd H1 e1 (.tup [])) l1 (.lst [])) t1 (.tup [.int (0 + (i : Int)), .ref e1, .ref l1])) l1 = some (.lst []) := (Same.add ht1) _ _ upd_same
            exact kE i s c hrun hc (by unfold mvStep; rw [if_neg hnp, if_neg (fun z => by rw [hst] at z; cases z.2)]) t1 _ e1 l1 ((M4.gg.trans M4.vw).trans (Same.add ht1)) (upd_same.trans (by rw [Int.zero_add])) ee el
          · refine ifT (by simp [hst]) ?_
            obtain ⟨us, y, ey, gl, dl, al⟩ := last_at s.st hst
            have es2 := M2.es
            generalize L2.upd H1 e0 (.lst []) = H1 at M2 es2 ⊢
            walk_at "rd"
            walk_at "br"
            · rename_i hyc
              walk_at "rd"
              refine ⟨.inl ⟨rfl, _, SqL.of M2.es⟩, ?_⟩
              walk_at "rd"
              refine ⟨st, s.st.map V.str, .str y, rfl, rfl, M2.es, by rw [ey]; simp, ?_⟩
              rw [← List.map_dropLast]
              have M3 := M2.putS A s.st.dropLast
              have e6 : mvStep s c = some ⟨s.st.dropLast, s.un, s.had⟩ := by
                unfold mvStep
                rw [if_neg hnp, if_pos ⟨htk, by rw [gl, hyc]⟩]
              exact .go ⟨_, _, _, _, _, _, rfl, mvRun_succ hrun hc e6, M3, mvStep_len e6 ⟨b1, b2, b3⟩⟩
            · rename_i hyc
              walk_at "rd"
              intro e1 he1
              have M3 := M2.new (o := .tup []) he1
              walk_at "rd"
              intro l1 hl1
              have M4 := M3.new (o := .lst []) hl1
              walk_at "rd"
              intro t1 ht1
              have ee : (L2.upd (L2.upd (L2.upd H1 e1 (.tup [])) l1 (.lst [])) t1 (.tup [.int (0 + (i : Int)), .ref e1, .ref l1])) e1 = some (.tup []) := (Same.add ht1) _ _ ((Same.add hl1) _ _ upd_same)
              have el : (L2.upd (L2.upd (L2.upd H1 e1 (.tup [])) l1 (.lst [])) t1 (.tup [.int (0 + (i : Int)), .ref e1, .ref l1])) l1 = some (.lst []) := (Same.add ht1) _ _ upd_same
              exact kE i s c hrun hc (by unfold mvStep; rw [if_neg hnp, if_neg (fun z => by rw [gl] at z; exact hyc (Option.some.inj z.2))]) t1 _ e1 l1 ((M4.gg.trans M4.vw).trans (Same.add ht1)) (upd_same.trans (by rw [Int.zero_add])) ee el
        · rename_i htk
          walk_at "rd"
          intro e1 he1
          have M3 := M2.new (o := .tup []) he1
          walk_at "rd"
          intro l1 hl1
          have M4 := M3.new (o := .lst []) hl1
          walk_at "rd"
          intro t1 ht1
          have ee : (L2.upd (L2.upd (L2.upd H1 e1 (.tup [])) l1 (.lst [])) t1 (.tup [.int (0 + (i : Int)), .ref e1, .ref l1])) e1 = some (.tup []) := (Same.add ht1) _ _ ((Same.add hl1) _ _ upd_same)
          have el : (L2.upd (L2.upd (L2.upd H1 e1 (.tup [])) l1 (.lst [])) t1 (.tup [.int (0 + (i : Int)), .ref e1, .ref l1])) l1 = some (.lst []) := (Same.add ht1) _ _ upd_same
          exact kE i s c hrun hc (by unfold mvStep; rw [if_neg hnp, if_neg (fun z => htk z.1)]) t1 _ e1 l1 ((M4.gg.trans M4.vw).trans (Same.add ht1)) (upd_same.trans (by rw [Int.zero_add])) ee el
    · intro σ H1 I
      obtain ⟨v1, v2, v3, s, acc, G1, rfl, hrun, M1, b1, b2, b3⟩ := I.out
      have es1 := M1.es
      walk_at "rd"
      intro e1 he1
      have M2 := M1.new (o := .tup (s.st.map V.str)) he1
      walk_at "rd"
      intro t ht
      exact kS s hrun t e1 la _ ((M2.gg.trans M2.vw).trans (Same.add ht)) upd_same ((Same.add ht) _ _ upd_same) (.lst (SqL.of ((Same.add ht) _ _ M2.el)) (DpAll.same (M2.vw.trans (Same.add ht)) M2.ds))
end
end Toy
set_option Elab.async false
set_option linter.all false
set_option maxRecDepth 100000
set_option maxHeartbeats 4000000
namespace Toy
open PySem L2 XR
local macro_rules | `(tactic| walk_at "ne") => `(tactic| first | assumption | (apply Ne.symm; assumption) | exact XR.ne_fresh (by assumption) (by walk_at "hp") | exact Ne.symm (XR.ne_fresh (by assumption) (by walk_at "hp")))
local macro_rules | `(tactic| walk_at "hp") => `(tactic| first | assumption | exact upd_same | (refine Eq.trans (upd_ne ?_) ?_; (walk_at "ne"); walk_at "hp"))
local macro_rules | `(tactic| walk_at "sq") => `(tactic| first | walk_at "hp" | exact SqL.of (by walk_at "hp") | exact SqT.of (by walk_at "hp") | exact XR.SqT.same (by assumption) (by assumption) | exact XR.SqL.same (by assumption) (by assumption))
local macro_rules | `(tactic| walk_at "br") => `(tactic| (refine ite2 ?_ ?_ <;> intro hbr <;> (try simp only [decide_eq_true_eq, decide_eq_false_iff_not, V.int.injEq, V.bl.injEq, V.str.injEq, Bool.not_eq_true, Bool.not_eq_eq_eq_not, Bool.not_true, Bool.not_false, ne_eq, Int.reduceToNat, Int.reducePow, Int.reduceMul, Int.reduceAdd, Int.reduceSub, reduceCtorEq, not_true_eq_false, not_false_eq_true, Int.not_lt, Int.not_le] at hbr)))
local macro_rules | `(tactic| walk_at "side") => `(tactic| first
  | exact ⟨by decide, by decide, by decide⟩
  | exact .inl ⟨by decide, by decide⟩
  | exact .inr ⟨by decide, by decide⟩
  | exact XR.divw (by first | decide | omega) (by first | decide | omega)
  | (show (_ : Int) = _; first | rfl | omega)
  | (show (0 : Int) < _; first | decide | assumption | omega)
  | exact .inl ⟨by omega, by omega⟩
  | exact .inr ⟨by omega, by omega⟩
  | exact .inl (XR.cmul_mod (by decide))
  | exact XR.log_lt (by omega) (by omega)
  | decide
  | (rw [sizeLine_eq]; simp; done)
  | (show 2 ≤ sizeLine; decide) | (show 3 ≤ sizeLine; decide) | (show 4 ≤ sizeLine; decide) | (show 5 ≤ sizeLine; decide) | (show 6 ≤ sizeLine; decide) | (show 7 ≤ sizeLine; decide) | (show 1 ≤ sizeLine; decide) | (show 8 ≤ sizeLine; decide) | (show 0 ≤ sizeLine; decide))
local macro_rules | `(tactic| walk_at "rd1") => `(tactic| first
  | refine ⟨_, rfl, ?_⟩
  | refine ⟨_, _, rfl, rfl, ?_⟩
  | refine ⟨_, _, _, _, rfl, rfl, (by walk_at "sq"), rfl, ?_⟩
  | refine ⟨_, _, _, _, rfl, rfl, (by walk_at "hp"), (by walk_at "hp"), (by walk_at "side"), ?_⟩
  | refine ⟨_, _, rfl, .inl (by walk_at "sq"), ?_⟩
  | refine ⟨_, _, rfl, .inl ⟨(by walk_at "sq"), ?_⟩⟩
  | refine ⟨_, _, rfl, .inr (by walk_at "sq"), ?_⟩
  | refine ⟨_, _, _, _, _, rfl, (by walk_at "hp"), (by walk_at "cls"), (by walk_at "noat"), rfl, ?_⟩
  | refine ⟨_, _, _, _, rfl, rfl, (by walk_at "sq"), (by first | assumption | exact XR.at0 | exact XR.at1), ?_⟩
  | refine ⟨rfl, ?_⟩
  | refine And.intro (by walk_at "side") ?_
  | refine .inl ⟨_, rfl, ?_⟩
  | refine And.intro ⟨_, (by walk_at "sq")⟩ ?_
  | refine ⟨_, _, rfl, (by walk_at "sq"), ?_⟩
  | refine ⟨_, _, rfl, ?_⟩
  | refine .inr ⟨_, rfl, (by walk_at "side"), ?_⟩
  | refine ⟨_, _, _, rfl, (by walk_at "hp"), ?_⟩
  | refine iteT ?_
  | refine iteF ?_)
local macro_rules | `(tactic| walk_at "rd") => `(tactic| repeat (walk_at "rd1"))
local macro_rules | `(tactic| walk_at "nn") => `(tactic| (simp only [Int.reduceToNat, Int.reducePow, Int.reduceMul, Int.reduceAdd, Int.reduceSub, Int.reduceNeg]))
local macro_rules | `(tactic| walk_at "dr") => `(tactic| repeat (first | refine And.intro (by first | assumption | walk_at "pre") ?_ | refine And.intro (by first | decide | omega) ?_))
local macro_rules | `(tactic| walk_at "pre") => `(tactic| first | assumption | exact BoxAt.new (by walk_at "pre") (by assumption) | exact BoxAt.put (by walk_at "pre") (by assumption) | exact BoxAt.same (by walk_at "pre") (by assumption))
section
variable {P : Program} {w : World} {K : PySem.W.Frag} {mg : Str → Option Value} {base : Heap} {D : Ad}
/-! ### what the law tells -/
def spPlain (K : PySem.W.Frag) (D : Ad) : XR.SpQ := fun p vs H Q _ => ∃ (d : Addr) (fs : List (Str × V)), vs = [.ref p.1] ∧ Zc (.ref D.c_BadMove) (some d) p.2 ∧ (∃ us, p.2.data = .fields us) ∧ H d = some (.xd fs) ∧ Q (.bl true) H
theorem sc__law_plain : FnScope ["_law_e"] ["_law_e"] (defScope s__law_plain) := ⟨rfl, rfl, rfl, by decide +kernel, rfl, by decide +kernel, by decide +kernel⟩
theorem okq__law_plain (T : Txt K mg D) : XR.FnQ P w K mg base 1 D.a__law_plain D.d__law_plain ["_law_e"] (spPlain K D) := by
  refine XR.okQ T.F__law_plain sc__law_plain (fun p vs H Q E h => ?_) (fun cdv A outer s H vs Q p hr h => ?_)
  · obtain ⟨d, fs, rfl, _⟩ := h
    rfl
  · obtain ⟨d, fs, rfl, hz, hf, hd, k⟩ := h
    refine ⟨_, (pss_cons (ps_if (PW.pt (pw_or (pt_val (pe_callB (id := "isinstance") (XR.call_isA (a := p.1) (oe := p.2) List.mem_cons_self hz hf) (by rfl) T.n_isinstance (by decide +kernel) (pa_cons (pv 0) (pa_cons (pe_glob (v := .ref D.c_UnknownError) (by rfl) T.g_UnknownError rfl) pa_nil)))) (pw_or (pt_val (pe_callB (id := "isinstance") (XR.call_isA (a := p.1) (oe := p.2) List.mem_cons_self hz hf) (by rfl) T.n_isinstance (by decide +kernel) (pa_cons (pv 0) (pa_cons (pe_glob (v := .ref D.c_TextError) (by rfl) T.g_TextError rfl) pa_nil)))) (pw_or1 (pt_val (pe_callB (id := "isinstance") (XR.call_isA (a := p.1) (oe := p.2) List.mem_cons_self hz hf) (by rfl) T.n_isinstance (by decide +kernel) (pa_cons (pv 0) (pa_cons (pe_glob (v := .ref D.c_ImpossibleError) (by rfl) T.g_ImpossibleError rfl) pa_nil))))))))
      (pss_one (ps_ret pe_bl))
      pss_nil)
      (pss_one (ps_ret (pe_and (pe_callB (id := "isinstance") (XR.call_isA (a := p.1) (oe := p.2) List.mem_cons_self hz hf) (by rfl) T.n_isinstance (by decide +kernel) (pa_cons (pv 0) (pa_cons (pe_bltn (v := .ty "ValueError") (u := .type "ValueError") (by rfl) T.n_ValueError (by decide +kernel) rfl) pa_nil))) (pe_one (pe_callB (id := "isinstance") (XR.call_isA (a := p.1) (oe := p.2) List.mem_cons_self hz hf) (by rfl) T.n_isinstance (by decide +kernel) (pa_cons (pv 0) (pa_cons (pe_glob (v := .ref D.c_ArchiveError) (by rfl) T.g_ArchiveError rfl) pa_nil)))))))), ?_⟩
    walk_at "rd"
    refine .inl ⟨_, d, fs, _, _, false, rfl, rfl, hd, T_as_BadMove T, rfl, .own _, T.z_U, ?_⟩
    walk_at "rd"
    refine .inl ⟨_, d, fs, _, _, false, rfl, rfl, hd, T_as_BadMove T, rfl, .own _, T.z_T, ?_⟩
    walk_at "rd"
    refine .inl ⟨_, d, fs, _, _, false, rfl, rfl, hd, T_as_BadMove T, rfl, .own _, T.z_I, ?_⟩
    walk_at "rd"
    refine .inl ⟨_, d, fs, _, _, true, rfl, rfl, hd, T_as_BadMove T, rfl, .ty _, T.z_V, ?_⟩
    walk_at "rd"
    refine .inl ⟨_, d, fs, _, _, true, rfl, rfl, hd, T_as_BadMove T, rfl, .own _, T.z_A, ?_⟩
    walk_at "rd"
    exact k
theorem isiS {X : Cx} {b : Addr} {pn : List (Addr × Obj)} : CallR (X.suite b pn) (.builtin "isinstance") (rIsi X.K) := call_isi
theorem weak {X : Cx} {e : Expr} {t u : TE} (h : PE X e t) (m : ∀ σ H Q, u σ H Q → t σ H Q) : PE X e u := ⟨fun pins s σ H Q I z => h.run pins s σ H Q I (m σ H Q z)⟩
def spC__law_plain (D : Ad) (a : Addr) (cls : Value) (d : Option Addr) : Sp := fun vs H Q _ => ∃ (dd : Addr) (fs : List (Str × V)), vs = [.ref a] ∧ cls = .ref D.c_BadMove ∧ d = some dd ∧ H dd = some (.xd fs) ∧ Q (.bl true) H
theorem impC__law_plain {D : Ad} {a : Addr} {oe : Obj} {cls : Value} {d : Option Addr} (hz : Zc cls d oe) (hf : ∃ us, oe.data = .fields us) {i : Nat} {σ : L2.St} {H : Hp} {Q : VK} (h : XR.tCallQ (spC__law_plain D a cls d) (tCons (tVar i) tNil) σ H Q) : XR.tCallQ (spPlain K D (a, oe)) (tCons (tVar i) tNil) σ H Q := by
  obtain ⟨v, e, dd, fs, hv, rfl, rfl, hx, q⟩ := h
  exact ⟨v, e, dd, fs, hv, hz, hf, hx, q⟩
def Yes (H : Hp) (Q : VK) : Prop := ∀ H', Same H H' → Q (.bl true) H'
theorem Yes.at {H H' : Hp} {Q : VK} {z : Bool} (k : Yes H Q) (e : z = true) (x : Same H H') : Q (.bl z) H' := e ▸ k H' x
/-- how the moves end -/
inductive End (cs : List (Str × Str)) : Int → Sk → Prop
  | bad {n : Nat} {s : Sk} {c : Str × Str} {u : Sk} : mvRun cs n = some s → cs[n]? = some c → mvStep s c = none → End cs (n : Int) u
  | all {s : Sk} : mvRun cs cs.length = some s → End cs (-1) s
theorem bad_all {cs : List (Str × Str)} {n : Nat} {s u : Sk} {c : Str × Str} (h1 : mvRun cs n = some s) (h2 : cs[n]? = some c) (h3 : mvStep s c = none) (h4 : mvRun cs cs.length = some u) : False := by
  have bind : ∀ m, mvRun cs (n + 1 + m) = none := fun m => by
    induction m with
    | zero => rw [Nat.add_zero, mvRun, h1]; show ((cs[n]?).bind fun c => mvStep s c) = none; rw [h2]; exact h3
    | succ m ih => rw [← Nat.add_assoc, mvRun, ih]; rfl
  have hn := (List.getElem?_eq_some_iff.mp h2).1
  have := bind (cs.length - (n + 1))
  rw [show n + 1 + (cs.length - (n + 1)) = cs.length by omega, h4] at this
  cases this
theorem bad_bad {cs : List (Str × Str)} {n m : Nat} {s u : Sk} {c d : Str × Str} (h1 : mvRun cs n = some s) (h2 : cs[n]? = some c) (h3 : mvStep s c = none) (k1 : mvRun cs m = some u) (k2 : cs[m]? = some d) (k3 : mvStep u d = none) : n = m := by
  have aux : ∀ {n m : Nat} {s u : Sk} {c d : Str × Str}, mvRun cs n = some s → cs[n]? = some c → mvStep s c = none → mvRun cs m = some u → n < m → False := fun {n m s u c d} h1 h2 h3 k1 hl => by
    have bind : ∀ j, mvRun cs (n + 1 + j) = none := fun j => by
      induction j with
      | zero => rw [Nat.add_zero, mvRun, h1]; show ((cs[n]?).bind fun c => mvStep s c) = none; rw [h2]; exact h3
      | succ j ih => rw [← Nat.add_assoc, mvRun, ih]; rfl
    have := bind (m - (n + 1))
    rw [show n + 1 + (m - (n + 1)) = m by omega, k1] at this
    cases this
  rcases Nat.lt_trichotomy n m with h | h | h
  · exact (aux (d := d) h1 h2 h3 k1 h).elim
  · exact h
  · exact (aux (d := c) k1 k2 k3 h1 h).elim
def spPlayed (K : PySem.W.Frag) : Sp := fun vs H Q _ => ∃ (a du : Addr) (at_ : Int) (xs : List V) (cs : List (Str × Str)) (s : Sk), vs = [.ref a, .int at_, .ref du] ∧ SqA K H a xs ∧ DpAll K H xs (sDs cs) ∧ (∀ c ∈ cs, okP 40 c) ∧ cs.length ≤ 132 ∧ End cs at_ s ∧
  (at_ = -1 → SqT K H du (s.st.map V.str)) ∧ Yes H Q
theorem sc__law_played : FnScope ["_law_moves_here", "_law_at", "_law_due_here", "_law_told", "_law_e"] ["_law_moves_here", "_law_at", "_law_due_here"] (defScope s__law_played) := ⟨rfl, rfl, rfl, by decide +kernel, rfl, by decide +kernel, by decide +kernel⟩
theorem ok__law_played (T : Txt K mg D) : FnOk P w K mg base CX0 7 D.a__law_played D.d__law_played ["_law_moves_here", "_law_at", "_law_due_here"] (spPlayed K) := by
  have G_play := ok_play (P := P) (w := w) (base := base) T
  have G__law_plainq := okq__law_plain (P := P) (w := w) (base := base) T
  refine T.F__law_played.ok sc__law_played (fun vs H Q E h => ?_) (fun cdv A outer s H vs Q E hr h => ?_)
  · obtain ⟨a, du, at_, xs, cs, s, rfl, _⟩ := h
    rfl
  · obtain ⟨a, du, at_, xs, cs, s, rfl, hA, hx, hok, hlen, hE, hdu, k⟩ := h
    refine ⟨_, (pss_cons (ps_try_as (i := 4) (Wout := fun _ _ _ _ => False) rfl rfl sc__law_played.nd rfl rfl ⟨rfl, by decide, Or.inl T.g_BadMove⟩ takes0 (fun W pn xe tk _ => (pss_one (ps_set (i := 3) sc__law_played.nd rfl (Or.inl rfl) (pe_callS G_play (hr.mono (by decide)) (by rfl) T.g_play T.F_play.kp T.b_play (fun σ => passAt tk σ) (pa_cons (pv 0) pa_nil))))) (fun a oe cls d pn hz hf => XR.cong_ts (by exact (pss_one (ps_ret (pe_and (pe_cmpR op_ge (pv 1) pe_int (nomark _)) (pe_and (weak (u := XR.tCallQ (spC__law_plain D a cls d) (tCons (tVar 4) tNil)) (XR.pe_callQs G__law_plainq (XR.hot_of (hr.mono (by decide))) (by rfl) T.g__law_plain T.F__law_plain.kp T.b__law_plain (pa_cons (pv 4) pa_nil)) (fun _ _ _ h => impC__law_plain hz hf h)) (pe_and (pe_not (pe_callB isiS (by rfl) T.n_isinstance (by decide +kernel) (pa_cons (XR.pe_pfs hz hf (pv 4)) (pa_cons (pe_bltn (v := .ty "bool") (u := .type "bool") (by rfl) T.n_bool (by decide +kernel) rfl) pa_nil)))) (pe_one (pe_cmpR op_eq (XR.pe_pfs hz hf (pv 4)) (pv 1) (nomark _))))))))) (by rfl)))
      (pss_one (ps_ret (pe_and (pe_cmpR op_eq (pv 1) (pe_un un_neg pe_int) (nomark _)) (pe_and (pe_callB call_isi (by rfl) T.n_isinstance (by decide +kernel) (pa_cons (pv 3) (pa_cons (pe_bltn (v := .ty "tuple") (u := .type "tuple") (by rfl) T.n_tuple (by decide +kernel) rfl) pa_nil))) (pe_one (pe_cmpR (op_eqD hr.units) (pv 3) (pv 2) (nomark _)))))))), ?_⟩
    walk_at "rd"
    refine ⟨a, xs, cs, rfl, hA, hx, hlen, fun n s2 c h1 h2 h3 H0 x0 d H' hd x1 => ?_, fun s2 h t H1 x1 et => ?_⟩
    · have en : at_ = (n : Int) := by
        cases hE with
        | bad k1 k2 k3 => rw [bad_bad h1 h2 h3 k1 k2 k3]
        | all k1 => exact (bad_all h1 h2 h3 k1).elim
      subst en
      refine ⟨true, T.m_bb, fun _ ea hea => ?_, fun h => by cases h⟩
      walk_at "rd"
      refine ⟨d, _, rfl, rfl, rfl, hd, ?_⟩
      walk_at "rd"
      refine ⟨_, d, _, _, rfl, rfl, rfl, hd, T_xf_BadMove T, T.e_BadMove_at, rfl, ?_⟩
      walk_at "rd"
      refine ⟨_, _, _, _, false, rfl, .ty "bool", .base (.int _), kit_ty (by decide +kernel), ?_⟩
      walk_at "rd"
      refine ⟨_, d, _, _, rfl, rfl, rfl, hd, T_xf_BadMove T, T.e_BadMove_at, rfl, ?_⟩
      walk_at "rd"
      exact k.at (by simp) (x0.trans x1)
    · have es : at_ = -1 ∧ s2 = s := by
        cases hE with
        | bad k1 k2 k3 => exact (bad_all k1 k2 k3 h).elim
        | all k1 => exact ⟨rfl, Option.some.inj (h.symm.trans k1)⟩
      obtain ⟨rfl, rfl⟩ := es
      have hd1 := SqT.same (hdu rfl) x1
      have ok2 := (mvRun_ok hok _ h).1
      walk_at "rd"
      refine ⟨_, _, _, _, true, rfl, .ty "tuple", tyT (SqT.of et), kit_ty (by decide +kernel), ?_⟩
      walk_at "rd"
      refine ⟨_, _, .tup (SqT.of et) (DpAll.of_strs _), .tup hd1 (DpAll.of_strs _), (shaped_strs _ ok2).2, (shaped_strs _ ok2).2, ?_⟩
      exact k.at (strs_eqv _) x1
def spRested (K : PySem.W.Frag) : Sp := fun vs H Q _ => ∃ (a du : Addr) (at_ : Int) (xs : List V) (cs : List (Str × Str)) (s : Sk), vs = [.ref a, .int at_, .ref du] ∧ SqA K H a xs ∧ DpAll K H xs (sDs cs) ∧ (∀ c ∈ cs, okP 40 c) ∧ cs.length ≤ 132 ∧ End cs at_ s ∧
  (at_ = -1 → Dp K H (.ref du) (.list (sDs s.un))) ∧ Yes H Q
theorem sc__law_rested : FnScope ["_law_moves_here", "_law_at", "_law_due_here", "_law_told", "_law_e"] ["_law_moves_here", "_law_at", "_law_due_here"] (defScope s__law_rested) := ⟨rfl, rfl, rfl, by decide +kernel, rfl, by decide +kernel, by decide +kernel⟩
theorem ok__law_rested (T : Txt K mg D) : FnOk P w K mg base CX0 7 D.a__law_rested D.d__law_rested ["_law_moves_here", "_law_at", "_law_due_here"] (spRested K) := by
  have G_rests := ok_rests (P := P) (w := w) (base := base) T
  have G__law_plainq := okq__law_plain (P := P) (w := w) (base := base) T
  refine T.F__law_rested.ok sc__law_rested (fun vs H Q E h => ?_) (fun cdv A outer s H vs Q E hr h => ?_)
  · obtain ⟨a, du, at_, xs, cs, s, rfl, _⟩ := h
    rfl
  · obtain ⟨a, du, at_, xs, cs, s, rfl, hA, hx, hok, hlen, hE, hdu, k⟩ := h
    refine ⟨_, (pss_cons (ps_try_as (i := 4) (Wout := fun _ _ _ _ => False) rfl rfl sc__law_rested.nd rfl rfl ⟨rfl, by decide, Or.inl T.g_BadMove⟩ takes0 (fun W pn xe tk _ => (pss_one (ps_set (i := 3) sc__law_rested.nd rfl (Or.inl rfl) (pe_callS G_rests (hr.mono (by decide)) (by rfl) T.g_rests T.F_rests.kp T.b_rests (fun σ => passAt tk σ) (pa_cons (pv 0) pa_nil))))) (fun a oe cls d pn hz hf => XR.cong_ts (by exact (pss_one (ps_ret (pe_and (pe_cmpR op_ge (pv 1) pe_int (nomark _)) (pe_and (weak (u := XR.tCallQ (spC__law_plain D a cls d) (tCons (tVar 4) tNil)) (XR.pe_callQs G__law_plainq (XR.hot_of (hr.mono (by decide))) (by rfl) T.g__law_plain T.F__law_plain.kp T.b__law_plain (pa_cons (pv 4) pa_nil)) (fun _ _ _ h => impC__law_plain hz hf h)) (pe_and (pe_not (pe_callB isiS (by rfl) T.n_isinstance (by decide +kernel) (pa_cons (XR.pe_pfs hz hf (pv 4)) (pa_cons (pe_bltn (v := .ty "bool") (u := .type "bool") (by rfl) T.n_bool (by decide +kernel) rfl) pa_nil)))) (pe_one (pe_cmpR op_eq (XR.pe_pfs hz hf (pv 4)) (pv 1) (nomark _))))))))) (by rfl)))
      (pss_one (ps_ret (pe_and (pe_cmpR op_eq (pv 1) (pe_un un_neg pe_int) (nomark _)) (pe_and (pe_callB call_isi (by rfl) T.n_isinstance (by decide +kernel) (pa_cons (pv 3) (pa_cons (pe_bltn (v := .ty "list") (u := .type "list") (by rfl) T.n_list (by decide +kernel) rfl) pa_nil))) (pe_one (pe_cmpR (op_eqD hr.units) (pv 3) (pv 2) (nomark _)))))))), ?_⟩
    walk_at "rd"
    refine ⟨a, xs, cs, rfl, hA, hx, hlen, fun n s2 c h1 h2 h3 H0 x0 d H' hd x1 => ?_, fun s2 h t H1 x1 et => ?_⟩
    · have en : at_ = (n : Int) := by
        cases hE with
        | bad k1 k2 k3 => rw [bad_bad h1 h2 h3 k1 k2 k3]
        | all k1 => exact (bad_all h1 h2 h3 k1).elim
      subst en
      refine ⟨true, T.m_bb, fun _ ea hea => ?_, fun h => by cases h⟩
      walk_at "rd"
      refine ⟨d, _, rfl, rfl, rfl, hd, ?_⟩
      walk_at "rd"
      refine ⟨_, d, _, _, rfl, rfl, rfl, hd, T_xf_BadMove T, T.e_BadMove_at, rfl, ?_⟩
      walk_at "rd"
      refine ⟨_, _, _, _, false, rfl, .ty "bool", .base (.int _), kit_ty (by decide +kernel), ?_⟩
      walk_at "rd"
      refine ⟨_, d, _, _, rfl, rfl, rfl, hd, T_xf_BadMove T, T.e_BadMove_at, rfl, ?_⟩
      walk_at "rd"
      exact k.at (by simp) (x0.trans x1)
    · have es : at_ = -1 ∧ s2 = s := by
        cases hE with
        | bad k1 k2 k3 => exact (bad_all k1 k2 k3 h).elim
        | all k1 => exact ⟨rfl, Option.some.inj (h.symm.trans k1)⟩
      obtain ⟨rfl, rfl⟩ := es
      have hd1 := Dp.same x1 (hdu rfl)
      have ok2 := (mvRun_ok hok _ h).2
      obtain ⟨t', txs, e, ht, _⟩ := Dp.lst_inv et
      cases e
      walk_at "rd"
      refine ⟨_, _, _, _, true, rfl, .ty "list", tyL ht, kit_ty (by decide +kernel), ?_⟩
      walk_at "rd"
      refine ⟨_, _, et, hd1, shaped_sDs _ ok2, shaped_sDs _ ok2, ?_⟩
      exact k.at (sDs_eqv _) x1
end
end Toy
set_option Elab.async false
set_option linter.all false
set_option maxRecDepth 100000
set_option maxHeartbeats 4000000
namespace Toy
open PySem L2 XR
local macro_rules | `(tactic| walk_at "ne") => `(tactic| first | assumption | (apply Ne.symm; assumption) | exact XR.ne_fresh (by assumption) (by walk_at "hp") | exact Ne.symm (XR.ne_fresh (by assumption) (by walk_at "hp")))
local macro_rules | `(tactic| walk_at "hp") => `(tactic| first | assumption | exact upd_same | (refine Eq.trans (upd_ne ?_) ?_; (walk_at "ne"); walk_at "hp"))
local macro_rules | `(tactic| walk_at "sq") => `(tactic| first | walk_at "hp" | exact SqL.of (by walk_at "hp") | exact SqT.of (by walk_at "hp") | exact XR.SqT.same (by assumption) (by assumption) | exact XR.SqL.same (by assumption) (by assumption))
local macro_rules | `(tactic| walk_at "br") => `(tactic| (refine ite2 ?_ ?_ <;> intro hbr <;> (try simp only [decide_eq_true_eq, decide_eq_false_iff_not, V.int.injEq, V.bl.injEq, V.str.injEq, Bool.not_eq_true, Bool.not_eq_eq_eq_not, Bool.not_true, Bool.not_false, ne_eq, Int.reduceToNat, Int.reducePow, Int.reduceMul, Int.reduceAdd, Int.reduceSub, reduceCtorEq, not_true_eq_false, not_false_eq_true, Int.not_lt, Int.not_le] at hbr)))
local macro_rules | `(tactic| walk_at "side") => `(tactic| first
  | exact ⟨by decide, by decide, by decide⟩
  | exact .inl ⟨by decide, by decide⟩
  | exact .inr ⟨by decide, by decide⟩
  | exact XR.divw (by first | decide | omega) (by first | decide | omega)
  | (show (_ : Int) = _; first | rfl | omega)
  | (show (0 : Int) < _; first | decide | assumption | omega)
  | exact .inl ⟨by omega, by omega⟩
  | exact .inr ⟨by omega, by omega⟩
  | exact .inl (XR.cmul_mod (by decide))
  | exact XR.log_lt (by omega) (by omega)
  | decide
  | (rw [sizeLine_eq]; simp; done)
  | (show 2 ≤ sizeLine; decide) | (show 3 ≤ sizeLine; decide) | (show 4 ≤ sizeLine; decide) | (show 5 ≤ sizeLine; decide) | (show 6 ≤ sizeLine; decide) | (show 7 ≤ sizeLine; decide) | (show 1 ≤ sizeLine; decide) | (show 8 ≤ sizeLine; decide) | (show 0 ≤ sizeLine; decide))
local macro_rules | `(tactic| walk_at "rd1") => `(tactic| first
  | refine ⟨_, rfl, ?_⟩
  | refine ⟨_, _, rfl, rfl, ?_⟩
  | refine ⟨_, _, _, _, rfl, rfl, (by walk_at "sq"), rfl, ?_⟩
  | refine ⟨_, _, _, _, rfl, rfl, (by walk_at "hp"), (by walk_at "hp"), (by walk_at "side"), ?_⟩
  | refine ⟨_, _, rfl, .inl (by walk_at "sq"), ?_⟩
  | refine ⟨_, _, rfl, .inl ⟨(by walk_at "sq"), ?_⟩⟩
  | refine ⟨_, _, rfl, .inr (by walk_at "sq"), ?_⟩
  | refine ⟨_, _, _, _, _, rfl, (by walk_at "hp"), (by walk_at "cls"), (by walk_at "noat"), rfl, ?_⟩
  | refine ⟨_, _, _, _, rfl, rfl, (by walk_at "sq"), (by first | assumption | exact XR.at0 | exact XR.at1), ?_⟩
  | refine ⟨rfl, ?_⟩
  | refine And.intro (by walk_at "side") ?_
  | refine .inl ⟨_, rfl, ?_⟩
  | refine And.intro ⟨_, (by walk_at "sq")⟩ ?_
  | refine ⟨_, _, rfl, (by walk_at "sq"), ?_⟩
  | refine ⟨_, _, rfl, ?_⟩
  | refine .inr ⟨_, rfl, (by walk_at "side"), ?_⟩
  | refine ⟨_, _, _, rfl, (by walk_at "hp"), ?_⟩
  | refine iteT ?_
  | refine iteF ?_)
local macro_rules | `(tactic| walk_at "rd") => `(tactic| repeat (walk_at "rd1"))
local macro_rules | `(tactic| walk_at "nn") => `(tactic| (simp only [Int.reduceToNat, Int.reducePow, Int.reduceMul, Int.reduceAdd, Int.reduceSub, Int.reduceNeg]))
local macro_rules | `(tactic| walk_at "dr") => `(tactic| repeat (first | refine And.intro (by first | assumption | walk_at "pre") ?_ | refine And.intro (by first | decide | omega) ?_))
local macro_rules | `(tactic| walk_at "pre") => `(tactic| first | assumption | exact BoxAt.new (by walk_at "pre") (by assumption) | exact BoxAt.put (by walk_at "pre") (by assumption) | exact BoxAt.same (by walk_at "pre") (by assumption))
section
variable {P : Program} {w : World} {K : PySem.W.Frag} {mg : Str → Option Value} {base : Heap} {D : Ad}
def spRight (K : PySem.W.Frag) : Sp := fun vs H Q _ => ∃ (a : Addr) (xs : List V) (cs : List (Str × Str)), vs = [.ref a] ∧ SqL K H a xs ∧ DpAll K H xs (sDs cs) ∧ (∀ c ∈ cs, okP 40 c) ∧ cs.length ≤ 132 ∧ Yes H Q
theorem run_end (cs : List (Str × Str)) : (∃ s, mvRun cs cs.length = some s) ∨ ∃ n s c, mvRun cs n = some s ∧ cs[n]? = some c ∧ mvStep s c = none := by
  have h : ∀ m, m ≤ cs.length → (∃ s, mvRun cs m = some s) ∨ ∃ n s c, mvRun cs n = some s ∧ cs[n]? = some c ∧ mvStep s c = none := fun m => by
    induction m with
    | zero => exact fun _ => .inl ⟨_, rfl⟩
    | succ m ih =>
      intro hm
      rcases ih (by omega) with ⟨s, h⟩ | h
      · have hc := List.getElem?_eq_getElem (l := cs) (i := m) (by omega)
        cases e : mvStep s cs[m] with
        | none => exact .inr ⟨m, s, _, h, hc, e⟩
        | some u => exact .inl ⟨u, mvRun_succ h hc e⟩
      · exact .inr h
  exact h _ (Nat.le_refl _)
theorem sc__law_right : FnScope ["_law_moves_here", "_law_at", "_law_stack", "_law_under", "_law_handed"] ["_law_moves_here"] (defScope s__law_right) := ⟨rfl, rfl, rfl, by decide +kernel, rfl, by decide +kernel, by decide +kernel⟩
theorem ok__law_right (T : Txt K mg D) : FnOk P w K mg base CX0 9 D.a__law_right D.d__law_right ["_law_moves_here"] (spRight K) := by
  have G__law_played := ok__law_played (P := P) (w := w) (base := base) T
  have G__law_rested := ok__law_rested (P := P) (w := w) (base := base) T
  have G__law_due := ok__law_due (P := P) (w := w) (base := base) T
  refine T.F__law_right.ok sc__law_right (fun vs H Q E h => ?_) (fun cdv A outer s H vs Q E hr h => ?_)
  · obtain ⟨a, xs, cs, rfl, _⟩ := h
    rfl
  · obtain ⟨a, xs, cs, rfl, hA, hx, hok, hlen, k⟩ := h
    refine ⟨_, (pss_cons (ps_asg (pe_call G__law_due (hr.mono (by decide)) (by rfl) T.g__law_due T.F__law_due.kp T.b__law_due .nil pass0 (pa_cons (pv 0) pa_nil)) (pg_tup (by rfl) (pgs_cons (pg_name (i := 1) sc__law_right.nd rfl (Or.inl rfl)) (pgs_cons (pg_name (i := 2) sc__law_right.nd rfl (Or.inl rfl)) (pgs_cons (pg_name (i := 3) sc__law_right.nd rfl (Or.inl rfl)) pgs_nil)))))
      (pss_cons (ps_set (i := 4) sc__law_right.nd rfl (Or.inl rfl) (pe_callTy call_list_of (by rfl) T.n_list (by decide +kernel) (pa_cons (pv 0) pa_nil)))
      (pss_cons (ps_if (PW.pt (pw_or (pt_not (pt_val (pe_call G__law_played (hr.mono (by decide)) (by rfl) T.g__law_played T.F__law_played.kp T.b__law_played .nil pass0 (pa_cons (pv 4) (pa_cons (pv 1) (pa_cons (pv 2) pa_nil)))))) (pw_or1 (pt_not (pt_val (pe_call G__law_rested (hr.mono (by decide)) (by rfl) T.g__law_rested T.F__law_rested.kp T.b__law_rested .nil pass0 (pa_cons (pv 4) (pa_cons (pv 1) (pa_cons (pv 3) pa_nil)))))))))
      (pss_one (ps_ret pe_bl))
      pss_nil)
      (pss_cons (ps_if (pt_cmpR (op_neD hr.units) (pv 4) (pv 0) (nomark _))
      (pss_one (ps_ret pe_bl))
      pss_nil)
      (pss_one (ps_ret (pe_and (pe_call G__law_rested (hr.mono (by decide)) (by rfl) T.g__law_rested T.F__law_rested.kp T.b__law_rested .nil pass0 (pa_cons (pe_callTy call_tuple_of (by rfl) T.n_tuple (by decide +kernel) (pa_cons (pv 0) pa_nil)) (pa_cons (pv 1) (pa_cons (pv 3) pa_nil)))) (pe_one (pe_call G__law_played (hr.mono (by decide)) (by rfl) T.g__law_played T.F__law_played.kp T.b__law_played .nil pass0 (pa_cons (pe_callTy call_tuple_of (by rfl) T.n_tuple (by decide +kernel) (pa_cons (pv 0) pa_nil)) (pa_cons (pv 1) (pa_cons (pv 2) pa_nil)))))))))))), ?_⟩
    walk_at "rd"
    refine ⟨a, xs, cs, rfl, hA, hx, hok, hlen, fun n s c h1 h2 h3 t H1 e l x1 et ee el => ?_, fun s h t e l H1 x1 et ee el => ?_⟩
    · have hE : End cs (n : Int) s := .bad h1 h2 h3
      have d1 : (n : Int) = -1 → SqT K H1 e (s.st.map V.str) := fun z => absurd z (by omega)
      have d2 : (n : Int) = -1 → Dp K H1 (.ref l) (.list (sDs s.un)) := fun z => absurd z (by omega)
      have hA1 := SqL.same hA x1
      have sT : SqT K H1 t [.int (n : Int), .ref e, .ref l] := SqT.of et
      walk_at "rd"
      intro p hp
      have x2 : Same H (L2.upd H1 p (.lst xs)) := x1.trans (Same.add hp)
      have hp2 : (L2.upd H1 p (.lst xs)) p = some (.lst xs) := upd_same
      have y2 : Same H1 (L2.upd H1 p (.lst xs)) := Same.add hp
      generalize L2.upd H1 p (.lst xs) = H2 at x2 hp2 y2 ⊢
      walk_at "rd"
      refine ⟨p, e, (n : Int), xs, cs, s, rfl, .inl (SqL.of hp2), DpAll.same x2 hx, hok, hlen, hE, fun z => SqT.same (d1 z) y2, fun H3 x3 => ?_⟩
      walk_at "rd"
      have y3 := y2.trans x3
      have hp3 := x3 _ _ hp2
      refine ⟨p, l, (n : Int), xs, cs, s, rfl, .inl (SqL.of hp3), DpAll.same (x2.trans x3) hx, hok, hlen, hE, fun z => Dp.same y3 (d2 z), fun H4 x4 => ?_⟩
      have y4 := y3.trans x4
      have X4 := (x2.trans x3).trans x4
      have hp4 := x4 _ _ hp3
      walk_at "rd"
      refine ⟨_, _, .lst (SqL.of hp4) (DpAll.same X4 hx), .lst (SqL.same hA X4) (DpAll.same X4 hx), shaped_sDs cs hok, shaped_sDs cs hok, ?_⟩
      rw [show PyData.eqv (.list (sDs cs)) (.list (sDs cs)) = true from sDs_eqv cs]
      have hA4 := SqL.same hA X4
      walk_at "rd"
      intro u hu
      have y5 : Same H1 (L2.upd H4 u (.tup xs)) := y4.trans (Same.add hu)
      have X5 : Same H (L2.upd H4 u (.tup xs)) := X4.trans (Same.add hu)
      have hu5 : (L2.upd H4 u (.tup xs)) u = some (.tup xs) := upd_same
      generalize L2.upd H4 u (.tup xs) = H5 at y5 X5 hu5 ⊢
      walk_at "rd"
      refine ⟨u, l, (n : Int), xs, cs, s, rfl, .inr (SqT.of hu5), DpAll.same X5 hx, hok, hlen, hE, fun z => Dp.same y5 (d2 z), fun H6 x6 => ?_⟩
      have hA6 := SqL.same hA (X5.trans x6)
      walk_at "rd"
      intro v hv
      have y7 : Same H1 (L2.upd H6 v (.tup xs)) := (y5.trans x6).trans (Same.add hv)
      have X7 : Same H (L2.upd H6 v (.tup xs)) := (X5.trans x6).trans (Same.add hv)
      have hv7 : (L2.upd H6 v (.tup xs)) v = some (.tup xs) := upd_same
      generalize L2.upd H6 v (.tup xs) = H7 at y7 X7 hv7 ⊢
      walk_at "rd"
      refine ⟨v, e, (n : Int), xs, cs, s, rfl, .inr (SqT.of hv7), DpAll.same X7 hx, hok, hlen, hE, fun z => SqT.same (d1 z) y7, fun H8 x8 => ?_⟩
      exact k _ (X7.trans x8)
    · have hE : End cs (-1) s := .all h
      have d1 : (-1 : Int) = -1 → SqT K H1 e (s.st.map V.str) := fun _ => SqT.of ee
      have d2 : (-1 : Int) = -1 → Dp K H1 (.ref l) (.list (sDs s.un)) := fun _ => el
      have hA1 := SqL.same hA x1
      have sT : SqT K H1 t [.int (-1), .ref e, .ref l] := SqT.of et
      walk_at "rd"
      intro p hp
      have x2 : Same H (L2.upd H1 p (.lst xs)) := x1.trans (Same.add hp)
      have hp2 : (L2.upd H1 p (.lst xs)) p = some (.lst xs) := upd_same
      have y2 : Same H1 (L2.upd H1 p (.lst xs)) := Same.add hp
      generalize L2.upd H1 p (.lst xs) = H2 at x2 hp2 y2 ⊢
      walk_at "rd"
      refine ⟨p, e, (-1), xs, cs, s, rfl, .inl (SqL.of hp2), DpAll.same x2 hx, hok, hlen, hE, fun z => SqT.same (d1 z) y2, fun H3 x3 => ?_⟩
      walk_at "rd"
      have y3 := y2.trans x3
      have hp3 := x3 _ _ hp2
      refine ⟨p, l, (-1), xs, cs, s, rfl, .inl (SqL.of hp3), DpAll.same (x2.trans x3) hx, hok, hlen, hE, fun z => Dp.same y3 (d2 z), fun H4 x4 => ?_⟩
      have y4 := y3.trans x4
      have X4 := (x2.trans x3).trans x4
      have hp4 := x4 _ _ hp3
      walk_at "rd"
      refine ⟨_, _, .lst (SqL.of hp4) (DpAll.same X4 hx), .lst (SqL.same hA X4) (DpAll.same X4 hx), shaped_sDs cs hok, shaped_sDs cs hok, ?_⟩
      rw [show PyData.eqv (.list (sDs cs)) (.list (sDs cs)) = true from sDs_eqv cs]
      have hA4 := SqL.same hA X4
      walk_at "rd"
      intro u hu
      have y5 : Same H1 (L2.upd H4 u (.tup xs)) := y4.trans (Same.add hu)
      have X5 : Same H (L2.upd H4 u (.tup xs)) := X4.trans (Same.add hu)
      have hu5 : (L2.upd H4 u (.tup xs)) u = some (.tup xs) := upd_same
      generalize L2.upd H4 u (.tup xs) = H5 at y5 X5 hu5 ⊢
      walk_at "rd"
      refine ⟨u, l, (-1), xs, cs, s, rfl, .inr (SqT.of hu5), DpAll.same X5 hx, hok, hlen, hE, fun z => Dp.same y5 (d2 z), fun H6 x6 => ?_⟩
      have hA6 := SqL.same hA (X5.trans x6)
      walk_at "rd"
      intro v hv
      have y7 : Same H1 (L2.upd H6 v (.tup xs)) := (y5.trans x6).trans (Same.add hv)
      have X7 : Same H (L2.upd H6 v (.tup xs)) := (X5.trans x6).trans (Same.add hv)
      have hv7 : (L2.upd H6 v (.tup xs)) v = some (.tup xs) := upd_same
      generalize L2.upd H6 v (.tup xs) = H7 at y7 X7 hv7 ⊢
      walk_at "rd"
      refine ⟨v, e, (-1), xs, cs, s, rfl, .inr (SqT.of hv7), DpAll.same X7 hx, hok, hlen, hE, fun z => SqT.same (d1 z) y7, fun H8 x8 => ?_⟩
      exact k _ (X7.trans x8)
end
end Toy
set_option Elab.async false
set_option linter.all false
set_option maxRecDepth 100000
set_option maxHeartbeats 4000000
namespace Toy
open PySem L2 XR
local macro_rules | `(tactic| walk_at "ne") => `(tactic| first | assumption | (apply Ne.symm; assumption) | exact XR.ne_fresh (by assumption) (by walk_at "hp") | exact Ne.symm (XR.ne_fresh (by assumption) (by walk_at "hp")))
local macro_rules | `(tactic| walk_at "hp") => `(tactic| first | assumption | exact upd_same | (refine Eq.trans (upd_ne ?_) ?_; (walk_at "ne"); walk_at "hp"))
local macro_rules | `(tactic| walk_at "sq") => `(tactic| first | walk_at "hp" | exact SqL.of (by walk_at "hp") | exact SqT.of (by walk_at "hp") | exact XR.SqT.same (by assumption) (by assumption) | exact XR.SqL.same (by assumption) (by assumption))
local macro_rules | `(tactic| walk_at "br") => `(tactic| (refine ite2 ?_ ?_ <;> intro hbr <;> (try simp only [decide_eq_true_eq, decide_eq_false_iff_not, V.int.injEq, V.bl.injEq, V.str.injEq, Bool.not_eq_true, Bool.not_eq_eq_eq_not, Bool.not_true, Bool.not_false, ne_eq, Int.reduceToNat, Int.reducePow, Int.reduceMul, Int.reduceAdd, Int.reduceSub, reduceCtorEq, not_true_eq_false, not_false_eq_true, Int.not_lt, Int.not_le] at hbr)))
local macro_rules | `(tactic| walk_at "side") => `(tactic| first
  | exact ⟨by decide, by decide, by decide⟩
  | exact .inl ⟨by decide, by decide⟩
  | exact .inr ⟨by decide, by decide⟩
  | exact XR.divw (by first | decide | omega) (by first | decide | omega)
  | (show (_ : Int) = _; first | rfl | omega)
  | (show (0 : Int) < _; first | decide | assumption | omega)
  | exact .inl ⟨by omega, by omega⟩
  | exact .inr ⟨by omega, by omega⟩
  | exact .inl (XR.cmul_mod (by decide))
  | exact XR.log_lt (by omega) (by omega)
  | decide
  | (rw [sizeLine_eq]; simp; done)
  | (show 2 ≤ sizeLine; decide) | (show 3 ≤ sizeLine; decide) | (show 4 ≤ sizeLine; decide) | (show 5 ≤ sizeLine; decide) | (show 6 ≤ sizeLine; decide) | (show 7 ≤ sizeLine; decide) | (show 1 ≤ sizeLine; decide) | (show 8 ≤ sizeLine; decide) | (show 0 ≤ sizeLine; decide))
local macro_rules | `(tactic| walk_at "rd1") => `(tactic| first
  | refine ⟨_, rfl, ?_⟩
  | refine ⟨_, _, rfl, rfl, ?_⟩
  | refine ⟨_, _, _, _, rfl, rfl, (by walk_at "sq"), rfl, ?_⟩
  | refine ⟨_, _, _, _, rfl, rfl, (by walk_at "hp"), (by walk_at "hp"), (by walk_at "side"), ?_⟩
  | refine ⟨_, _, rfl, .inl (by walk_at "sq"), ?_⟩
  | refine ⟨_, _, rfl, .inl ⟨(by walk_at "sq"), ?_⟩⟩
  | refine ⟨_, _, rfl, .inr (by walk_at "sq"), ?_⟩
  | refine ⟨_, _, _, _, _, rfl, (by walk_at "hp"), (by walk_at "cls"), (by walk_at "noat"), rfl, ?_⟩
  | refine ⟨_, _, _, _, rfl, rfl, (by walk_at "sq"), (by first | assumption | exact XR.at0 | exact XR.at1), ?_⟩
  | refine ⟨rfl, ?_⟩
  | refine And.intro (by walk_at "side") ?_
  | refine .inl ⟨_, rfl, ?_⟩
  | refine And.intro ⟨_, (by walk_at "sq")⟩ ?_
  | refine ⟨_, _, rfl, (by walk_at "sq"), ?_⟩
  | refine ⟨_, _, rfl, ?_⟩
  | refine .inr ⟨_, rfl, (by walk_at "side"), ?_⟩
  | refine ⟨_, _, _, rfl, (by walk_at "hp"), ?_⟩
  | refine iteT ?_
  | refine iteF ?_)
local macro_rules | `(tactic| walk_at "rd") => `(tactic| repeat (walk_at "rd1"))
local macro_rules | `(tactic| walk_at "nn") => `(tactic| (simp only [Int.reduceToNat, Int.reducePow, Int.reduceMul, Int.reduceAdd, Int.reduceSub, Int.reduceNeg]))
local macro_rules | `(tactic| walk_at "dr") => `(tactic| repeat (first | refine And.intro (by first | assumption | walk_at "pre") ?_ | refine And.intro (by first | decide | omega) ?_))
local macro_rules | `(tactic| walk_at "pre") => `(tactic| first | assumption | exact BoxAt.new (by walk_at "pre") (by assumption) | exact BoxAt.put (by walk_at "pre") (by assumption) | exact BoxAt.same (by walk_at "pre") (by assumption))
section
variable {P : Program} {w : World} {K : PySem.W.Frag} {mg : Str → Option Value} {base : Heap} {D : Ad}
def spLaw (K : PySem.W.Frag) : Sp := fun vs H Q _ => ∃ (a : Addr) (ns : List Int), vs = [.ref a] ∧ SqL K H a (ns.map V.int) ∧ ns.length ≤ 63 ∧ ∀ H', Q (.bl true) H'
theorem sc_law : FnScope ["_law_script", "_law_bag_here", "_law_rolls_here", "_law_moves_here", "_law_spoilt_here", "_law_sizes", "_law_size", "_law_k"] ["_law_script"] (defScope s_law) := ⟨rfl, rfl, rfl, by decide +kernel, rfl, by decide +kernel, by decide +kernel⟩
theorem ok_law (T : Txt K mg D) : FnOk P w K mg base CX0 11 D.a_law D.d_law ["_law_script"] (spLaw K) := by
  have G__law_right := ok__law_right (P := P) (w := w) (base := base) T
  have G__law_take := ok__law_take (P := P) (w := w) (base := base) T
  have G__law_spoilt := ok__law_spoilt (P := P) (w := w) (base := base) T
  have G__law_moves := ok__law_moves (P := P) (w := w) (base := base) T
  have G__law_rolls := ok__law_rolls (P := P) (w := w) (base := base) T
  have G__law_bag := ok__law_bag (P := P) (w := w) (base := base) T
  refine T.F_law.ok sc_law (fun vs H Q E h => ?_) (fun cdv A outer s H vs Q E hr h => ?_)
  · obtain ⟨a, ns, rfl, _⟩ := h
    rfl
  · obtain ⟨a, ns, rfl, hS, hl, k⟩ := h
    refine ⟨_, (pss_cons (ps_set (i := 1) sc_law.nd rfl (Or.inr rfl) (pe_call G__law_bag (hr.mono (by decide)) (by rfl) T.g__law_bag T.F__law_bag.kp T.b__law_bag .nil pass0 (pa_cons (pv 0) pa_nil)))
      (pss_cons (ps_set (i := 2) sc_law.nd rfl (Or.inl rfl) (pe_call G__law_rolls (hr.mono (by decide)) (by rfl) T.g__law_rolls T.F__law_rolls.kp T.b__law_rolls .nil pass0 (pa_cons (pv 1) (pa_cons (pe_ix ix_list (pe_lst (pa_cons pe_int (pa_cons pe_int (pa_cons pe_int (pa_cons pe_int (pa_cons pe_int (pa_cons pe_int (pa_cons pe_int (pa_cons pe_int pa_nil))))))))) (pe_call G__law_take (hr.mono (by decide)) (by rfl) T.g__law_take T.F__law_take.kp T.b__law_take .nil pass0 (pa_cons (pv 1) (pa_cons pe_int pa_nil))) (fun _ _ => rfl)) pa_nil))))
      (pss_cons (ps_set (i := 3) sc_law.nd rfl (Or.inl rfl) (pe_call G__law_moves (hr.mono (by decide)) (by rfl) T.g__law_moves T.F__law_moves.kp T.b__law_moves .nil pass0 (pa_cons (pv 1) (pa_cons (pv 2) pa_nil))))
      (pss_cons (ps_set (i := 4) sc_law.nd rfl (Or.inr rfl) (pe_call G__law_spoilt (hr.mono (by decide)) (by rfl) T.g__law_spoilt T.F__law_spoilt.kp T.b__law_spoilt .nil pass0 (pa_cons (pv 1) (pa_cons (pv 2) (pa_cons (pv 3) pa_nil)))))
      (pss_cons (ps_if (PW.pt (pw_or (pt_not (pt_val (pe_call G__law_right (hr.mono (by decide)) (by rfl) T.g__law_right T.F__law_right.kp T.b__law_right .nil pass0 (pa_cons (pv 3) pa_nil)))) (pw_or1 (pt_not (pt_val (pe_call G__law_right (hr.mono (by decide)) (by rfl) T.g__law_right T.F__law_right.kp T.b__law_right .nil pass0 (pa_cons (pv 4) pa_nil)))))))
      (pss_one (ps_ret pe_bl))
      pss_nil)
      (pss_cons (ps_set (i := 5) sc_law.nd rfl (Or.inl rfl) (pe_listRg rfl (by rfl) T.n_list (prg_1 (by rfl) T.n_range (pe_callB call_len_seq (by rfl) T.n_len (by decide +kernel) (pa_cons (pv 4) pa_nil)))))
      (Evl.pss_cut (ps_if (pt_cmpR op_gt (pe_callB call_len_seq (by rfl) T.n_len (by decide +kernel) (pa_cons (pv 4) pa_nil)) pe_int (nomark _))
      (pss_one (ps_setLc (i := 5) (own := [("_law_k", 7)]) (g := gName 7) (tt := tYes) (by rfl) sc_law.nd rfl rfl (sw_true rfl rfl rfl (by decide +kernel)) (pi_range1 (by rfl) T.n_range (pa_cons pe_int pa_nil)) (blkOk_by (own := [("_law_k", 7)]) (N := ["_law_script", "_law_bag_here", "_law_rolls_here", "_law_moves_here", "_law_spoilt_here", "_law_sizes", "_law_size", "_law_k"]) (sc := defScope s_law) (by decide +kernel)) (fun _ _ _ _ _ => (pg_name (i := 7) sc_law.nd rfl (Or.inl rfl))) (fun _ _ _ _ _ => pts_nil) (fun _ _ _ _ _ => (pe_call G__law_take (hr.mono (by decide)) (by rfl) T.g__law_take T.F__law_take.kp T.b__law_take .nil pass0 (pa_cons (pv 1) (pa_cons (pe_callB XR.call_len_seqb (by rfl) T.n_len (by decide +kernel) (pa_cons (pv 4) pa_nil)) pa_nil))))))
      pss_nil)
      (pss_cons (ps_for PassesOwn.never rfl (XR.pi_sq (pv 5)) (pg_name (i := 6) sc_law.nd rfl (Or.inl rfl))
      (pss_one (ps_if (pt_not (pt_val (pe_call G__law_right (hr.mono (by decide)) (by rfl) T.g__law_right T.F__law_right.kp T.b__law_right .nil pass0 (pa_cons (pe_slice sl_list (pv 4) po_none (po_some (pv 6))) pa_nil))))
      (pss_one (ps_ret pe_bl))
      pss_nil)))
      (pss_one (ps_ret (pe_call G__law_right (hr.mono (by decide)) (by rfl) T.g__law_right T.F__law_right.kp T.b__law_right .nil pass0 (pa_cons (pv 3) pa_nil)))))))))))), ?_⟩
    walk_at "rd"
    refine ⟨hl, fun b H1 nb x1 B1 => ?_⟩
    walk_at "rd"
    intro q hq
    have B2 := B1.new (o := .lst ([4, 3, 1, 2, 6, 9, 12, 16].map V.int)) hq
    walk_at "rd"
    walk_at "dr"
    intro r1 H2 p1 q1 B3 x2
    obtain ⟨n, hn, hn1⟩ := ints_at (P := fun z => 1 ≤ z ∧ z ≤ 16) [4, 3, 1, 2, 6, 9, 12, 16] p1 q1 (by decide)
    have hq2 := x2 _ _ (BoxAt.ne B1 hq) upd_same
    refine ⟨_, _, _, _, rfl, rfl, SqL.of hq2, hn, ?_⟩
    walk_at "rd"
    refine ⟨hn1.2, fun l H3 ss nl nlb el hlen ok B4 x3 => ?_⟩
    have S1 := (StB.refl (b := b) (same_nil (H := H3)) rfl).freeze nlb rfl el
    have hl1 : (L2.upd (fun _ => none) l (.lst (ss.map V.str))) l = some (.lst (ss.map V.str)) := upd_same
    generalize L2.upd (fun _ => none) l (.lst (ss.map V.str)) = G1 at S1 hl1
    walk_at "rd"
    refine ⟨b, l, ss, G1, rfl, B4, S1.vw, S1.gb, el, by omega, ok, nlb, fun m G2 H4 cs S2 dm hcs B5 => ?_⟩
    walk_at "rd"
    refine ⟨b, l, m, ss, cs, G2, rfl, B5, S2.vw, S2.gb, S2.gg _ _ hl1, by omega, ok, dm, hcs, fun p G3 H5 cs' S3 dp ok' len' B6 => ?_⟩
    obtain ⟨m', mxs, em, hsm, dsm⟩ := Dp.lst_inv dm
    cases em
    obtain ⟨p', pxs, ep, hsp, dsp⟩ := Dp.lst_inv dp
    cases ep
    have hsm3 := SqL.same hsm S3.gg
    have dsm3 := DpAll.same S3.gg dsm
    walk_at "rd"
    refine ⟨m, mxs, cs, rfl, SqL.same hsm3 S3.vw, DpAll.same S3.vw dsm3, hcs.1, by have := hcs.2; omega, fun H6 x6 => ?_⟩
    walk_at "rd"
    refine ⟨p, pxs, cs', rfl, SqL.same (SqL.same hsp S3.vw) x6, DpAll.same (S3.vw.trans x6) dsp, ok', len', fun H7 x7 => ?_⟩
    have v7 : Same G3 H7 := (S3.vw.trans x6).trans x7
    have B7 := (B6.same x6).same x7
    have hp7 := SqL.same hsp v7
    have lp : pxs.length = cs'.length := by rw [DpAll.length dsp, List.length_map]
    walk_at "rd"
    refine ⟨RgOk.of_le (by decide) (by omega) (by decide) (by omega), fun z hz => ?_⟩
    have er : rgV 0 (pxs.length : Int) = ((List.range ((pxs.length : Int) - 0).toNat).map fun i : Nat => (0 : Int) + (i : Int)).map V.int := by unfold rgV; rw [List.map_map]; rfl
    rw [er]
    generalize ((List.range ((pxs.length : Int) - 0).toNat).map fun i : Nat => (0 : Int) + (i : Int)) = zs0
    have v8 : Same G3 (L2.upd H7 z (.lst (zs0.map V.int))) := v7.trans (Same.add hz)
    have B8 := B7.new (o := .lst (zs0.map V.int)) hz
    have hz8 : (L2.upd H7 z (.lst (zs0.map V.int))) z = some (.lst (zs0.map V.int)) := upd_same
    generalize L2.upd H7 z (.lst (zs0.map V.int)) = H8 at v8 B8 hz8 ⊢
    have hp8 := SqL.same hsp v8
    walk_at "rd"
    refine ⟨fun σ' H' => Stop (∃ (z : Addr) (zs : List Int) (v1 v2 : Option V), σ' = [some (.ref a), some (.ref b), some (.ref l), some (.ref m), some (.ref p), some (.ref z), v1, v2] ∧ H' z = some (.lst (zs.map V.int)) ∧ Same G3 H'), ?_, fun σ9 H9 hI => ?_⟩
    · walk_at "rd"
      walk_at "br"
      · rename_i h12
        walk_at "rd"
        intro Dl hD
        have gD : G3 Dl = none := Same.free v8 hD
        have nDb : Dl ≠ b := BoxAt.ne B8 hD
        refine lc_range (fun i H' => ∃ us : List Int, H' Dl = some (.lst (us.map V.int)) ∧ us.length = i ∧ BoxAt H' b ∧ Same G3 H') ⟨[], upd_same, rfl, B8.new hD, v8.trans (Same.add hD)⟩ ?_ ?_
        · rintro i H9 hi ⟨us, e1, e2, B9, v9⟩
          have hp9 := SqL.same hsp v9
          walk_at "rd1"
          refine ⟨_, rfl, ?_⟩
          refine ⟨_, rfl, ?_⟩
          refine ⟨_, _, rfl, .inl hp9, ?_⟩
          refine ⟨b, _, rfl, B9, by omega, by omega, fun r H10 q1 q2 B10 x10 => ?_⟩
          have e10 := x10 _ _ nDb e1
          have v10 : Same G3 H10 := fun q o e => x10 q o (fun z => by rw [z, S3.gb] at e; cases e) (v9 q o e)
          refine ⟨_, e10, by rw [List.length_map, sizeLine_eq]; omega, us ++ [r], by rw [List.map_append]; exact upd_same, by rw [List.length_append, e2]; rfl, B10.put nDb, up_vw v10 gD⟩
        · rintro H9 ⟨us, e1, e2, B9, v9⟩
          walk_at "rd"
          exact .go ⟨Dl, us, _, _, rfl, e1, v9⟩
      · exact .go ⟨z, zs0, _, _, rfl, hz8, v8⟩
    obtain ⟨z, zs, v1, v2, rfl, ez, v9⟩ := hI.out
    have hm9 := SqL.same hsm3 v9
    walk_at "rd"
    refine ⟨z, _, H9, rfl, .inl (SqL.of ez), Same.refl _, fun J W => ?_⟩
    refine for_it W (fun i σ H' => Stop (∃ (v1 v2 : Option V), σ = [some (.ref a), some (.ref b), some (.ref l), some (.ref m), some (.ref p), some (.ref z), v1, v2] ∧ Same H9 H')) (.go ⟨v1, v2, rfl, Same.refl _⟩) (fun i σ H' _ I => by obtain ⟨_, _, _, x⟩ := I.out; exact x) ?_ ?_
    · rintro i x σ H10 _ hi I ⟨rfl, hx⟩
      obtain ⟨v1, v2, rfl, x10⟩ := I.out
      obtain ⟨y, hy, rfl⟩ := get_int hx
      have hp10 := SqL.same (SqL.same hsp v9) x10
      walk_at "rd"
      intro u hu
      obtain ⟨ds, d1, d2, d3⟩ := cutV_dp dsp none (some y)
      refine ⟨u, _, ds, rfl, SqL.of upd_same, DpAll.same ((v9.trans x10).trans (Same.add hu)) d1, fun c hc => ok' c (d2 c hc), by omega, fun H11 x11 => ?_⟩
      walk_at "rd"
      exact .go ⟨_, _, rfl, (x10.trans (Same.add hu)).trans x11⟩
    · intro σ H10 I
      obtain ⟨v1, v2, rfl, x10⟩ := I.out
      walk_at "rd"
      refine ⟨m, mxs, cs, rfl, SqL.same hm9 x10, DpAll.same (v9.trans x10) dsm3, hcs.1, by have := hcs.2; omega, fun H11 x11 => ?_⟩
      exact k _
end
end Toy
set_option Elab.async false
set_option linter.all false
set_option maxRecDepth 100000
set_option maxHeartbeats 4000000
namespace Toy
open PySem L2 XR
section
theorem all_mk {l : PySem.W.OpenLaw} {w : World} {K : PySem.W.Frag} {h : Heap} {mg : Str → Option Value} {fa : Addr} (X : K.In h) (G : h.Ns mainGlobals mg) (hfa : mg "law" = some (.ref fa))
    {x_BadMove_init x__play x_play x_rests x__law_bag x__law_take x__law_rolls x__law_moves x__law_wild x__law_spoilt x__law_due x__law_plain x__law_played x__law_rested x__law_right x_law x_ArchiveError x_UnknownError x_TextError x_ImpossibleError x_BadMove : Addr}
    {od_BadMove_init an_BadMove_init : Option Addr} {sl_BadMove_init : Array (Option Value)} {oc_BadMove_init kV_BadMove_init dc_BadMove_init pm_BadMove_init cd_BadMove_init ct_BadMove_init : Value}
    {od__play an__play : Option Addr} {sl__play : Array (Option Value)} {oc__play kV__play dc__play pm__play cd__play ct__play : Value}
    {od_play an_play : Option Addr} {sl_play : Array (Option Value)} {oc_play kV_play dc_play pm_play cd_play ct_play : Value}
    {od_rests an_rests : Option Addr} {sl_rests : Array (Option Value)} {oc_rests kV_rests dc_rests pm_rests cd_rests ct_rests : Value}
    {od__law_bag an__law_bag : Option Addr} {sl__law_bag : Array (Option Value)} {oc__law_bag kV__law_bag dc__law_bag pm__law_bag cd__law_bag ct__law_bag : Value}
    {od__law_take an__law_take : Option Addr} {sl__law_take : Array (Option Value)} {oc__law_take kV__law_take dc__law_take pm__law_take cd__law_take ct__law_take : Value}
    {od__law_rolls an__law_rolls : Option Addr} {sl__law_rolls : Array (Option Value)} {oc__law_rolls kV__law_rolls dc__law_rolls pm__law_rolls cd__law_rolls ct__law_rolls : Value}
    {od__law_moves an__law_moves : Option Addr} {sl__law_moves : Array (Option Value)} {oc__law_moves kV__law_moves dc__law_moves pm__law_moves cd__law_moves ct__law_moves : Value}
    {od__law_wild an__law_wild : Option Addr} {sl__law_wild : Array (Option Value)} {oc__law_wild kV__law_wild dc__law_wild pm__law_wild cd__law_wild ct__law_wild : Value}
    {od__law_spoilt an__law_spoilt : Option Addr} {sl__law_spoilt : Array (Option Value)} {oc__law_spoilt kV__law_spoilt dc__law_spoilt pm__law_spoilt cd__law_spoilt ct__law_spoilt : Value}
    {od__law_due an__law_due : Option Addr} {sl__law_due : Array (Option Value)} {oc__law_due kV__law_due dc__law_due pm__law_due cd__law_due ct__law_due : Value}
    {od__law_plain an__law_plain : Option Addr} {sl__law_plain : Array (Option Value)} {oc__law_plain kV__law_plain dc__law_plain pm__law_plain cd__law_plain ct__law_plain : Value}
    {od__law_played an__law_played : Option Addr} {sl__law_played : Array (Option Value)} {oc__law_played kV__law_played dc__law_played pm__law_played cd__law_played ct__law_played : Value}
    {od__law_rested an__law_rested : Option Addr} {sl__law_rested : Array (Option Value)} {oc__law_rested kV__law_rested dc__law_rested pm__law_rested cd__law_rested ct__law_rested : Value}
    {od__law_right an__law_right : Option Addr} {sl__law_right : Array (Option Value)} {oc__law_right kV__law_right dc__law_right pm__law_right cd__law_right ct__law_right : Value}
    {od_law an_law : Option Addr} {sl_law : Array (Option Value)} {oc_law kV_law dc_law pm_law cd_law ct_law : Value}
    {nm_BadMove q_BadMove : Str} {N_BadMove : Addr} {bs_BadMove bm_BadMove : List Value} {sn_BadMove : List Str} {sub_BadMove : List Value} {ab_BadMove : Bool} {col_BadMove : Option Bool} {dd_BadMove : Option Addr} {m0_BadMove m1_BadMove m2_BadMove m3_BadMove m5_BadMove : Option Value}
    (hC_ArchiveError : PySem.W.nsIn K mainGlobals "ArchiveError" = some (some (.ref x_ArchiveError)))
    (hK_ArchiveError : PySem.W.keepIn K (.ref x_ArchiveError) = true)
    (hC_UnknownError : PySem.W.nsIn K mainGlobals "UnknownError" = some (some (.ref x_UnknownError)))
    (hK_UnknownError : PySem.W.keepIn K (.ref x_UnknownError) = true)
    (hC_TextError : PySem.W.nsIn K mainGlobals "TextError" = some (some (.ref x_TextError)))
    (hK_TextError : PySem.W.keepIn K (.ref x_TextError) = true)
    (hC_ImpossibleError : PySem.W.nsIn K mainGlobals "ImpossibleError" = some (some (.ref x_ImpossibleError)))
    (hK_ImpossibleError : PySem.W.keepIn K (.ref x_ImpossibleError) = true)
    (hC_BadMove : PySem.W.nsIn K mainGlobals "BadMove" = some (some (.ref x_BadMove)))
    (hK_BadMove : PySem.W.keepIn K (.ref x_BadMove) = true)
    (ha_BadMove_init : PySem.W.findIn K (.ref x_BadMove) "__init__" = some (some (.ref x_BadMove_init)))
    (hi_BadMove_init : PySem.W.isFn K (.ref x_BadMove_init) = true)
    (hl_BadMove_init : K.lookup x_BadMove_init = some ⟨oc_BadMove_init, od_BadMove_init, .func (PySem.W.fnOf "__init__" "BadMove.__init__" (defArgs s_BadMove_init) (defBody s_BadMove_init) (defScope s_BadMove_init) .none kV_BadMove_init dc_BadMove_init pm_BadMove_init an_BadMove_init cd_BadMove_init ct_BadMove_init), sl_BadMove_init⟩)
    (hc_BadMove_init : PySem.W.codeIn K cd_BadMove_init "BadMove.__init__" = true)
    (hk_BadMove_init : PySem.W.keepIn K (.ref x_BadMove_init) = true)
    (ha__play : PySem.W.nsIn K mainGlobals "_play" = some (some (.ref x__play)))
    (hl__play : K.lookup x__play = some ⟨oc__play, od__play, .func (PySem.W.fnOf "_play" "_play" (defArgs s__play) (defBody s__play) (defScope s__play) .none kV__play dc__play pm__play an__play cd__play ct__play), sl__play⟩)
    (hc__play : PySem.W.codeIn K cd__play "_play" = true)
    (hk__play : PySem.W.keepIn K (.ref x__play) = true)
    (ha_play : PySem.W.nsIn K mainGlobals "play" = some (some (.ref x_play)))
    (hl_play : K.lookup x_play = some ⟨oc_play, od_play, .func (PySem.W.fnOf "play" "play" (defArgs s_play) (defBody s_play) (defScope s_play) .none kV_play dc_play pm_play an_play cd_play ct_play), sl_play⟩)
    (hc_play : PySem.W.codeIn K cd_play "play" = true)
    (hk_play : PySem.W.keepIn K (.ref x_play) = true)
    (ha_rests : PySem.W.nsIn K mainGlobals "rests" = some (some (.ref x_rests)))
    (hl_rests : K.lookup x_rests = some ⟨oc_rests, od_rests, .func (PySem.W.fnOf "rests" "rests" (defArgs s_rests) (defBody s_rests) (defScope s_rests) .none kV_rests dc_rests pm_rests an_rests cd_rests ct_rests), sl_rests⟩)
    (hc_rests : PySem.W.codeIn K cd_rests "rests" = true)
    (hk_rests : PySem.W.keepIn K (.ref x_rests) = true)
    (ha__law_bag : PySem.W.nsIn K mainGlobals "_law_bag" = some (some (.ref x__law_bag)))
    (hl__law_bag : K.lookup x__law_bag = some ⟨oc__law_bag, od__law_bag, .func (PySem.W.fnOf "_law_bag" "_law_bag" (defArgs s__law_bag) (defBody s__law_bag) (defScope s__law_bag) .none kV__law_bag dc__law_bag pm__law_bag an__law_bag cd__law_bag ct__law_bag), sl__law_bag⟩)
    (hc__law_bag : PySem.W.codeIn K cd__law_bag "_law_bag" = true)
    (hk__law_bag : PySem.W.keepIn K (.ref x__law_bag) = true)
    (ha__law_take : PySem.W.nsIn K mainGlobals "_law_take" = some (some (.ref x__law_take)))
    (hl__law_take : K.lookup x__law_take = some ⟨oc__law_take, od__law_take, .func (PySem.W.fnOf "_law_take" "_law_take" (defArgs s__law_take) (defBody s__law_take) (defScope s__law_take) .none kV__law_take dc__law_take pm__law_take an__law_take cd__law_take ct__law_take), sl__law_take⟩)
    (hc__law_take : PySem.W.codeIn K cd__law_take "_law_take" = true)
    (hk__law_take : PySem.W.keepIn K (.ref x__law_take) = true)
    (ha__law_rolls : PySem.W.nsIn K mainGlobals "_law_rolls" = some (some (.ref x__law_rolls)))
    (hl__law_rolls : K.lookup x__law_rolls = some ⟨oc__law_rolls, od__law_rolls, .func (PySem.W.fnOf "_law_rolls" "_law_rolls" (defArgs s__law_rolls) (defBody s__law_rolls) (defScope s__law_rolls) .none kV__law_rolls dc__law_rolls pm__law_rolls an__law_rolls cd__law_rolls ct__law_rolls), sl__law_rolls⟩)
    (hc__law_rolls : PySem.W.codeIn K cd__law_rolls "_law_rolls" = true)
    (hk__law_rolls : PySem.W.keepIn K (.ref x__law_rolls) = true)
    (ha__law_moves : PySem.W.nsIn K mainGlobals "_law_moves" = some (some (.ref x__law_moves)))
    (hl__law_moves : K.lookup x__law_moves = some ⟨oc__law_moves, od__law_moves, .func (PySem.W.fnOf "_law_moves" "_law_moves" (defArgs s__law_moves) (defBody s__law_moves) (defScope s__law_moves) .none kV__law_moves dc__law_moves pm__law_moves an__law_moves cd__law_moves ct__law_moves), sl__law_moves⟩)
    (hc__law_moves : PySem.W.codeIn K cd__law_moves "_law_moves" = true)
    (hk__law_moves : PySem.W.keepIn K (.ref x__law_moves) = true)
    (ha__law_wild : PySem.W.nsIn K mainGlobals "_law_wild" = some (some (.ref x__law_wild)))
    (hl__law_wild : K.lookup x__law_wild = some ⟨oc__law_wild, od__law_wild, .func (PySem.W.fnOf "_law_wild" "_law_wild" (defArgs s__law_wild) (defBody s__law_wild) (defScope s__law_wild) .none kV__law_wild dc__law_wild pm__law_wild an__law_wild cd__law_wild ct__law_wild), sl__law_wild⟩)
    (hc__law_wild : PySem.W.codeIn K cd__law_wild "_law_wild" = true)
    (hk__law_wild : PySem.W.keepIn K (.ref x__law_wild) = true)
    (ha__law_spoilt : PySem.W.nsIn K mainGlobals "_law_spoilt" = some (some (.ref x__law_spoilt)))
    (hl__law_spoilt : K.lookup x__law_spoilt = some ⟨oc__law_spoilt, od__law_spoilt, .func (PySem.W.fnOf "_law_spoilt" "_law_spoilt" (defArgs s__law_spoilt) (defBody s__law_spoilt) (defScope s__law_spoilt) .none kV__law_spoilt dc__law_spoilt pm__law_spoilt an__law_spoilt cd__law_spoilt ct__law_spoilt), sl__law_spoilt⟩)
    (hc__law_spoilt : PySem.W.codeIn K cd__law_spoilt "_law_spoilt" = true)
    (hk__law_spoilt : PySem.W.keepIn K (.ref x__law_spoilt) = true)
    (ha__law_due : PySem.W.nsIn K mainGlobals "_law_due" = some (some (.ref x__law_due)))
    (hl__law_due : K.lookup x__law_due = some ⟨oc__law_due, od__law_due, .func (PySem.W.fnOf "_law_due" "_law_due" (defArgs s__law_due) (defBody s__law_due) (defScope s__law_due) .none kV__law_due dc__law_due pm__law_due an__law_due cd__law_due ct__law_due), sl__law_due⟩)
    (hc__law_due : PySem.W.codeIn K cd__law_due "_law_due" = true)
    (hk__law_due : PySem.W.keepIn K (.ref x__law_due) = true)
    (ha__law_plain : PySem.W.nsIn K mainGlobals "_law_plain" = some (some (.ref x__law_plain)))
    (hl__law_plain : K.lookup x__law_plain = some ⟨oc__law_plain, od__law_plain, .func (PySem.W.fnOf "_law_plain" "_law_plain" (defArgs s__law_plain) (defBody s__law_plain) (defScope s__law_plain) .none kV__law_plain dc__law_plain pm__law_plain an__law_plain cd__law_plain ct__law_plain), sl__law_plain⟩)
    (hc__law_plain : PySem.W.codeIn K cd__law_plain "_law_plain" = true)
    (hk__law_plain : PySem.W.keepIn K (.ref x__law_plain) = true)
    (ha__law_played : PySem.W.nsIn K mainGlobals "_law_played" = some (some (.ref x__law_played)))
    (hl__law_played : K.lookup x__law_played = some ⟨oc__law_played, od__law_played, .func (PySem.W.fnOf "_law_played" "_law_played" (defArgs s__law_played) (defBody s__law_played) (defScope s__law_played) .none kV__law_played dc__law_played pm__law_played an__law_played cd__law_played ct__law_played), sl__law_played⟩)
    (hc__law_played : PySem.W.codeIn K cd__law_played "_law_played" = true)
    (hk__law_played : PySem.W.keepIn K (.ref x__law_played) = true)
    (ha__law_rested : PySem.W.nsIn K mainGlobals "_law_rested" = some (some (.ref x__law_rested)))
    (hl__law_rested : K.lookup x__law_rested = some ⟨oc__law_rested, od__law_rested, .func (PySem.W.fnOf "_law_rested" "_law_rested" (defArgs s__law_rested) (defBody s__law_rested) (defScope s__law_rested) .none kV__law_rested dc__law_rested pm__law_rested an__law_rested cd__law_rested ct__law_rested), sl__law_rested⟩)
    (hc__law_rested : PySem.W.codeIn K cd__law_rested "_law_rested" = true)
    (hk__law_rested : PySem.W.keepIn K (.ref x__law_rested) = true)
    (ha__law_right : PySem.W.nsIn K mainGlobals "_law_right" = some (some (.ref x__law_right)))
    (hl__law_right : K.lookup x__law_right = some ⟨oc__law_right, od__law_right, .func (PySem.W.fnOf "_law_right" "_law_right" (defArgs s__law_right) (defBody s__law_right) (defScope s__law_right) .none kV__law_right dc__law_right pm__law_right an__law_right cd__law_right ct__law_right), sl__law_right⟩)
    (hc__law_right : PySem.W.codeIn K cd__law_right "_law_right" = true)
    (hk__law_right : PySem.W.keepIn K (.ref x__law_right) = true)
    (ha_law : PySem.W.nsIn K mainGlobals "law" = some (some (.ref x_law)))
    (hl_law : K.lookup x_law = some ⟨oc_law, od_law, .func (PySem.W.fnOf "law" "law" (defArgs s_law) (defBody s_law) (defScope s_law) .none kV_law dc_law pm_law an_law cd_law ct_law), sl_law⟩)
    (hc_law : PySem.W.codeIn K cd_law "law" = true)
    (hk_law : PySem.W.keepIn K (.ref x_law) = true)
    (hn_ValueError : PySem.W.nsIn K mainGlobals "ValueError" = some none)
    (hn_abs : PySem.W.nsIn K mainGlobals "abs" = some none)
    (hn_bool : PySem.W.nsIn K mainGlobals "bool" = some none)
    (hn_enumerate : PySem.W.nsIn K mainGlobals "enumerate" = some none)
    (hn_int : PySem.W.nsIn K mainGlobals "int" = some none)
    (hn_isinstance : PySem.W.nsIn K mainGlobals "isinstance" = some none)
    (hn_len : PySem.W.nsIn K mainGlobals "len" = some none)
    (hn_list : PySem.W.nsIn K mainGlobals "list" = some none)
    (hn_range : PySem.W.nsIn K mainGlobals "range" = some none)
    (hn_str : PySem.W.nsIn K mainGlobals "str" = some none)
    (hn_tuple : PySem.W.nsIn K mainGlobals "tuple" = some none)
    (ol_BadMove : K.lookup x_BadMove = some (excClassObj nm_BadMove q_BadMove x_BadMove N_BadMove bs_BadMove bm_BadMove true sn_BadMove sub_BadMove ab_BadMove col_BadMove dd_BadMove m0_BadMove m1_BadMove m2_BadMove m3_BadMove m5_BadMove "ValueError.__new__"))
    (or_BadMove : PySem.HandSPX.refsVE bm_BadMove = true)
    (hx_xsa_BadMove : PySem.W.findIn K (.ref x_BadMove) "__setattr__" = some (some (.builtin "object.__setattr__")))
    (hx_xga_BadMove : PySem.W.findIn K (.ref x_BadMove) "__getattribute__" = some (some (.builtin "BaseException.__getattribute__")))
    (hx_xgg_BadMove : PySem.W.findIn K (.ref x_BadMove) "__getattr__" = some none)
    (hx_xbe_BadMove : PySem.W.subIn K (.ref x_BadMove) (.type "BaseException") = some true)
    (hx_xty_BadMove : PySem.W.typeIn K (.ref x_BadMove) = some (.type "type"))
    (hx_xhd_BadMove : PySem.W.hasDictIn K x_BadMove = true)
    (hx_xca_BadMove : PySem.W.findIn K (.ref x_BadMove) "__class__" = some (some (.builtin "object.__class__")))
    (hx_xmo_BadMove : PySem.W.mroIn K x_BadMove (.type "object") = some true)
    (hx_xti_BadMove : PySem.W.typeIn K (.ref x_BadMove_init) = some (.type "function"))
    (hx_cn_ : PySem.W.specialIn K (.builtin "object.__class__") "__get__" = some (some (.builtin "getset_descriptor.__get__")))
    (hx_ct_ : PySem.W.takesIn K (.builtin "object.__class__") = some true)
    (hx_z_U : PySem.W.kitOne K (.ref x_BadMove) (.ref x_UnknownError) = some false)
    (hx_z_T : PySem.W.kitOne K (.ref x_BadMove) (.ref x_TextError) = some false)
    (hx_z_I : PySem.W.kitOne K (.ref x_BadMove) (.ref x_ImpossibleError) = some false)
    (hx_z_A : PySem.W.kitOne K (.ref x_BadMove) (.ref x_ArchiveError) = some true)
    (hx_z_V : PySem.W.kitOne K (.ref x_BadMove) (.type "ValueError") = some true)
    (hx_m_bb : PySem.W.exmOne K (.ref x_BadMove) (.ref x_BadMove) = some true)
    (hx_e_BadMove_at : PySem.W.findIn K (.ref x_BadMove) "at" = some none) :
    ∃ fd : FuncData, (∀ (s : Shared) (v : Value), BindsTo s fd ⟨[v], []⟩ [("_law_script", v)]) ∧ ∀ base : Heap, K.In base → base.Ns mainGlobals mg → FnOk l.prog w K mg base CX0 11 fa fd ["_law_script"] (spLaw K) := by
  have e := hfa.symm.trans (PySem.W.mg_of X G ha_law)
  cases e
  have F_BadMove_init := fun_mk (st := s_BadMove_init) hl_BadMove_init hc_BadMove_init hk_BadMove_init
  have b_BadMove_init := F_BadMove_init.binds (ps := ["self", "at"]) fun _ _ _ _ _ _ us hl => match us, hl with | [_, _], _ => rfl
  have F__play := fun_mk (st := s__play) hl__play hc__play hk__play
  have b__play := F__play.binds (ps := ["moves"]) fun _ _ _ _ _ _ us hl => match us, hl with | [_], _ => rfl
  have F_play := fun_mk (st := s_play) hl_play hc_play hk_play
  have b_play := F_play.binds (ps := ["moves"]) fun _ _ _ _ _ _ us hl => match us, hl with | [_], _ => rfl
  have F_rests := fun_mk (st := s_rests) hl_rests hc_rests hk_rests
  have b_rests := F_rests.binds (ps := ["moves"]) fun _ _ _ _ _ _ us hl => match us, hl with | [_], _ => rfl
  have F__law_bag := fun_mk (st := s__law_bag) hl__law_bag hc__law_bag hk__law_bag
  have b__law_bag := F__law_bag.binds (ps := ["_law_script"]) fun _ _ _ _ _ _ us hl => match us, hl with | [_], _ => rfl
  have F__law_take := fun_mk (st := s__law_take) hl__law_take hc__law_take hk__law_take
  have b__law_take := F__law_take.binds (ps := ["_law_bag_here", "_law_many"]) fun _ _ _ _ _ _ us hl => match us, hl with | [_, _], _ => rfl
  have F__law_rolls := fun_mk (st := s__law_rolls) hl__law_rolls hc__law_rolls hk__law_rolls
  have b__law_rolls := F__law_rolls.binds (ps := ["_law_bag_here", "_law_many"]) fun _ _ _ _ _ _ us hl => match us, hl with | [_, _], _ => rfl
  have F__law_moves := fun_mk (st := s__law_moves) hl__law_moves hc__law_moves hk__law_moves
  have b__law_moves := F__law_moves.binds (ps := ["_law_bag_here", "_law_rolls_here"]) fun _ _ _ _ _ _ us hl => match us, hl with | [_, _], _ => rfl
  have F__law_wild := fun_mk (st := s__law_wild) hl__law_wild hc__law_wild hk__law_wild
  have b__law_wild := F__law_wild.binds (ps := ["_law_bag_here", "_law_rolls_here", "_law_moves_here"]) fun _ _ _ _ _ _ us hl => match us, hl with | [_, _, _], _ => rfl
  have F__law_spoilt := fun_mk (st := s__law_spoilt) hl__law_spoilt hc__law_spoilt hk__law_spoilt
  have b__law_spoilt := F__law_spoilt.binds (ps := ["_law_bag_here", "_law_rolls_here", "_law_moves_here"]) fun _ _ _ _ _ _ us hl => match us, hl with | [_, _, _], _ => rfl
  have F__law_due := fun_mk (st := s__law_due) hl__law_due hc__law_due hk__law_due
  have b__law_due := F__law_due.binds (ps := ["_law_moves_here"]) fun _ _ _ _ _ _ us hl => match us, hl with | [_], _ => rfl
  have F__law_plain := fun_mk (st := s__law_plain) hl__law_plain hc__law_plain hk__law_plain
  have b__law_plain := F__law_plain.binds (ps := ["_law_e"]) fun _ _ _ _ _ _ us hl => match us, hl with | [_], _ => rfl
  have F__law_played := fun_mk (st := s__law_played) hl__law_played hc__law_played hk__law_played
  have b__law_played := F__law_played.binds (ps := ["_law_moves_here", "_law_at", "_law_due_here"]) fun _ _ _ _ _ _ us hl => match us, hl with | [_, _, _], _ => rfl
  have F__law_rested := fun_mk (st := s__law_rested) hl__law_rested hc__law_rested hk__law_rested
  have b__law_rested := F__law_rested.binds (ps := ["_law_moves_here", "_law_at", "_law_due_here"]) fun _ _ _ _ _ _ us hl => match us, hl with | [_, _, _], _ => rfl
  have F__law_right := fun_mk (st := s__law_right) hl__law_right hc__law_right hk__law_right
  have b__law_right := F__law_right.binds (ps := ["_law_moves_here"]) fun _ _ _ _ _ _ us hl => match us, hl with | [_], _ => rfl
  have F_law := fun_mk (st := s_law) hl_law hc_law hk_law
  have b_law := F_law.binds (ps := ["_law_script"]) fun _ _ _ _ _ _ us hl => match us, hl with | [_], _ => rfl
  let D : Ad := {
    a_BadMove_init := x_BadMove_init, d_BadMove_init := PySem.W.fnOf "__init__" "BadMove.__init__" (defArgs s_BadMove_init) (defBody s_BadMove_init) (defScope s_BadMove_init) .none kV_BadMove_init dc_BadMove_init pm_BadMove_init an_BadMove_init cd_BadMove_init ct_BadMove_init,
    a__play := x__play, d__play := PySem.W.fnOf "_play" "_play" (defArgs s__play) (defBody s__play) (defScope s__play) .none kV__play dc__play pm__play an__play cd__play ct__play,
    a_play := x_play, d_play := PySem.W.fnOf "play" "play" (defArgs s_play) (defBody s_play) (defScope s_play) .none kV_play dc_play pm_play an_play cd_play ct_play,
    a_rests := x_rests, d_rests := PySem.W.fnOf "rests" "rests" (defArgs s_rests) (defBody s_rests) (defScope s_rests) .none kV_rests dc_rests pm_rests an_rests cd_rests ct_rests,
    a__law_bag := x__law_bag, d__law_bag := PySem.W.fnOf "_law_bag" "_law_bag" (defArgs s__law_bag) (defBody s__law_bag) (defScope s__law_bag) .none kV__law_bag dc__law_bag pm__law_bag an__law_bag cd__law_bag ct__law_bag,
    a__law_take := x__law_take, d__law_take := PySem.W.fnOf "_law_take" "_law_take" (defArgs s__law_take) (defBody s__law_take) (defScope s__law_take) .none kV__law_take dc__law_take pm__law_take an__law_take cd__law_take ct__law_take,
    a__law_rolls := x__law_rolls, d__law_rolls := PySem.W.fnOf "_law_rolls" "_law_rolls" (defArgs s__law_rolls) (defBody s__law_rolls) (defScope s__law_rolls) .none kV__law_rolls dc__law_rolls pm__law_rolls an__law_rolls cd__law_rolls ct__law_rolls,
    a__law_moves := x__law_moves, d__law_moves := PySem.W.fnOf "_law_moves" "_law_moves" (defArgs s__law_moves) (defBody s__law_moves) (defScope s__law_moves) .none kV__law_moves dc__law_moves pm__law_moves an__law_moves cd__law_moves ct__law_moves,
    a__law_wild := x__law_wild, d__law_wild := PySem.W.fnOf "_law_wild" "_law_wild" (defArgs s__law_wild) (defBody s__law_wild) (defScope s__law_wild) .none kV__law_wild dc__law_wild pm__law_wild an__law_wild cd__law_wild ct__law_wild,
    a__law_spoilt := x__law_spoilt, d__law_spoilt := PySem.W.fnOf "_law_spoilt" "_law_spoilt" (defArgs s__law_spoilt) (defBody s__law_spoilt) (defScope s__law_spoilt) .none kV__law_spoilt dc__law_spoilt pm__law_spoilt an__law_spoilt cd__law_spoilt ct__law_spoilt,
    a__law_due := x__law_due, d__law_due := PySem.W.fnOf "_law_due" "_law_due" (defArgs s__law_due) (defBody s__law_due) (defScope s__law_due) .none kV__law_due dc__law_due pm__law_due an__law_due cd__law_due ct__law_due,
    a__law_plain := x__law_plain, d__law_plain := PySem.W.fnOf "_law_plain" "_law_plain" (defArgs s__law_plain) (defBody s__law_plain) (defScope s__law_plain) .none kV__law_plain dc__law_plain pm__law_plain an__law_plain cd__law_plain ct__law_plain,
    a__law_played := x__law_played, d__law_played := PySem.W.fnOf "_law_played" "_law_played" (defArgs s__law_played) (defBody s__law_played) (defScope s__law_played) .none kV__law_played dc__law_played pm__law_played an__law_played cd__law_played ct__law_played,
    a__law_rested := x__law_rested, d__law_rested := PySem.W.fnOf "_law_rested" "_law_rested" (defArgs s__law_rested) (defBody s__law_rested) (defScope s__law_rested) .none kV__law_rested dc__law_rested pm__law_rested an__law_rested cd__law_rested ct__law_rested,
    a__law_right := x__law_right, d__law_right := PySem.W.fnOf "_law_right" "_law_right" (defArgs s__law_right) (defBody s__law_right) (defScope s__law_right) .none kV__law_right dc__law_right pm__law_right an__law_right cd__law_right ct__law_right,
    a_law := fa, d_law := PySem.W.fnOf "law" "law" (defArgs s_law) (defBody s_law) (defScope s_law) .none kV_law dc_law pm_law an_law cd_law ct_law,
    c_ArchiveError := x_ArchiveError,
    c_UnknownError := x_UnknownError,
    c_TextError := x_TextError,
    c_ImpossibleError := x_ImpossibleError,
    c_BadMove := x_BadMove }
  have T : Txt K mg D := { F_BadMove_init := F_BadMove_init, b_BadMove_init := b_BadMove_init, m_BadMove_init := ha_BadMove_init, i_BadMove_init := hi_BadMove_init, F__play := F__play, b__play := b__play, g__play := PySem.W.mg_of X G ha__play, F_play := F_play, b_play := b_play, g_play := PySem.W.mg_of X G ha_play, F_rests := F_rests, b_rests := b_rests, g_rests := PySem.W.mg_of X G ha_rests, F__law_bag := F__law_bag, b__law_bag := b__law_bag, g__law_bag := PySem.W.mg_of X G ha__law_bag, F__law_take := F__law_take, b__law_take := b__law_take, g__law_take := PySem.W.mg_of X G ha__law_take, F__law_rolls := F__law_rolls, b__law_rolls := b__law_rolls, g__law_rolls := PySem.W.mg_of X G ha__law_rolls, F__law_moves := F__law_moves, b__law_moves := b__law_moves, g__law_moves := PySem.W.mg_of X G ha__law_moves, F__law_wild := F__law_wild, b__law_wild := b__law_wild, g__law_wild := PySem.W.mg_of X G ha__law_wild, F__law_spoilt := F__law_spoilt, b__law_spoilt := b__law_spoilt, g__law_spoilt := PySem.W.mg_of X G ha__law_spoilt, F__law_due := F__law_due, b__law_due := b__law_due, g__law_due := PySem.W.mg_of X G ha__law_due, F__law_plain := F__law_plain, b__law_plain := b__law_plain, g__law_plain := PySem.W.mg_of X G ha__law_plain, F__law_played := F__law_played, b__law_played := b__law_played, g__law_played := PySem.W.mg_of X G ha__law_played, F__law_rested := F__law_rested, b__law_rested := b__law_rested, g__law_rested := PySem.W.mg_of X G ha__law_rested, F__law_right := F__law_right, b__law_right := b__law_right, g__law_right := PySem.W.mg_of X G ha__law_right, F_law := F_law, b_law := b_law, g_law := PySem.W.mg_of X G ha_law, g_ArchiveError := PySem.W.mg_of X G hC_ArchiveError, k_ArchiveError := hK_ArchiveError, g_UnknownError := PySem.W.mg_of X G hC_UnknownError, k_UnknownError := hK_UnknownError, g_TextError := PySem.W.mg_of X G hC_TextError, k_TextError := hK_TextError, g_ImpossibleError := PySem.W.mg_of X G hC_ImpossibleError, k_ImpossibleError := hK_ImpossibleError, g_BadMove := PySem.W.mg_of X G hC_BadMove, k_BadMove := hK_BadMove, n_ValueError := PySem.W.mg_none_of X G hn_ValueError, n_abs := PySem.W.mg_none_of X G hn_abs, n_bool := PySem.W.mg_none_of X G hn_bool, n_enumerate := PySem.W.mg_none_of X G hn_enumerate, n_int := PySem.W.mg_none_of X G hn_int, n_isinstance := PySem.W.mg_none_of X G hn_isinstance, n_len := PySem.W.mg_none_of X G hn_len, n_list := PySem.W.mg_none_of X G hn_list, n_range := PySem.W.mg_none_of X G hn_range, n_str := PySem.W.mg_none_of X G hn_str, n_tuple := PySem.W.mg_none_of X G hn_tuple, oxl_BadMove := ⟨_, _, _, _, _, _, _, _, _, _, _, _, _, _, _, ol_BadMove, or_BadMove⟩, xsa_BadMove := hx_xsa_BadMove, xga_BadMove := hx_xga_BadMove, xgg_BadMove := hx_xgg_BadMove, xbe_BadMove := hx_xbe_BadMove, xty_BadMove := hx_xty_BadMove, xhd_BadMove := hx_xhd_BadMove, xca_BadMove := hx_xca_BadMove, xmo_BadMove := hx_xmo_BadMove, xti_BadMove := hx_xti_BadMove, cn_ := hx_cn_, ct_ := hx_ct_, z_U := hx_z_U, z_T := hx_z_T, z_I := hx_z_I, z_A := hx_z_A, z_V := hx_z_V, m_bb := hx_m_bb, e_BadMove_at := hx_e_BadMove_at }
  exact ⟨D.d_law, fun s v => .of_eq rfl, fun base _ _ => ok_law (D := D) T⟩
end
theorem walk {l : PySem.W.OpenLaw} {q : Program} {loose : List Str} {XP : (Str → Option Value) → Heap → Prop} {YP : World → Heap → Prop} {d : DefRec} {K : Params → PySem.W.Frag} (hn : l.most = some 63) (hdf : d.params.defaults = [])
    (hY : ∀ (w : World) (h : Heap), YP w h → (K w.params).In h)
    (F : ∀ (w : World) (mg : Str → Option Value) (fa : Addr) (h : Heap), (K w.params).In h → h.Ns mainGlobals mg → mg d.name = some (.ref fa) →
      ∃ fd : FuncData, (∀ (s : Shared) (u : Value), BindsTo s fd ⟨[u], []⟩ [("_law_script", u)]) ∧ ∀ base : Heap, (K w.params).In base → base.Ns mainGlobals mg → FnOk l.prog w (K w.params) mg base CX0 11 fa fd ["_law_script"] (spLaw (K w.params))) :
    PySem.W.WalkO q loose XP YP l.row.toRowW d [] (fun f vs => PySem.call f vs) :=
  L2.walk_of (n := 63) (k := 11) (x := "_law_script") (CX := fun _ => CX0) (sp := fun w => spLaw (K w.params)) hn (by decide) hdf ⟨rfl, by decide, by decide⟩ hY F (fun _ _ a ns hl _ hS => ⟨a, ns, rfl, hS, hl, fun _ => rfl⟩) fun _ _ _ _ _ z => z
end Toy

open PySem PySem.W PyProof.Rows in
set_option maxRecDepth 100000 in
set_option maxHeartbeats 0 in
theorem PySem.Challenge.cw_fittingpasts_k14_stack_play_holds : PySem.Challenge.rw_fittingpasts_k14_stack_play.Holds := by
  w_on; o_law; k_head; (case hw => w_witness2)
  k_fill
  refine Toy.walk (l := PySem.Challenge.rw_fittingpasts_k14_stack_play) rfl rfl (fun w h Y => PySem.W.kIn_of Y) ?F
  case F =>
    intro w mg fa h KX G hmg
    refine' Toy.all_mk KX G hmg ?hC_ArchiveError ?hK_ArchiveError ?hC_UnknownError ?hK_UnknownError ?hC_TextError ?hK_TextError ?hC_ImpossibleError ?hK_ImpossibleError ?hC_BadMove ?hK_BadMove ?ha_BadMove_init ?hi_BadMove_init ?hl_BadMove_init ?hc_BadMove_init ?hk_BadMove_init ?ha__play ?hl__play ?hc__play ?hk__play ?ha_play ?hl_play ?hc_play ?hk_play ?ha_rests ?hl_rests ?hc_rests ?hk_rests ?ha__law_bag ?hl__law_bag ?hc__law_bag ?hk__law_bag ?ha__law_take ?hl__law_take ?hc__law_take ?hk__law_take ?ha__law_rolls ?hl__law_rolls ?hc__law_rolls ?hk__law_rolls ?ha__law_moves ?hl__law_moves ?hc__law_moves ?hk__law_moves ?ha__law_wild ?hl__law_wild ?hc__law_wild ?hk__law_wild ?ha__law_spoilt ?hl__law_spoilt ?hc__law_spoilt ?hk__law_spoilt ?ha__law_due ?hl__law_due ?hc__law_due ?hk__law_due ?ha__law_plain ?hl__law_plain ?hc__law_plain ?hk__law_plain ?ha__law_played ?hl__law_played ?hc__law_played ?hk__law_played ?ha__law_rested ?hl__law_rested ?hc__law_rested ?hk__law_rested ?ha__law_right ?hl__law_right ?hc__law_right ?hk__law_right ?ha_law ?hl_law ?hc_law ?hk_law ?hn_ValueError ?hn_abs ?hn_bool ?hn_enumerate ?hn_int ?hn_isinstance ?hn_len ?hn_list ?hn_range ?hn_str ?hn_tuple ?ol_BadMove ?or_BadMove ?hx_xsa_BadMove ?hx_xga_BadMove ?hx_xgg_BadMove ?hx_xbe_BadMove ?hx_xty_BadMove ?hx_xhd_BadMove ?hx_xca_BadMove ?hx_xmo_BadMove ?hx_xti_BadMove ?hx_cn_ ?hx_ct_ ?hx_z_U ?hx_z_T ?hx_z_I ?hx_z_A ?hx_z_V ?hx_m_bb ?hx_e_BadMove_at
    (case hC_ArchiveError => first | k_is | rfl | k_exc)
    (case hK_ArchiveError => first | k_is | rfl | k_exc)
    (case hC_UnknownError => first | k_is | rfl | k_exc)
    (case hK_UnknownError => first | k_is | rfl | k_exc)
    (case hC_TextError => first | k_is | rfl | k_exc)
    (case hK_TextError => first | k_is | rfl | k_exc)
    (case hC_ImpossibleError => first | k_is | rfl | k_exc)
    (case hK_ImpossibleError => first | k_is | rfl | k_exc)
    (case hC_BadMove => first | k_is | rfl | k_exc)
    (case hK_BadMove => first | k_is | rfl | k_exc)
    (case ha_BadMove_init => first | k_is | rfl | k_exc)
    (case hi_BadMove_init => first | k_is | rfl | k_exc)
    (case hl_BadMove_init => first | k_is | rfl | k_exc)
    (case hc_BadMove_init => first | k_is | rfl | k_exc)
    (case hk_BadMove_init => first | k_is | rfl | k_exc)
    (case ha__play => first | k_is | rfl | k_exc)
    (case hl__play => first | k_is | rfl | k_exc)
    (case hc__play => first | k_is | rfl | k_exc)
    (case hk__play => first | k_is | rfl | k_exc)
    (case ha_play => first | k_is | rfl | k_exc)
    (case hl_play => first | k_is | rfl | k_exc)
    (case hc_play => first | k_is | rfl | k_exc)
    (case hk_play => first | k_is | rfl | k_exc)
    (case ha_rests => first | k_is | rfl | k_exc)
    (case hl_rests => first | k_is | rfl | k_exc)
    (case hc_rests => first | k_is | rfl | k_exc)
    (case hk_rests => first | k_is | rfl | k_exc)
    (case ha__law_bag => first | k_is | rfl | k_exc)
    (case hl__law_bag => first | k_is | rfl | k_exc)
    (case hc__law_bag => first | k_is | rfl | k_exc)
    (case hk__law_bag => first | k_is | rfl | k_exc)
    (case ha__law_take => first | k_is | rfl | k_exc)
    (case hl__law_take => first | k_is | rfl | k_exc)
    (case hc__law_take => first | k_is | rfl | k_exc)
    (case hk__law_take => first | k_is | rfl | k_exc)
    (case ha__law_rolls => first | k_is | rfl | k_exc)
    (case hl__law_rolls => first | k_is | rfl | k_exc)
    (case hc__law_rolls => first | k_is | rfl | k_exc)
    (case hk__law_rolls => first | k_is | rfl | k_exc)
    (case ha__law_moves => first | k_is | rfl | k_exc)
    (case hl__law_moves => first | k_is | rfl | k_exc)
    (case hc__law_moves => first | k_is | rfl | k_exc)
    (case hk__law_moves => first | k_is | rfl | k_exc)
    (case ha__law_wild => first | k_is | rfl | k_exc)
    (case hl__law_wild => first | k_is | rfl | k_exc)
    (case hc__law_wild => first | k_is | rfl | k_exc)
    (case hk__law_wild => first | k_is | rfl | k_exc)
    (case ha__law_spoilt => first | k_is | rfl | k_exc)
    (case hl__law_spoilt => first | k_is | rfl | k_exc)
    (case hc__law_spoilt => first | k_is | rfl | k_exc)
    (case hk__law_spoilt => first | k_is | rfl | k_exc)
    (case ha__law_due => first | k_is | rfl | k_exc)
    (case hl__law_due => first | k_is | rfl | k_exc)
    (case hc__law_due => first | k_is | rfl | k_exc)
    (case hk__law_due => first | k_is | rfl | k_exc)
    (case ha__law_plain => first | k_is | rfl | k_exc)
    (case hl__law_plain => first | k_is | rfl | k_exc)
    (case hc__law_plain => first | k_is | rfl | k_exc)
    (case hk__law_plain => first | k_is | rfl | k_exc)
    (case ha__law_played => first | k_is | rfl | k_exc)
    (case hl__law_played => first | k_is | rfl | k_exc)
    (case hc__law_played => first | k_is | rfl | k_exc)
    (case hk__law_played => first | k_is | rfl | k_exc)
    (case ha__law_rested => first | k_is | rfl | k_exc)
    (case hl__law_rested => first | k_is | rfl | k_exc)
    (case hc__law_rested => first | k_is | rfl | k_exc)
    (case hk__law_rested => first | k_is | rfl | k_exc)
    (case ha__law_right => first | k_is | rfl | k_exc)
    (case hl__law_right => first | k_is | rfl | k_exc)
    (case hc__law_right => first | k_is | rfl | k_exc)
    (case hk__law_right => first | k_is | rfl | k_exc)
    (case ha_law => first | k_is | rfl | k_exc)
    (case hl_law => first | k_is | rfl | k_exc)
    (case hc_law => first | k_is | rfl | k_exc)
    (case hk_law => first | k_is | rfl | k_exc)
    (case hn_ValueError => first | k_is | rfl | k_exc)
    (case hn_abs => first | k_is | rfl | k_exc)
    (case hn_bool => first | k_is | rfl | k_exc)
    (case hn_enumerate => first | k_is | rfl | k_exc)
    (case hn_int => first | k_is | rfl | k_exc)
    (case hn_isinstance => first | k_is | rfl | k_exc)
    (case hn_len => first | k_is | rfl | k_exc)
    (case hn_list => first | k_is | rfl | k_exc)
    (case hn_range => first | k_is | rfl | k_exc)
    (case hn_str => first | k_is | rfl | k_exc)
    (case hn_tuple => first | k_is | rfl | k_exc)
    (case ol_BadMove => first | k_is | rfl | k_exc)
    (case or_BadMove => decide +kernel)
    (case hx_xsa_BadMove => first | k_is | rfl | k_exc)
    (case hx_xga_BadMove => first | k_is | rfl | k_exc)
    (case hx_xgg_BadMove => first | k_is | rfl | k_exc)
    (case hx_xbe_BadMove => first | k_is | rfl | k_exc)
    (case hx_xty_BadMove => first | k_is | rfl | k_exc)
    (case hx_xhd_BadMove => first | k_is | rfl | k_exc)
    (case hx_xca_BadMove => first | k_is | rfl | k_exc)
    (case hx_xmo_BadMove => first | k_is | rfl | k_exc)
    (case hx_xti_BadMove => first | k_is | rfl | k_exc)
    (case hx_cn_ => first | k_is | rfl | k_exc)
    (case hx_ct_ => first | k_is | rfl | k_exc)
    (case hx_z_U => first | k_is | rfl | k_exc)
    (case hx_z_T => first | k_is | rfl | k_exc)
    (case hx_z_I => first | k_is | rfl | k_exc)
    (case hx_z_A => first | k_is | rfl | k_exc)
    (case hx_z_V => first | k_is | rfl | k_exc)
    (case hx_m_bb => first | k_is | rfl | k_exc)
    (case hx_e_BadMove_at => first | k_is | rfl | k_exc)
