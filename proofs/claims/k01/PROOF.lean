import PyProof.Rows.All
import Wide.All
import OpenK.AllK
import Wide.FinOn
import HandS.ForExc
import HandS.Comp
import HandS.Wide
import HandS.IsInst
import HandS.Property
import HandS.FStr
import HandS.MakeKw
import HandS.MakeKwOnly
import HandS.ExcInit
import HandS.ExcField
import HandS.ExcIs
import HandS.HotCalls
import HandS.OwnEq
import HandS.Evl
import KE.KCallOwn
import HandS.Gcd
import HandS.Walk
import KE.GoesMore
import KE.GoesEnum
import KE.GoesNew
import HandS.ExcOwn
import HandS.Dict
import HandS.Text
import HandS.List
import HandS.Conv
import PyProof.StrOps2
import HandS.Star
import PySem.Challenge.RW_fittingpasts_k01_residue_meet
set_option Elab.async false
set_option linter.all false
set_option maxRecDepth 100000
set_option maxHeartbeats 4000000
/-! own rules: operators that a class of the program defines -/
namespace XR
open PySem PySem.Spec PyProof.Rows L2
section
variable {X : Cx} {CX : CXT} {k : Nat} {C f : Addr} {fd : FuncData} {ps : List Str} {sp : Sp} {E : XK}
/-- the callee runs, somewhere below the body -/
theorem run_at {A : Around} {pins : List (Addr × Obj)} {σ : L2.St} {H : Hp} {s : Shared} {Q : VK} {us : List Value} {vs : List V} (F : FnOk X.prog X.w X.K X.mg X.base CX k f fd ps sp) (hr : Room k A) (hA : A.frames = X.A.frames) (hb : Binds X.K fd ps []) (hx : PassesAt CX X σ E)
    (I : Inv X pins σ H s) (r : Vals vs us) (h : sp vs H Q E) : wpAny (model X.prog X.w) A (call (.ref f) us) (EP X pins σ Q) X.xe s := by
  have hl : us.length = ps.length := by rw [← r.length]; exact F.len _ _ _ _ h
  have e0 : Env0 X.prog X.w X.K X.mg X.base A X.stack s H := by
    have e := I.env0
    exact ⟨by rw [hA]; exact e.frames, e.mod, e.bs, e.bsz, e.funs, e.frf, e.hok, e.bare⟩
  have b := hb s us I.kIn (by rw [List.append_nil]; exact hl)
  rw [List.append_nil] at b
  refine wpAny_call (codeAny_mono (F.run A X.stack s H ⟨us, []⟩ us vs Q E hr e0 b r h) fun r s' hq => ?_)
  cases r with
  | error e => exact hx pins H s e s' I hq
  | ok fl =>
    cases fl with
    | ret u => exact I.after hq
    | next => exact False.elim hq
    | brk => exact False.elim hq
    | cont => exact False.elim hq
/-- an instance of the class at C -/
theorem inst_at {pins : List (Addr × Obj)} {σ : L2.St} {H : Hp} {s : Shared} {a dx : Addr} {fs : List (Str × V)} (I : Inv X pins σ H s) (ha : H a = some (.ins C dx fs)) : ∃ od, PySem.W.InstAt s.heap a (PySem.W.instObj C dx) C (some od) := by
  obtain ⟨mA, J, _⟩ := ins_get I.hok ha
  obtain ⟨od, J, _⟩ := J.look
  exact ⟨od, J⟩
theorem back_of {pins : List (Addr × Obj)} {σ : L2.St} {Q : VK} {v : Value} {s' : Shared} (h : EP X pins σ Q v s') : PySem.W.CmpBack (EP X pins σ Q) v s' := by
  obtain ⟨x, H', I', r, q⟩ := h
  have keep : EP X pins σ Q v s' := ⟨x, H', I', r, q⟩
  cases x with
  | non =>
    obtain rfl : v = Value.none := r
    exact keep
  | bl _ =>
    obtain rfl : v = Value.bool _ := r
    exact keep
  | int _ =>
    obtain ⟨t, rfl⟩ := r
    exact keep
  | str _ =>
    obtain ⟨t, rfl⟩ := r
    exact keep
  | byt _ =>
    obtain ⟨t, rfl⟩ := r
    exact keep
  | flt _ =>
    obtain ⟨t, rfl⟩ := r
    exact keep
  | ref _ =>
    obtain rfl : v = Value.ref _ := r
    exact keep
  | ty _ =>
    obtain rfl : v = Value.type _ := r
    exact keep

/-! ### a op b -/
structure OwnB (K : PySem.W.Frag) (C f : Addr) (op : Operator) : Prop where
  sf : PySem.W.selfFirst K C = true
  hs : PySem.W.findIn K (.ref C) (PySem.dunder op.info.2) = some (some (.ref f))
  hf : PySem.W.isFn K (.ref f) = true
  hr : PySem.W.findIn K (.ref C) (PySem.dunderR op.info.2) = some none
/-- .. an int on the right -/
structure OwnBI (K : PySem.W.Frag) (C : Addr) (op : Operator) : Prop where
  h1 : ∃ fo, PySem.W.findIn K (.type "int") (PySem.dunder op.info.2) = some fo
  h2 : ∃ ro, PySem.W.findIn K (.type "int") (PySem.dunderR op.info.2) = some ro
  sub : PySem.W.subIn K (.type "int") (.ref C) = some false
/-- by the left one's own method: an int or an instance of the same class on the right -/
def rOwnI (C : Addr) (sp : Sp) (E : XK) : R2 := fun x y H Q => ∃ a dx fs i, x = .ref a ∧ y = .int i ∧ H a = some (.ins C dx fs) ∧ sp [.ref a, .int i] H Q E
def rOwnC (C : Addr) (sp : Sp) (E : XK) : R2 := fun x y H Q => ∃ a b dx dy fs gs, x = .ref a ∧ y = .ref b ∧ H a = some (.ins C dx fs) ∧ H b = some (.ins C dy gs) ∧ sp [.ref a, .ref b] H Q E
theorem ownI {op : Operator} {pins : List (Addr × Obj)} {s : Shared} {σ : L2.St} {H : Hp} {x y : V} {v u : Value} {Q : VK} (O : OwnB X.K C f op) (OI : OwnBI X.K C op) (F : FnOk X.prog X.w X.K X.mg X.base CX k f fd ps sp) (hr : Room k X.A) (hb : Binds X.K fd ps []) (hx : PassesAt CX X σ E)
    (I : Inv X pins σ H s) (rx : RelV x v) (ry : RelV y u) (hq : rOwnI C sp E x y H Q) : wpAny (model X.prog X.w) X.A (binaryOp op v u) (EP X pins σ Q) X.xe s := by
  obtain ⟨a, dx, fs, i, rfl, rfl, ha, q⟩ := hq
  cases rx
  obtain ⟨t, rfl⟩ := ry
  obtain ⟨od, J⟩ := inst_at I ha
  obtain ⟨m, hF⟩ := I.fr
  obtain ⟨fo, h1⟩ := OI.h1
  obtain ⟨ro, h2⟩ := OI.h2
  exact PySem.W.ksp_binT (T := "int") hF I.ok.mod.kin J rfl O.sf O.hs O.hf O.hr (.inl rfl) h1 h2 OI.sub
    (thn (run_at (vs := [.ref a, .int i]) F hr rfl hb hx I (.cons rfl (.cons ⟨t, rfl⟩ .nil)) q) fun _ _ z => back_of z)
theorem ownC {op : Operator} {pins : List (Addr × Obj)} {s : Shared} {σ : L2.St} {H : Hp} {x y : V} {v u : Value} {Q : VK} (O : OwnB X.K C f op) (F : FnOk X.prog X.w X.K X.mg X.base CX k f fd ps sp) (hr : Room k X.A) (hb : Binds X.K fd ps []) (hx : PassesAt CX X σ E)
    (I : Inv X pins σ H s) (rx : RelV x v) (ry : RelV y u) (hq : rOwnC C sp E x y H Q) : wpAny (model X.prog X.w) X.A (binaryOp op v u) (EP X pins σ Q) X.xe s := by
  obtain ⟨a, b, dx, dy, fs, gs, rfl, rfl, ha, hb', q⟩ := hq
  cases rx
  cases ry
  obtain ⟨od, J⟩ := inst_at I ha
  obtain ⟨od', J'⟩ := inst_at I hb'
  obtain ⟨m, hF⟩ := I.fr
  exact PySem.W.binop_K hF I.ok.mod.kin J J'.type O.sf O.hs O.hf
    (thn (run_at (vs := [.ref a, .ref b]) F hr rfl hb hx I (.cons rfl (.cons rfl .nil)) q) fun _ _ z => back_of z)
theorem at_of_passes {σ : L2.St} (hx : Passes CX X E) : PassesAt CX X σ E := fun pins H s e s' I c => hx pins σ H s e s' I c
theorem op_ownI {op : Operator} (O : OwnB X.K C f op) (OI : OwnBI X.K C op) (F : FnOk X.prog X.w X.K X.mg X.base CX k f fd ps sp) (hr : Room k X.A) (hb : Binds X.K fd ps []) (hx : Passes CX X E) : OpR X (binaryOp op) (rOwnI C sp E) :=
  fun pins s σ H x y v u Q I rx ry hq => ownI O OI F hr hb (at_of_passes hx) I rx ry hq
theorem op_ownC {op : Operator} (O : OwnB X.K C f op) (F : FnOk X.prog X.w X.K X.mg X.base CX k f fd ps sp) (hr : Room k X.A) (hb : Binds X.K fd ps []) (hx : Passes CX X E) : OpR X (binaryOp op) (rOwnC C sp E) :=
  fun pins s σ H x y v u Q I rx ry hq => ownC O F hr hb (at_of_passes hx) I rx ry hq
/-- .. in a try's body -/
def tOpS (r : L2.St → R2) (ta tb : TE) : TE := fun σ H Q => ta σ H fun x H1 => tb σ H1 fun y H2 => r σ x y H2 Q
theorem pe_opCS {op : Operator} {a b : Expr} {pos : Pos} {ta tb : TE} {ES : L2.St → XK} (O : OwnB X.K C f op) (F : FnOk X.prog X.w X.K X.mg X.base CX k f fd ps sp) (hr : Room k X.A) (hb : Binds X.K fd ps []) (hx : ∀ σ, PassesAt CX X σ (ES σ)) (ha : PE X a ta) (hb2 : PE X b tb) :
    PE X (.BinOp a op b pos) (tOpS (fun σ => rOwnC C sp (ES σ)) ta tb) := by
  refine ⟨fun pins s σ H Q I h => ?_⟩
  exact (wpAny_BinOp (binT ha hb2 I (R := fun x y H2 => rOwnC C sp (ES σ) x y H2 Q) (by exact h) fun v u s1 x y H1 I1 r1 r2 q => ownC O F hr hb (hx σ) I1 r1 r2 q))
/-! ### x in o, x not in o -/
structure OwnM (K : PySem.W.Frag) (C f : Addr) (name : Str) : Prop where
  hs : PySem.W.findIn K (.ref C) name = some (some (.ref f))
  hf : PySem.W.isFn K (.ref f) = true
def rInOwn (C : Addr) (sp : Sp) (E : XK) (neg : Bool) : R2 := fun x y H Q => ∃ a dx fs, y = .ref a ∧ H a = some (.ins C dx fs) ∧ sp [.ref a, x] H (fun v H' => ∃ b, v = .bl b ∧ Q (.bl (if neg then !b else b)) H') E
theorem op_in_own (O : OwnM X.K C f "__contains__") (F : FnOk X.prog X.w X.K X.mg X.base CX k f fd ps sp) (hr : Room k X.A) (hb : Binds X.K fd ps []) (hx : Passes CX X E) : OpR X (compareOp .In) (rInOwn C sp E false) := by
  intro pins s σ H x y v u Q I rx ry hq
  obtain ⟨a, dx, fs, rfl, ha, q⟩ := hq
  cases ry
  obtain ⟨od, J⟩ := inst_at I ha
  obtain ⟨m, hF⟩ := I.fr
  refine PySem.W.in_K hF I.ok.mod.kin J O.hs O.hf (thn (run_at (vs := [.ref a, x]) F hr rfl hb (at_of_passes hx) I (.cons rfl (.cons rx .nil)) q) fun r s' z => ?_)
  obtain ⟨w', H', I', rw', b, rfl, q2⟩ := z
  cases rw'
  exact wpAny_truthy_bool ⟨.bl b, H', I', rfl, q2⟩
theorem op_notIn_own (O : OwnM X.K C f "__contains__") (F : FnOk X.prog X.w X.K X.mg X.base CX k f fd ps sp) (hr : Room k X.A) (hb : Binds X.K fd ps []) (hx : Passes CX X E) : OpR X (compareOp .NotIn) (rInOwn C sp E true) := by
  intro pins s σ H x y v u Q I rx ry hq
  obtain ⟨a, dx, fs, rfl, ha, q⟩ := hq
  cases ry
  obtain ⟨od, J⟩ := inst_at I ha
  obtain ⟨m, hF⟩ := I.fr
  refine PySem.W.notIn_K hF I.ok.mod.kin J O.hs O.hf (thn (run_at (vs := [.ref a, x]) F hr rfl hb (at_of_passes hx) I (.cons rfl (.cons rx .nil)) q) fun r s' z => ?_)
  obtain ⟨w', H', I', rw', b, rfl, q2⟩ := z
  cases rw'
  exact wpAny_truthy_bool ⟨.bl (!b), H', I', rfl, q2⟩
/-! ### a == b, a != b by the class's __eq__ (no __ne__ of its own) -/
structure OwnE (K : PySem.W.Frag) (C f : Addr) : Prop where
  hs : PySem.W.findIn K (.ref C) "__eq__" = some (some (.ref f))
  hf : PySem.W.isFn K (.ref f) = true
  hn : PySem.W.findIn K (.ref C) "__ne__" = some (some (.builtin "object.__ne__"))
  ob : PySem.W.mroIn K C (.type "object") = some true
def rEqOwn (C : Addr) (sp : Sp) (E : XK) (neg : Bool) : R2 := fun x y H Q => ∃ a b dx dy fs gs, x = .ref a ∧ y = .ref b ∧ H a = some (.ins C dx fs) ∧ H b = some (.ins C dy gs) ∧ sp [.ref a, .ref b] H (fun v H' => ∃ c, v = .bl c ∧ Q (.bl (if neg then !c else c)) H') E
theorem op_eq_own (O : OwnE X.K C f) (F : FnOk X.prog X.w X.K X.mg X.base CX k f fd ps sp) (hr : Room k X.A) (hb : Binds X.K fd ps []) (hx : Passes CX X E) : OpR X (compareOp .Eq) (rEqOwn C sp E false) := by
  intro pins s σ H x y v u Q I rx ry hq
  obtain ⟨a, b, dx, dy, fs, gs, rfl, rfl, ha, hb', q⟩ := hq
  cases rx
  cases ry
  obtain ⟨od, J⟩ := inst_at I ha
  obtain ⟨od', J'⟩ := inst_at I hb'
  obtain ⟨m, hF⟩ := I.fr
  refine PySem.W.cmp_K (op := .Eq) (tb := .ref C) hr.units0 hF I.ok.mod.kin J J'.type (by simp [PySem.W.notFirst]) O.hs O.hf ?_
  refine thn (run_at (vs := [.ref a, .ref b]) F hr rfl hb (at_of_passes hx) I (.cons rfl (.cons rfl .nil)) q) fun _ _ z => ?_
  obtain ⟨w', H', I', rw', c, rfl, q2⟩ := z
  cases rw'
  exact (⟨.bl c, H', I', rfl, q2⟩ : EP X pins σ Q (.bool c) _)
theorem objNe_entry {prog : Program} {w : World} {A : Around} {E : Value → Shared → Prop} {K : PySem.W.Frag} {x C f : Addr} {ox : Obj} {od : Option Obj} {b : Value} {s : Shared} {Q : PySem.Fin → Shared → Prop} (hu : A.units < cLine) (Xk : K.In s.heap) (I : PySem.W.InstAt s.heap x ox C od)
    (hs : PySem.W.findIn K (.ref C) "__eq__" = some (some (.ref f))) (hf : PySem.W.isFn K (.ref f) = true)
    (h : wpAny (model prog w) A (call (.ref f) [.ref x, b]) (fun v s' => ∃ c, v = .bool c ∧ Q (.done (.ret (.bool (!c)))) s') E s) :
    wpAny (model prog w) A (Builtin.«object.__ne__» ⟨[.ref x, b], []⟩) Q E s := by
  unfold Builtin.«object.__ne__»
  refine wpAny_bind (wpAny_of_eq (a := ((Value.ref x : Value), [b])) (by first | rfl | (simp only [Builtin.slotArgs]; rfl)) ?_)
  refine wpAny_bind (wpAny_cRoomFor hu ?_)
  refine wpAny_bind (PySem.W.ifBound_K Xk I hs hf (thn h fun v s' z => ?_))
  obtain ⟨c, rfl, q⟩ := z
  exact wpAny_bind (wpAny_truthy_bool (wpAny_pure q))
theorem cmp_ne {prog : Program} {w : World} {A : Around} {E : Value → Shared → Prop} {K : PySem.W.Frag} {x C f : Addr} {ox : Obj} {od : Option Obj} {b : Value} {s : Shared} {Q : Value → Shared → Prop} (hu : A.units + 1 < cLine) (Xk : K.In s.heap) (I : PySem.W.InstAt s.heap x ox C od)
    (hb : PySem.W.Looks (model prog w) s.heap (typeOf b) (.ref C)) (hn : PySem.W.findIn K (.ref C) "__ne__" = some (some (.builtin "object.__ne__"))) (ob : PySem.W.mroIn K C (.type "object") = some true)
    (hs : PySem.W.findIn K (.ref C) "__eq__" = some (some (.ref f))) (hf : PySem.W.isFn K (.ref f) = true)
    (h : wpAny (model prog w) A.in1 (call (.ref f) [.ref x, b]) (fun v s' => ∃ c, v = .bool c ∧ Q (.bool (!c)) s') E s) :
    wpAny (model prog w) A (richCompare .NotEq (.ref x) b) Q E s := by
  have sub : PySem.W.Looks (model prog w) s.heap (isInstance (.ref x) (.type "object")) true := I.type.andThen (PySem.W.looks_mroIn Xk ob)
  have callN : wpAny (model prog w) A (call (.builtin "object.__ne__") [.ref x, b]) (fun v s' => ∃ c, v = .bool c ∧ Q v s') E s := by
    refine wpAny_call (codeAny_call_builtin PySem.F.cmp_object.ne.plain PySem.F.cmpEntry_ne ?_)
    refine @PySem.W.check_slot (model prog w) _ _ s "object.__ne__" "object" "__ne__" (.ref x) [b] [] _ PySem.F.cmpKind_ne PySem.F.cmpSplit_ne sub (PySem.F.cmpArgs_ne _ _) ?_
    refine objNe_entry (A := A.in1) (by show A.units + 1 < cLine; exact hu) Xk I hs hf (thn h fun v s' z => ?_)
    obtain ⟨c, rfl, q⟩ := z
    exact ⟨c, rfl, ⟨!c, rfl, q⟩⟩
  have L1 := PySem.W.looks_findIn (M := model prog w) Xk hn
  have one : wpAny (model prog w) A (tryCompare (.ref x) "__ne__" b) (fun r s' => ∃ v, r = some v ∧ Q v s') E s := by
    unfold tryCompare
    refine wpAny_bind ?_
    simp only [callSpecialIfBound?, bindSpecialIfBound?]
    refine wpAny_holding (wpAny_bind (wpAny_bind (wpAny_bind (I.type.here (L1.here ?_)))))
    simp only [PySem.F.cmp_object.ne.bind]
    refine wpAny_bind (wpAny_askSetting (wpAny_ite ?_))
    have go : wpAny (model prog w) A (do
        let r ← call (.builtin "object.__ne__") ([.ref x] ++ [b])
        pure (some r)) (fun a s' => wpAny (model prog w) A (match a with
          | some Value.notImplemented => pure none
          | none => pure none
          | some v => pure (some v)) (fun r s' => ∃ v, r = some v ∧ Q v s') E s') E s := by
      refine wpAny_bind (thn callN fun v s' z => ?_)
      obtain ⟨c, rfl, q⟩ := z
      exact wpAny_pure (wpAny_pure ⟨_, rfl, q⟩)
    split
    · exact wpAny_bind (wpAny_pure (wpAny_pure (by exact go)))
    · refine wpAny_tryCatch ?_
      exact wpAny_bind (wpAny_pure (wpAny_pure (by exact go)))
  have hu0 : A.units < cLine := Nat.lt_of_succ_lt hu
  unfold richCompare
  simp only [oneThing_ref]
  refine wpAny_holding (wpAny_bind (wpAny_cRoomFor hu0 ?_))
  refine wpAny_bind (I.type.here (wpAny_bind (hb.here ?_)))
  split
  · rename_i q
    simp at q
  · refine wpAny_bind (wpAny_pure ?_)
    simp only [Bool.false_eq_true, if_false]
    refine wpAny_bind (wpAny_mono one (fun r s' z => ?_) fun _ _ e => e)
    obtain ⟨v, rfl, hq⟩ := z
    exact wpAny_pure hq
theorem op_ne_own (O : OwnE X.K C f) (F : FnOk X.prog X.w X.K X.mg X.base CX k f fd ps sp) (hr : Room (k + 1) X.A) (hb : Binds X.K fd ps []) (hx : Passes CX X E) : OpR X (compareOp .NotEq) (rEqOwn C sp E true) := by
  intro pins s σ H x y v u Q I rx ry hq
  obtain ⟨a, b, dx, dy, fs, gs, rfl, rfl, ha, hb', q⟩ := hq
  cases rx
  cases ry
  obtain ⟨od, J⟩ := inst_at I ha
  obtain ⟨od', J'⟩ := inst_at I hb'
  refine cmp_ne (by have := hr.units; omega) I.kIn J J'.type O.hn O.ob O.hs O.hf ?_
  refine thn (run_at (A := X.A.in1) (vs := [.ref a, .ref b]) F hr.in1 rfl hb (at_of_passes hx) I (.cons rfl (.cons rfl .nil)) q) fun _ _ z => ?_
  obtain ⟨w', H', I', rw', c, rfl, q2⟩ := z
  cases rw'
  exact ⟨c, rfl, (⟨.bl (!c), H', I', rfl, q2⟩ : EP X pins σ Q (.bool (!c)) _)⟩
/-! ### str(o) by the class's __str__ -/
def rStrOwn (C : Addr) (sp : Sp) (E : XK) : List V → Hp → VK → Prop := fun vs H Q => ∃ a dx fs, vs = [.ref a] ∧ H a = some (.ins C dx fs) ∧ sp [.ref a] H (fun v H' => ∃ z, v = .str z ∧ Q v H') E
theorem call_str_own (O : OwnM X.K C f "__str__") (F : FnOk X.prog X.w X.K X.mg X.base CX k f fd ps sp) (hr : Room (k + 2) X.A) (hb : Binds X.K fd ps []) (hx : Passes CX X E) : CallR X (.type "str") (rStrOwn C sp E) := by
  intro pins s σ H xs us Q I r hq
  obtain ⟨a, dx, fs, rfl, ha, q⟩ := hq
  cases r with
  | cons rx rr =>
    cases rr
    cases rx
    obtain ⟨od, J⟩ := inst_at I ha
    have hr2 : Room k X.A.in1.in1 := hr.in1.in1
    refine PySem.W.kso_call hr2.units0 I.kIn J O.hs O.hf ?_
    refine thn (run_at (A := X.A.in1.in1) (vs := [.ref a]) F hr2 rfl hb (at_of_passes hx) I (.cons rfl .nil) q) fun _ _ z => ?_
    obtain ⟨w', H', I', rw', z, rfl, q2⟩ := z
    obtain ⟨t, rfl⟩ := rw'
    exact (⟨.str z, H', I', ⟨t, rfl⟩, q2⟩ : EP X pins σ Q (.str z t) _)
/-! ### -o -/
def rNegOwn (C : Addr) (sp : Sp) (E : XK) : V → Hp → VK → Prop := fun x H Q => ∃ a dx fs, x = .ref a ∧ H a = some (.ins C dx fs) ∧ sp [.ref a] H Q E
theorem un_neg_own (O : OwnM X.K C f "__neg__") (F : FnOk X.prog X.w X.K X.mg X.base CX k f fd ps sp) (hr : Room k X.A) (hb : Binds X.K fd ps []) (hx : Passes CX X E) : UnR X (unaryOp .USub) (rNegOwn C sp E) := by
  intro pins s σ H x v Q I rx hq
  obtain ⟨a, dx, fs, rfl, ha, q⟩ := hq
  cases rx
  obtain ⟨od, J⟩ := inst_at I ha
  obtain ⟨m, hF⟩ := I.fr
  exact PySem.W.ksp_neg hF I.ok.mod.kin J O.hs O.hf (run_at (vs := [.ref a]) F hr rfl hb (at_of_passes hx) I (.cons rfl .nil) q)
end
end XR
/-! ### isinstance of a caught error that has a dict of its own -/
namespace XR
open PySem PySem.Spec PySem.Calls PyProof.Rows PySem.W
section
variable {prog : Program} {w : World} {A : Around} {E : Value → Shared → Prop} {s : Shared} {K : Frag} {x D : Addr} {ox od : Obj}
/-- what a class of errors must say, so that isinstance reads its instances rightly (L2.ExcC's facts) -/
abbrev Asks (K : Frag) (D : Addr) : Prop := L2.ExcC K D
theorem excD_class {Q : Option Value → Shared → Prop} (c : Asks K D) (X : K.In s.heap)
    (I : InstAt s.heap x ox D (some od)) (h : Q (some (.ref D)) { s with toks := s.toks + 1 }) :
    wpAny (model prog w) A (getAttr? (.ref x) "__class__") Q E s := by
  have isC : (clsIn K D).isSome = true := by
    obtain ⟨cd, hc, _⟩ := any_some c.hd
    rw [hc] <;> rfl
  have fnd := looks_find (M := model prog w) X I (findObj_data isC c.ha c.hn c.ht)
  obtain ⟨hp, g, d, t, os⟩ := s
  have lt := I.type (M := model prog w)
  have la := looks_findIn (M := model prog w) X c.hg
  have lb := looks_findIn (M := model prog w) X c.hk
  have isB : Looks (model prog w) hp (isInstance (.ref x) (.type "BaseException")) true :=
    lt.andThen (looks_subIn X c.hs)
  have z0 : (false && onTheHeap (Value.builtin "BaseException.__getattribute__")) = false := by
    rfl
  have z2 : (Value.builtin "BaseException.__getattribute__" ==
      Value.builtin "object.__getattribute__") = false := by decide +kernel
  have z1 : (onTheHeap (Value.ref D) && (Value.builtin "BaseException.__getattribute__" ==
      Value.builtin "object.__getattribute__")) = false := by rw [z2, Bool.and_false]
  unfold getAttr? getAttrBy? getAttrBy
  refine wpAny_bind (wpAny_mkText ?_)
  refine wpAny_bind (wpAny_attempt ?_)
  refine wpAny_holding (wpAny_bind (lt.at ?_))
  refine wpAny_bind (la.at ?_)
  show wpAny _ _ (if (onTheHeap (Value.ref D) && (Value.builtin "BaseException.__getattribute__" ==
    Value.builtin "object.__getattribute__")) = true then _ else _) _ _ _
  rw [z1, if_neg (by decide)]
  unfold getAttrByItsOwn hookBefore
  refine wpAny_bind ?_
  rw [if_pos (by rfl : onTheHeap (Value.ref D) = true)]
  refine lb.at (wpAny_bind (wpAny_attempt ?_))
  refine wpAny_holding ?_
  unfold callGetattribute
  rw [z0, if_neg (by decide)]
  unfold boundAndCalled
  rw [PySem.F.excAttr_ValueError.ga.bind]
  refine wpAny_bind (wpAny_pure ?_)
  show wpAny _ _ (call (.builtin "BaseException.__getattribute__")
    [.ref x, .str "__class__" t]) _ _ _
  refine wpAny_call (codeAny_call_builtin PySem.F.excAttr_ValueError.ga.plain
    PySem.F.entry_bexc_ga ?_)
  refine @check_slot (model prog w) _ _ ⟨hp, g, d, t + 1, os⟩ "BaseException.__getattribute__" "BaseException"
    "__getattribute__" (.ref x) [.str "__class__" t] [] _ (by decide +kernel) (by decide +kernel) isB
    (PySem.F.args_bexc_ga _ _) ?_
  unfold Builtin.«object.__getattribute__»
  refine wpAny_bind (wpAny_of_eq (a := ((Value.ref x : Value), [Value.str "__class__" t]))
    (by first | rfl | (simp only [Builtin.slotArgs] <;> rfl)) ?_)
  refine wpAny_bind (wpAny_pure ?_)
  refine wpAny_bind (lt.at (wpAny_bind (fnd.at ?_)))
  show wpAny _ _ (holding [Value.builtin "object.__class__"]
    (call (.builtin "getset_descriptor.__get__") [.builtin "object.__class__", .ref x, .ref D]) >>= ret) _ _ _
  refine wpAny_bind (wpAny_holding ?_)
  refine wpAny_call (class_get (s := ⟨hp, g, d, t + 1, os⟩) (ox := ox) (od := some od) X I c.hm ?_)
  refine wpAny_pure ?_
  show wpAny _ _ (handedOut (.ref D)) _ _ _
  rw [handedOut_of (v := .ref D) (by rfl)]
  first
    | exact wpAny_pure (wpAny_bind (wpAny_pure (wpAny_pure h)))
    | exact wpAny_pure (wpAny_pure h)
    | exact wpAny_pure h
theorem kit_excD (c : Asks K D) : KitX K (.ref x) (.ref D) (fun h => InstAt h x ox D (some od)) where
  ty := fun _ _ _ i => i.type
  it := fun m h X' i => by
    obtain ⟨cd, hc, _⟩ := any_some c.hd
    unfold clsIn at hc
    split at hc
    next c' d' cd' sl' ho =>
      intro A' Q' E' s' k q
      unfold isType loadHead
      refine wpAny_bind (wpAny_loadPart (k _ _ (X' _ _ ho)) ?_)
      exact wpAny_pure q
    next => cases hc
  ne := fun h tp dd its n sl X' htp => by
    obtain ⟨cd, hc, _⟩ := any_some c.hd
    refine Bool.eq_false_iff.mpr fun q => ?_
    obtain rfl : D = tp := Value.ref.inj (beq_iff_eq.mp q)
    unfold clsIn at hc
    split at hc
    next c' d' cd' sl' ho => cases (X' _ _ ho).symm.trans htp
    next => cases hc
  ca := fun X' i q => excD_class c X' i q
end
end XR
namespace XR
open PySem PySem.Spec PyProof.Rows L2
/-! ### a caught error, pinned: isinstance, fields -/
section
variable {X : Cx} {a : Addr} {oe : Obj} {cls : Value} {d : Option Addr}
theorem pinned_inst {pins : List (Addr × Obj)} {s : Shared} {σ : L2.St} {H : Hp} {D dd : Addr} {fs : List (Str × V)}
    (hp : (a, oe) ∈ X.pn) (hz : Zc (.ref D) (some dd) oe) (hf : ∃ vs, oe.data = .fields vs) (I : Inv X pins σ H s)
    (e : H dd = some (.xd fs)) : ∃ od, PySem.W.InstAt s.heap a oe D (some od) ∧ ∃ mA : Str → Option Value,
      (∀ n, PySem.W.lookIn n od = some (mA n)) ∧ ∀ n, RelO (fs.lookup n) (mA n) := by
  have at_ := (I.pin (a, oe) (List.mem_append_left _ hp)).1
  obtain ⟨vs, hv⟩ := hf
  have ok : ObjOk X.prog X.w H s.heap dd (.xd fs) := I.hok dd _ e
  obtain ⟨mA, hns, rel⟩ := ok
  obtain ⟨od, ho, hl⟩ := lookIn_ns hns
  refine ⟨od, ⟨at_, hz.1, ?_, ?_⟩, mA, hl, rel⟩
  · unfold PySem.W.notCls
    rw [hv] <;> rfl
  · rw [hz.2]
    exact ho
def rIsP (K : PySem.W.Frag) (cls : Value) (d : Option Addr) (a : Addr) : List V → Hp → VK → Prop := fun xs H Q =>
  ∃ (D dd : Addr) (fs : List (Str × V)) (c : V) (cv : Value) (b : Bool), cls = .ref D ∧ d = some dd ∧ H dd = some (.xd fs) ∧
    Asks K D ∧ xs = [.ref a, c] ∧ ClsV c cv ∧ PySem.W.kitOne K (.ref D) cv = some b ∧ Q (.bl b) H
def rIsPT (K : PySem.W.Frag) (cls : Value) (d : Option Addr) (a : Addr) : List V → Hp → VK → Prop := fun xs H Q =>
  ∃ (D dd tp : Addr) (fs : List (Str × V)) (cs : List V) (us : List Value) (b : Bool), cls = .ref D ∧ d = some dd ∧ H dd = some (.xd fs) ∧
    Asks K D ∧ xs = [.ref a, .ref tp] ∧ H tp = some (.tup cs) ∧ Paired ClsV cs us ∧ PySem.W.kitAny K (.ref D) us = some b ∧ Q (.bl b) H
theorem call_isP (hp : (a, oe) ∈ X.pn) (hz : Zc cls d oe) (hf : ∃ vs, oe.data = .fields vs) :
    CallR X (.builtin "isinstance") (rIsP X.K cls d a) := by
  intro pins s σ H xs us Q I r h
  obtain ⟨D, dd, fs, c, cv, b, rfl, rfl, e, as, rfl, kc, ek, q⟩ := h
  obtain ⟨u1, u2, rfl, r1, r2⟩ := vals2 r
  obtain rfl : u1 = Value.ref a := r1
  obtain rfl := kc.eq r2
  obtain ⟨od, J, _⟩ := pinned_inst hp hz hf I e
  exact PySem.W.kia_one (kit_excD as) I.kIn J ek (fun z => nomatch z) fun tk => ⟨.bl b, H, I.tok tk, rfl, q⟩
theorem call_isPT (hp : (a, oe) ∈ X.pn) (hz : Zc cls d oe) (hf : ∃ vs, oe.data = .fields vs) :
    CallR X (.builtin "isinstance") (rIsPT X.K cls d a) := by
  intro pins s σ H xs us Q I r h
  obtain ⟨D, dd, tp, fs, cs, ws, b, rfl, rfl, e, as, rfl, hT, kc, ek, q⟩ := h
  obtain ⟨u1, u2, rfl, r1, r2⟩ := vals2 r
  obtain rfl : u1 = Value.ref a := r1
  obtain rfl : u2 = Value.ref tp := r2
  obtain ⟨od, J, _⟩ := pinned_inst hp hz hf I e
  have okT : ObjOk X.prog X.w H s.heap tp (.tup cs) := I.hok tp _ hT
  obtain ⟨_, its, rv, ⟨oc, od2, dt, sl⟩, h1, h2, n, h3⟩ := okT
  dsimp only at h2 h3
  subst h2 h3
  obtain rfl := ClsV.all kc rv
  exact PySem.W.kia_tup (kit_excD as) I.kIn J h1 ek (fun z => nomatch z) fun tk => ⟨.bl b, H, I.tok tk, rfl, q⟩
/-- e.n, e the pinned error -/
def tPf (K : PySem.W.Frag) (a : Addr) (cls : Value) (d : Option Addr) (n : Str) (te : TE) : TE := fun σ H Q => te σ H fun x H1 =>
  ∃ (D dd : Addr) (fs : List (Str × V)) (v : V), x = .ref a ∧ cls = .ref D ∧ d = some dd ∧ H1 dd = some (.xd fs) ∧ XfC K D ∧
    PySem.W.findIn K (.ref D) n = some none ∧ fs.lookup n = some v ∧ Q v H1
theorem pe_pf {e : Expr} {te : TE} {pos : Pos} {n : Str} (hp : (a, oe) ∈ X.pn) (hz : Zc cls d oe) (hf : ∃ vs, oe.data = .fields vs) (he : PE X e te)
    (hb : attributeBase e n X.env (eval e X.env) = eval e X.env := by rfl) : PE X (.Attribute e n pos) (tPf X.K a cls d n te) := by
  refine ⟨fun pins s σ H Q I h => attr_of hb (thn (he.run pins s σ H _ I h) fun u s1 z => ?_)⟩
  obtain ⟨x, H1, I1, rx, D, dd, fs, v, rfl, rfl, rfl, ea, xf, hno, l, q⟩ := z
  obtain rfl : u = Value.ref a := rx
  obtain ⟨od, J, mA, hl, rel⟩ := pinned_inst hp hz hf I1 ea
  have rn := rel n
  rw [l] at rn
  obtain ⟨u, hu, ru⟩ := RelO.some_of rn
  refine HandSPX.exc_get I1.kIn J xf.ga xf.gg xf.exC (PySem.W.findObj_own xf.hdC hno rfl ?_) (handed_of ru) ⟨v, H1, I1.tok _, ru, q⟩
  rw [hl, hu]
end
/-! ### a def called while an error is handled: it raises nothing itself -/
abbrev SpQ := Addr × Obj → Sp
structure FnQ (P : Program) (w : World) (K : PySem.W.Frag) (mg : Str → Option Value) (base : Heap) (k : Nat) (f : Addr) (fd : FuncData) (ps : List Str) (sp : SpQ) : Prop where
  len : ∀ p vs H Q E, sp p vs H Q E → vs.length = ps.length
  run : ∀ (A : Around) (outer : List Env) (s : Shared) (H : Hp) (args : Args) (us : List Value) (vs : List V) (Q : VK) (p : Addr × Obj),
    L2H.RoomH k A → L2H.PinOk outer H s p → Env0 P w K mg base A outer s H → BindsTo s fd args (ps.zip us) → Vals vs us → sp p vs H Q E0 →
    codeAny (model P w) A (.call (.ref f) args) (CR CX0 outer P w H s Q E0) s
section
variable {P : Program} {w : World} {K : PySem.W.Frag} {mg : Str → Option Value} {base : Heap}
theorem okQ {x qual : Str} {st : Stmt} {f : Addr} {fd : FuncData} {N ps : List Str} {k : Nat} {sp : SpQ} (F : Fun K x qual st f fd) (S : FnScope N ps (defScope st))
    (len : ∀ p vs H Q E, sp p vs H Q E → vs.length = ps.length)
    (body : ∀ (cdv : Value) (A : Around) (outer : List Env) (s : Shared) (H : Hp) (vs : List V) (Q : VK) (p : Addr × Obj),
      L2H.RoomH k (A.deeper (envOfC qual (defScope st) s.heap.objs.size f cdv)) → sp p vs H Q E0 →
      ∃ t, PSs (L2H.cxH CX0 P w K mg base N qual (defScope st) f cdv A outer s H E0 p).nox (defBody st) t ∧
        t { nx := fun _ H' => Q .non H', rt := Q } (start N vs) H) : FnQ P w K mg base (k + 1) f fd ps sp := by
  obtain ⟨oc, od, kV, doc, pm, an, cdv, ct, osl, rfl, lk, hcd⟩ := F.ex
  refine ⟨len, fun A outer s H args us vs Q p hr pin e0 hb r hsp => ?_⟩
  have hl := len _ _ _ _ _ hsp
  have old : ∀ b o, base.get? b = some o → s.heap.get? b = some o := fun b o e => (e0.bs b o e).1
  have KX : K.In s.heap := e0.mod.kin.keeps old
  have lim : s.heap.NoLimit := e0.mod.nolimit.keeps old
  have kinds : ∀ y ∈ ps.zip us, (defScope st).names.lookup y.1 = some .local ∨
      ((defScope st).names.lookup y.1 = some .cell ∧ ((cellsFrom (s.heap.objs.size + 1) (defScope st).names []).lookup y.1).isSome = true) := by
    rintro ⟨n, v⟩ hy
    refine (S.par n (List.of_mem_zip hy).1).imp (fun q => q) fun q => ⟨q, ?_⟩
    exact PySem.W.cellsFrom_some _ _ _ (.inl q)
  refine codeAny_call_function hr.depth (KX _ _ lk) rfl S.co S.gen rfl (PySem.W.codeRec_of KX hcd) (hb _ _ _ _ ?_)
  refine wpAny_newFunctionEnv_cells S.kind kinds fun env he s1 x => ?_
  subst he
  refine ⟨lim.keeps x.toInCall.keep, codeAny_func ?_⟩
  obtain ⟨t, ht, hq⟩ := body cdv A outer s H vs Q p (hr.deeper _) hsp
  have I := L2H.inv_startH (CX := CX0) (E := E0) (cd := cdv) (qual := qual) S pin e0 hl r x
  have run := (PSs.nox ht).run [] s1 (start N vs) H _ I hq
  have out : ∀ {σ' : L2.St} {H' : Hp} {v : V} {u : Value} {s' : Shared},
      Inv (L2H.cxH CX0 P w K mg base N qual (defScope st) f cdv A outer s H E0 p) [] σ' H' s' → RelV v u → Q v H' → CE outer P w H s Q u s' :=
    fun J rv q => ⟨_, _, J.os, J.bare, J.base, J.hok, rv, q⟩
  refine wpAny_mono run (fun fl s' z => ?_) fun _ _ z => z
  cases fl with
  | next =>
    obtain ⟨σ', H', J, q⟩ := z
    exact out (v := V.non) (u := Value.none) J rfl q
  | ret u =>
    obtain ⟨v, σ', H', J, rv, q⟩ := z
    exact out J rv q
  | brk => exact z.elim fun _ y => y.elim fun _ y => y.2.elim
  | cont => exact z.elim fun _ y => y.elim fun _ y => y.2.elim
end
section
variable {X : Cx} {k : Nat} {f : Addr} {fd : FuncData} {ps : List Str} {sp : SpQ} {x : Str} {q pos : Pos} {e : Expr} {es : List Expr} {t : TA} {p : Addr × Obj}
def tCallQ (sp : Sp) (t : TA) : TE := fun σ H Q => t σ H fun vs H1 => sp vs H1 Q E0
theorem pe_callQ (F : FnQ X.prog X.w X.K X.mg X.base k f fd ps sp) (hr : L2H.RoomH k X.A) (hp : p ∈ X.pn) (hg : Gl X x) (hm : X.mg x = some (.ref f))
    (hk : PySem.W.keepIn X.K (.ref f) = true) (hb : Binds X.K fd ps []) (ha : PA X (e :: es) t) (hdb : (x == ("__debug__" : Str)) = false := by decide)
    (he : starEach (e :: es) X.env = (false, eval e X.env) :: starEach es X.env := by rfl) (hpl : (backTo pos (starEach es X.env)).any (·.1) = false := by rfl) :
    PE X (.Call (.Name x q) (e :: es) [] pos) (tCallQ (sp p) t) := by
  refine ⟨fun pins s σ H Q I h => wpAny_Call_Name_kw (ld_glob I hg hm ?_ hdb)⟩
  refine PySem.W.callWith_K (h₀ := X.base) I.ok.mod.kin hk (thn (ha.run pos pins s σ H _ I h) fun us s1 z => ?_) he hpl
  obtain ⟨vs, H1, I1, r, hsp⟩ := z
  refine ⟨I1.kIn, ?_⟩
  have hl : us.length = ps.length := r.length.symm.trans (F.len _ _ _ _ _ hsp)
  have b := hb s1 us I1.kIn (by rw [List.append_nil]; exact hl)
  rw [List.append_nil] at b
  obtain ⟨p1, p2, p3, p4, p5⟩ := I1.pin p (List.mem_append_left _ hp)
  have pin : L2H.PinOk X.stack H1 s1 p := ⟨p1, p2, fun hm => (List.mem_cons.mp (I1.stkSub p.1 hm)).elim p3 p4, p5⟩
  refine wpAny_call (codeAny_mono (F.run X.A X.stack s1 H1 ⟨us, []⟩ us vs Q p hr pin I1.env0 b r hsp) fun r s' z => ?_)
  cases r with
  | error e => exact z.elim
  | ok fl =>
    cases fl with
    | ret u => exact I1.after z
    | next => exact z.elim
    | brk => exact z.elim
    | cont => exact z.elim
end
end XR
namespace XR
open PySem PySem.Spec PyProof.Rows L2
/-! ### C(e, ..) where __init__ may raise, the wish told at the caller's slots -/
section
variable {X : Cx} {CX : CXT} {k : Nat} {C f : Addr} {fd : FuncData} {ps : List Str} {sp : Sp} {E : L2.St → XK} {x : Str} {p pos : Pos} {e : Expr} {es : List Expr} {t : TA}
def tMakeS (C : Addr) (sp : Sp) (E : L2.St → XK) (t : TA) : TE := fun σ H Q => t σ H fun vs H1 => ∀ x dx, H1 x = none → H1 dx = none → dx ≠ x →
  sp (.ref x :: vs) (upd (upd H1 dx (.own x)) x (.ins C dx [])) (fun v H2 => v = .non ∧ Q (.ref x) H2) (E σ)
theorem pe_makeS (M : Mk X.K C f) (F : FnOk X.prog X.w X.K X.mg X.base CX k f fd ps sp) (hr : Room (k + 1) X.A) (hg : Gl X x) (hm : X.mg x = some (.ref C)) (hb : Binds X.K fd ps [])
    (hx : ∀ σ, PassesAt CX X σ (E σ)) (ha : PA X (e :: es) t) (hdb : (x == ("__debug__" : Str)) = false := by decide)
    (he : starEach (e :: es) X.env = (false, eval e X.env) :: starEach es X.env := by rfl) (hpl : (backTo pos (starEach es X.env)).any (·.1) = false := by rfl) :
    PE X (.Call (.Name x p) (e :: es) [] pos) (tMakeS C sp E t) := by
  refine ⟨fun pins s σ H Q I h => wpAny_Call_Name_kw (ld_glob I hg hm ?_ hdb)⟩
  refine PySem.W.callWith_K (h₀ := X.base) I.ok.mod.kin M.kp (thn (ha.run pos pins s σ H _ I h) fun us s1 z => ?_) he hpl
  obtain ⟨vs, H1, I1, r, q⟩ := z
  refine ⟨I1.kIn, ?_⟩
  have fr := I1.hok.fresh (a := s1.heap.objs.size) (Nat.le_refl _)
  have fr1 := I1.hok.fresh (a := s1.heap.objs.size + 1) (Nat.le_add_right _ 1)
  have hsp := q (s1.heap.objs.size + 1) s1.heap.objs.size fr1 fr (Nat.ne_of_lt (Nat.lt_succ_self _))
  have I2 := Inv.made (C := C) I1
  have r2 : Vals (V.ref (s1.heap.objs.size + 1) :: vs) (Value.ref (s1.heap.objs.size + 1) :: us) := .cons rfl r
  have hl : (Value.ref (s1.heap.objs.size + 1) :: us).length = ps.length := r2.length.symm.trans (F.len _ _ _ _ hsp)
  have b := hb _ (Value.ref (s1.heap.objs.size + 1) :: us) I2.kIn (by rw [List.append_nil]; exact hl)
  rw [List.append_nil] at b
  have run := F.run _ X.stack _ _ ⟨Value.ref (s1.heap.objs.size + 1) :: us, []⟩ _ _ _ (E σ) (hr.make C us []) (I2.env0.make C us []) b r2 hsp
  refine wpAny_call (make_map (f := f) I1.kIn M.makes M.init (beq_iff_eq.mp M.fn) (codeAny_mono run fun r s' z => ?_))
  cases r with
  | error er => exact hx σ pins _ _ er s' I2 z
  | ok fl =>
    cases fl with
    | ret u =>
      obtain ⟨v, H', I3, rv, ev, q3⟩ := I2.after z
      subst ev
      exact ⟨rv, .ref (s1.heap.objs.size + 1), H', I3, rfl, q3⟩
    | next => exact z.elim
    | brk => exact z.elim
    | cont => exact z.elim
end
end XR
set_option Elab.async false
set_option linter.all false
set_option maxRecDepth 100000
set_option maxHeartbeats 4000000
/-! common lemmas: lists of ints, heaps with one object that changes, errors made and raised -/
namespace XR
open PySem PySem.Spec PyProof.Rows L2
theorem divw {i j : Int} (h : 0 < j) (h2 : j < 2 ^ 63) : CDivW i j := wide_div (b := 63) h (by omega) (by decide) (by decide)
theorem cmul_mod {i j : Int} (h : 0 < j ∧ j < 2 ^ 64) : -(2 ^ 64) < i % j ∧ i % j < 2 ^ 64 := ⟨by have := Int.emod_nonneg i (b := j) (by omega); omega, by have := Int.emod_lt_of_pos i h.1; omega⟩
theorem log_lt {i : Int} (h1 : -(10 ^ 40) < i) (h2 : i < 10 ^ 40) : i.natAbs.log2 < 1920 := by
  have h : i.natAbs < 10 ^ 40 := by omega
  have h3 : (10 : Nat) ^ 40 < 2 ^ 1920 := by decide +kernel
  by_cases z : i.natAbs = 0
  · rw [z]; decide
  · exact (Nat.log2_lt z).mpr (Nat.lt_trans h h3)
/-- a word at which the reading stops (two makers, so that no anonymous one fits) -/
inductive Stop (p : Prop) : Prop where
  | go (h : p)
  | too (h : p)
theorem Stop.out {p : Prop} : Stop p → p
  | .go h => h
  | .too h => h
/-- xs[:n] -/
theorem cutV_take (ns : List Int) (n : Nat) : cutV (ns.map V.int) none (some (n : Int)) = (ns.take n).map V.int := by
  unfold cutV
  have e0 : HT.sIx (ns.map V.int).length 0 none = 0 := rfl
  have e1 : HT.sIx (ns.map V.int).length (ns.map V.int).length (some (n : Int)) = min n (ns.map V.int).length := by
    unfold HT.sIx
    simp
    omega
  rw [e0, e1]
  simp [List.map_take]
theorem get_int {ms : List Int} {i : Nat} {x : V} (h : (ms.map V.int)[i]? = some x) : ∃ z, ms[i]? = some z ∧ x = .int z := by
  rw [List.getElem?_map] at h
  cases e : ms[i]? with
  | none => rw [e] at h; cases h
  | some z => rw [e] at h; exact ⟨z, rfl, (Option.some.inj h).symm⟩
theorem take_one {α : Type} {ms : List α} {i : Nat} {z : α} (h : ms[i]? = some z) : ms.take (i + 1) = ms.take i ++ [z] := by
  rw [List.take_succ, h] <;> rfl
theorem ne_fresh {H : Hp} {a b : Addr} {o : HO} (h : H b = none) (e : H a = some o) : a ≠ b := ne_of_none e h
theorem empty_app (x : Str) : Str.empty ++ x = x := by
  cases x with
  | mk a =>
    show (⟨#[] ++ a⟩ : Str) = ⟨a⟩
    simp
theorem max_if (a c : Int) : (if c > a then c else a) = max a c := by omega
theorem min_if (a c : Int) : (if c < a then c else a) = min a c := by omega
theorem at_ints {cs : List Int} {i : Int} (h0 : 0 ≤ i) (h : i < ((cs.map V.int).length : Nat)) : ∃ z, atI (cs.map V.int) i = some (.int z) := by
  have hl : i.toNat < cs.length := by rw [List.length_map] at h; omega
  refine ⟨cs[i.toNat], at_of (j := i.toNat) (by omega) ?_⟩
  rw [List.getElem?_map, List.getElem?_eq_getElem hl] <;> rfl
/-- the item at a drawn place of a written list -/
theorem at_lt {α : Type} {xs : List α} {i : Int} (h0 : 0 ≤ i) (h : i < (xs.length : Int)) : ∃ x, atI xs i = some x ∧ x ∈ xs := by
  have hl : i.toNat < xs.length := by omega
  refine ⟨xs[i.toNat], ?_, List.getElem_mem hl⟩
  have e := atI_nat (List.getElem?_eq_getElem hl)
  rw [show ((i.toNat : Nat) : Int) = i by omega] at e
  exact e
/-- all but b stands as it stood -/
def ExB (b : Addr) (H H' : Hp) : Prop := ∀ a o, a ≠ b → H a = some o → H' a = some o
theorem ExB.refl {b : Addr} {H : Hp} : ExB b H H := fun _ _ _ e => e
theorem ExB.trans {b : Addr} {H H1 H2 : Hp} (x : ExB b H H1) (y : ExB b H1 H2) : ExB b H H2 := fun a o n e => y a o n (x a o n e)
theorem ExB.same {b : Addr} {H H1 H2 : Hp} (x : ExB b H H1) (y : Same H1 H2) : ExB b H H2 := fun a o n e => y a o (x a o n e)
theorem ExB.of {b : Addr} {H H1 : Hp} (y : Same H H1) : ExB b H H1 := fun a o _ e => y a o e
theorem ExB.upd {b : Addr} {H H' : Hp} {o : HO} (x : ExB b H H') : ExB b H (upd H' b o) := fun a u ha e => by rw [upd_ne ha]; exact x a u ha e
theorem Same.new {H H' : Hp} {p : Addr} {o : HO} (x : Same H H') (h : H' p = none) : Same H (upd H' p o) := fun a u e => by
  have q := x a u e
  rw [upd_ne (ne_of_none q h)]
  exact q
theorem ExB.new {b : Addr} {H H' : Hp} {p : Addr} {o : HO} (x : ExB b H H') (h : H' p = none) : ExB b H (L2.upd H' p o) := fun a u n e => by
  have q := x a u n e
  rw [upd_ne (ne_of_none q h)]
  exact q
/-- nothing stands at p behind either -/
theorem none_back {H H' : Hp} {p : Addr} (x : Same H H') (h : H' p = none) : H p = none := Same.free x h
theorem none_backB {b : Addr} {H H' : Hp} {p : Addr} (x : ExB b H H') (n : p ≠ b) (h : H' p = none) : H p = none := by
  cases e : H p with
  | none => rfl
  | some o => rw [x p o n e] at h; cases h

theorem hot_of {A : Around} {k : Nat} {v : Option Value} (r : Room k A) : L2H.RoomH k (A.mark v) := ⟨r.dp, r.un⟩
/-! ### an error of the program with fields: made, raised -/
/-- what its __init__ leaves -/
def spEx (C : Addr) (fs : List V → Option (List (Str × V))) : Sp := fun vs H Q _ => ∃ (a : Addr) (ws : List V) (l : List (Str × V)), vs = .ref a :: ws ∧ fs ws = some l ∧
  H a = some (exo a C none) ∧ ∀ d H', H d = none → d ≠ a → H' a = some (exo a C (some d)) → H' d = some (exd d l) → (∀ q o, q ≠ a → H q = some o → H' q = some o) → Q .non H'
/-- the wish of what is raised: an error of the class at C with these fields, all else as it stood -/
def Wish (C : Addr) (l : List (Str × V)) (H : Hp) (E : Value → Option Addr → Hp → Prop) : Prop := ∀ d H', H' d = some (.xd l) → Same H H' → E (.ref C) (some d) H'
theorem mk_ex {C : Addr} {fs : List V → Option (List (Str × V))} {vs : List V} {l : List (Str × V)} {H : Hp} {E : XK} (hl : vs.length ≤ 1000) (hf : fs vs = some l) (k : Wish C l H E) :
    vs.length ≤ 1000 ∧ ∀ a, H a = none → spEx C fs (.ref a :: (vs ++ [])) (upd H a (exo a C none))
      (fun v H2 => v = .non ∧ ∃ (d : Addr) (g : List (Str × V)), H2 a = some (exo a C (some d)) ∧ H2 d = some (exd d g) ∧ H d = none ∧ E (.ref C) (some d) (upd (del H2 a) d (.xd g))) (fun _ _ _ => False) := by
  refine ⟨hl, fun a ha => ⟨a, vs, l, by rw [List.append_nil], hf, upd_same, fun d H' hd hda ea ed x => ⟨rfl, d, l, ea, ed, ?_, k d _ upd_same fun q o e => ?_⟩⟩⟩
  · rw [upd_ne hda] at hd
    exact hd
  · have hqa : q ≠ a := ne_of_none e ha
    have hqd : q ≠ d := fun z => by
      rw [upd_ne hda] at hd
      rw [z, hd] at e
      cases e
    rw [upd_ne hqd, del_ne hqa]
    refine x q o hqa ?_
    rw [upd_ne hqa]
    exact e
theorem init_ex1 {K : PySem.W.Frag} {C a : Addr} {f : Str} {v : V} {H : Hp} {Q : Hp → Prop} (oc : OexC K C) (hn : PySem.W.findIn K (.ref C) f = some none) (ha : H a = some (exo a C none))
    (k : ∀ d H', H d = none → d ≠ a → H' a = some (exo a C (some d)) → H' d = some (exd d [(f, v)]) → (∀ q o, q ≠ a → H q = some o → H' q = some o) → Q H') :
    ∃ a' C' : Addr, V.ref a = .ref a' ∧ OexC K C' ∧ PySem.W.findIn K (.ref C') f = some none ∧
      ((H a' = some (exo a' C' none) ∧ ∀ dx, H dx = none → dx ≠ a' → Q (upd (upd H dx (exd dx [(f, v)])) a' (exo a' C' (some dx)))) ∨
        ∃ (dx : Addr) (fs : List (Str × V)), H a' = some (exo a' C' (some dx)) ∧ H dx = some (exd dx fs) ∧ fs.length ≤ 900 ∧ Q (upd H dx (exd dx ((f, v) :: fs)))) := by
  refine ⟨a, C, rfl, oc, hn, .inl ⟨ha, fun dx hd hne => k dx _ hd hne upd_same (by rw [upd_ne hne]; exact upd_same) fun q o hq e => ?_⟩⟩
  rw [upd_ne hq, upd_ne (ne_of_none e hd)]
  exact e
theorem init_ex2 {K : PySem.W.Frag} {C a d : Addr} {f : Str} {v : V} {l : List (Str × V)} {H : Hp} {Q : Hp → Prop} (oc : OexC K C) (hn : PySem.W.findIn K (.ref C) f = some none) (hl : l.length ≤ 900)
    (ha : H a = some (exo a C (some d))) (hd : H d = some (exd d l)) (hda : d ≠ a)
    (k : ∀ H', H' a = some (exo a C (some d)) → H' d = some (exd d ((f, v) :: l)) → (∀ q o, q ≠ a → q ≠ d → H q = some o → H' q = some o) → Q H') :
    ∃ a' C' : Addr, V.ref a = .ref a' ∧ OexC K C' ∧ PySem.W.findIn K (.ref C') f = some none ∧
      ((H a' = some (exo a' C' none) ∧ ∀ dx, H dx = none → dx ≠ a' → Q (upd (upd H dx (exd dx [(f, v)])) a' (exo a' C' (some dx)))) ∨
        ∃ (dx : Addr) (fs : List (Str × V)), H a' = some (exo a' C' (some dx)) ∧ H dx = some (exd dx fs) ∧ fs.length ≤ 900 ∧ Q (upd H dx (exd dx ((f, v) :: fs)))) := by
  refine ⟨a, C, rfl, oc, hn, .inr ⟨d, l, ha, hd, hl, k _ (by rw [upd_ne hda.symm]; exact ha) upd_same fun q o _ hq e => by rw [upd_ne hq]; exact e⟩⟩
end XR
namespace XR
open PySem L2
theorem ifF {c : Bool} {P Q : Prop} (h : c = false) (k : Q) : if c = true then P else Q := by rw [h, if_neg (by decide)]; exact k
theorem ifT {c : Bool} {P Q : Prop} (h : c = true) (k : P) : if c = true then P else Q := by rw [if_pos h]; exact k
end XR
namespace XR
open PySem L2
section
variable {X : Cx} {a b : Addr} {oe : Obj} {cls : Value} {d : Option Addr} {pn : List (Addr × Obj)}
theorem call_isPs (hz : Zc cls d oe) (hf : ∃ vs, oe.data = .fields vs) : CallR (X.suite b ((a, oe) :: pn)) (.builtin "isinstance") (rIsP X.K cls d a) := call_isP List.mem_cons_self hz hf
theorem call_isPTs (hz : Zc cls d oe) (hf : ∃ vs, oe.data = .fields vs) : CallR (X.suite b ((a, oe) :: pn)) (.builtin "isinstance") (rIsPT X.K cls d a) := call_isPT List.mem_cons_self hz hf
theorem pe_pfs {e : Expr} {te : TE} {pos : Pos} {n : Str} (hz : Zc cls d oe) (hf : ∃ vs, oe.data = .fields vs) (he : PE (X.suite b ((a, oe) :: pn)) e te)
    (hb : attributeBase e n (X.suite b ((a, oe) :: pn)).env (eval e (X.suite b ((a, oe) :: pn)).env) = eval e (X.suite b ((a, oe) :: pn)).env := by rfl) : PE (X.suite b ((a, oe) :: pn)) (.Attribute e n pos) (tPf X.K a cls d n te) :=
  pe_pf List.mem_cons_self hz hf he hb
theorem pe_callQs {k : Nat} {f : Addr} {fd : FuncData} {ps : List Str} {sp : SpQ} {x : Str} {q pos : Pos} {e : Expr} {es : List Expr} {t : TA}
    (F : FnQ (X.suite b ((a, oe) :: pn)).prog (X.suite b ((a, oe) :: pn)).w (X.suite b ((a, oe) :: pn)).K (X.suite b ((a, oe) :: pn)).mg (X.suite b ((a, oe) :: pn)).base k f fd ps sp) (hr : L2H.RoomH k (X.suite b ((a, oe) :: pn)).A) (hg : Gl (X.suite b ((a, oe) :: pn)) x) (hm : (X.suite b ((a, oe) :: pn)).mg x = some (.ref f))
    (hk : PySem.W.keepIn (X.suite b ((a, oe) :: pn)).K (.ref f) = true) (hb : Binds (X.suite b ((a, oe) :: pn)).K fd ps []) (ha : PA (X.suite b ((a, oe) :: pn)) (e :: es) t) (hdb : (x == ("__debug__" : Str)) = false := by decide)
    (he : starEach (e :: es) (X.suite b ((a, oe) :: pn)).env = (false, eval e (X.suite b ((a, oe) :: pn)).env) :: starEach es (X.suite b ((a, oe) :: pn)).env := by rfl) (hpl : (backTo pos (starEach es (X.suite b ((a, oe) :: pn)).env)).any (·.1) = false := by rfl) :
    PE (X.suite b ((a, oe) :: pn)) (.Call (.Name x q) (e :: es) [] pos) (tCallQ (sp (a, oe)) t) := pe_callQ (p := (a, oe)) F hr List.mem_cons_self hg hm hk hb ha hdb he hpl
end
end XR
namespace XR
open PySem L2
theorem cong_ts {X : Cx} {ss : List Stmt} {t t' : TS} (h : PSs X ss t) (e : t = t') : PSs X ss t' := e ▸ h
end XR
namespace XR
open PySem L2
theorem kitAny_cons {K : PySem.W.Frag} {t c : Value} {r : List Value} (h : PySem.W.kitOne K t c = some false) (hr : PySem.W.kitAny K t r = some false) : PySem.W.kitAny K t (c :: r) = some false := by
  unfold PySem.W.kitAny
  rw [h]
  exact hr
theorem kitAny_4 {K : PySem.W.Frag} {t a b c d : Value} (h1 : PySem.W.kitOne K t a = some false) (h2 : PySem.W.kitOne K t b = some false) (h3 : PySem.W.kitOne K t c = some false) (h4 : PySem.W.kitOne K t d = some false) : PySem.W.kitAny K t [a, b, c, d] = some false :=
  kitAny_cons h1 (kitAny_cons h2 (kitAny_cons h3 (kitAny_cons h4 rfl)))
end XR
namespace XR
open PySem L2
/-- .. in a comprehension's block -/
theorem ix_listb {X : Cx} {s : Shared} {H : Hp} {sc : Scope} {ce : Env} {fp : List Addr} : IxR (X.blk s H sc ce fp) (rIxL X.K) := ix_list
theorem ix_tupb {X : Cx} {s : Shared} {H : Hp} {sc : Scope} {ce : Env} {fp : List Addr} : IxR (X.blk s H sc ce fp) (rIxT X.K) := ix_tup
end XR
namespace XR
open PySem PySem.Spec PyProof.Rows L2
structure CStat (K : PySem.W.Frag) (C p g : Addr) (m : Str) : Prop where
  rd : PySem.W.readsIn K C (.type "type") = true
  ga : PySem.W.specialIn K (.ref C) "__getattribute__" = some (some (.builtin "type.__getattribute__"))
  at_ : PySem.W.findCls K (.ref C) (.type "type") m = some (.get (.builtin "staticmethod.__get__") (.ref p) .none (.ref C))
  rc : ∃ rest, PySem.W.recIn K p "staticmethod" = some (.ref g :: rest)
section
variable {X : Cx} {pins : List (Addr × Obj)} {σ : L2.St} {H : Hp} {s : Shared} {C p g : Addr} {m : Str} {A : Around} {E : Value → Shared → Prop}
theorem getstat_ok {pl : Sem Bool} {Q : Value × List Value → Shared → Prop} (I : Inv X pins σ H s) (r : CStat X.K C p g m) (h : ∀ s', Inv X pins σ H s' → Q (.ref g, []) s') : wpAny (model X.prog X.w) A (getMethod (.ref C) m pl) Q E s := by
  obtain ⟨rest, hp⟩ := r.rc
  exact PySem.W.method_cls I.kIn r.ga (PySem.W.cls_bind I.kIn r.rd r.at_ (wpAny_call (PySem.W.sm_get (s := { s with toks := s.toks + 1 }) I.kIn hp (PySem.W.handed_on rfl (h _ (I.tok _))))))
end
/-- C.m(..), m a staticmethod; E told at the caller's slots -/
def tStat (C : Addr) (sp : Sp) (E : L2.St → XK) (ta : TE) (t : TA) : TE := fun σ H Q => ta σ H fun x H1 => x = .ref C ∧ t σ H1 fun vs H2 => sp vs H2 Q (E σ)
section
variable {X : Cx} {CX : CXT} {k : Nat} {C p g : Addr} {fd : FuncData} {ps : List Str} {sp : Sp} {ES : L2.St → XK} {o e : Expr} {es : List Expr} {m : Str} {pos apos : Pos} {ta : TE} {t : TA} {pl : Sem Bool}
theorem pe_stat (he : PE X o ta) (r : CStat X.K C p g m) (F : FnOk X.prog X.w X.K X.mg X.base CX k g fd ps sp) (hr : Room k X.A) (hk : PySem.W.keepIn X.K (.ref g) = true) (hb : Binds X.K fd ps []) (hx : ∀ σ, PassesAt CX X σ (ES σ)) (ha : PA X (e :: es) t)
    (hst : starEach (e :: es) X.env = (false, eval e X.env) :: starEach es X.env := by rfl) (hpl : (backTo pos (starEach es X.env)).any (·.1) = false := by rfl)
    (ht : eval (.Call (.Attribute o m apos) (e :: es) [] pos) X.env = (do
      let ov ← eval o X.env
      standAt apos.atName
      let (f, first) ← holding [ov] (getMethod ov m pl)
      callWith pos f first (backTo pos (starEach (e :: es) X.env)) (backToKw pos (keywordEach [] X.env))) := by rfl) :
    PE X (.Call (.Attribute o m apos) (e :: es) [] pos) (tStat C sp ES ta t) := by
  refine ⟨fun pins s σ H Q I h => ?_⟩
  refine PySem.W.methodCall_KW (pl := pl) (thn (he.run pins s σ H _ I h) fun u s1 ⟨x, H1, I1, rx, ex, q⟩ => ?_) ht
  subst ex
  obtain rfl : u = Value.ref C := rx
  refine getstat_ok I1 r fun s2 I2 => ?_
  refine PySem.W.callWith_K (h₀ := X.base) I.ok.mod.kin hk (thn (ha.run pos _ s2 σ H1 _ I2 q) fun us s3 ⟨vs, H2, I3, rv, q2⟩ => ⟨I3.kIn, ?_⟩) hst hpl
  exact run_at F hr rfl hb (hx σ) I3 rv q2
theorem pe_stat0 (he : PE X o ta) (r : CStat X.K C p g m) (F : FnOk X.prog X.w X.K X.mg X.base CX k g fd ps sp) (hr : Room k X.A) (hk : PySem.W.keepIn X.K (.ref g) = true) (hb : Binds X.K fd ps []) (hx : ∀ σ, PassesAt CX X σ (ES σ))
    (ht : eval (.Call (.Attribute o m apos) [] [] pos) X.env = (do
      let ov ← eval o X.env
      standAt apos.atName
      let (f, first) ← holding [ov] (getMethod ov m pl)
      callWith pos f first (backTo pos (starEach [] X.env)) (backToKw pos (keywordEach [] X.env))) := by rfl) :
    PE X (.Call (.Attribute o m apos) [] [] pos) (tStat C sp ES ta tNil) := by
  refine ⟨fun pins s σ H Q I h => ?_⟩
  refine PySem.W.methodCall_KW (pl := pl) (thn (he.run pins s σ H _ I h) fun u s1 ⟨x, H1, I1, rx, ex, q⟩ => ?_) ht
  subst ex
  obtain rfl : u = Value.ref C := rx
  refine getstat_ok I1 r fun s2 I2 => ?_
  exact PySem.W.callWith_K0 I2.kIn hk (run_at (us := []) F hr rfl hb (hx σ) I2 .nil q)
end
end XR
namespace XR
open PySem L2
/-- turns over a range, whatever a turn does -/
theorem turn_range {lo : Int} {n : Nat} {H0 : Hp} {Qd : Hp → Prop} {Body : V → Hp → (Hp → Prop) → Prop} (Pv : Nat → Hp → Prop) (h0 : Pv 0 H0) (hs : ∀ i H, i < n → Pv i H → Body (.int (lo + i)) H (Pv (i + 1))) (hd : ∀ H, Pv n H → Qd H) :
    ∃ W : Nat → Nat → Hp → Prop, (∃ m, W 0 m H0) ∧ ∀ i m H, W i m H →
      ((Itr lo n).stop i H ∧ Qd H) ∨ ((Itr lo n).go i H ∧ ∃ Nx : Hp → Prop, (∀ H', Nx H' → ∃ m', m' < m ∧ W (i + 1) m' H') ∧ ∀ x H', (Itr lo n).yld i H x H' → Body x H' Nx) := by
  refine ⟨fun i m H => m = n - i ∧ i ≤ n ∧ Pv i H, ⟨n, by simp, Nat.zero_le _, h0⟩, ?_⟩
  rintro i m H ⟨rfl, hi, p⟩
  by_cases hlt : i < n
  · refine .inr ⟨hlt, Pv (i + 1), fun H' p' => ⟨n - (i + 1), by omega, rfl, hlt, p'⟩, fun x H' y => ?_⟩
    obtain ⟨e, y⟩ := y
    subst e y
    exact hs i _ hlt p
  · have e : i = n := by omega
    subst e
    exact .inl ⟨Nat.le_refl _, hd H p⟩
end XR
set_option Elab.async false
set_option linter.all false
set_option maxRecDepth 100000
set_option maxHeartbeats 4000000
/-! views: what is settled (G) within the heap (H); data by PyData -/
namespace XR
open PySem PySem.Spec PyProof.Rows L2
theorem SqL.same {K : PySem.W.Frag} {G H : Hp} {a : Addr} {xs : List V} (h : SqL K G a xs) (v : Same G H) : SqL K H a xs := Same.seq v h
theorem SqT.same {K : PySem.W.Frag} {G H : Hp} {a : Addr} {xs : List V} (h : SqT K G a xs) (v : Same G H) : SqT K H a xs := by
  rcases h with h | h
  · rcases h with h | ⟨o, h⟩
    · exact .inl (.inl (v _ _ h))
    · exact .inl (.inr ⟨o, v _ _ h⟩)
  · exact .inr h
mutual
theorem Dp.same {K : PySem.W.Frag} {G H : Hp} (v : Same G H) : ∀ {x : V} {d : PyData}, Dp K G x d → Dp K H x d
  | _, _, .non => .non
  | _, _, .bl b => .bl b
  | _, _, .int i => .int i
  | _, _, .str i => .str i
  | _, _, .lst s a => .lst (SqL.same s v) (DpAll.same v a)
  | _, _, .tup s a => .tup (SqT.same s v) (DpAll.same v a)
theorem DpAll.same {K : PySem.W.Frag} {G H : Hp} (v : Same G H) : ∀ {xs : List V} {ds : List PyData}, DpAll K G xs ds → DpAll K H xs ds
  | _, _, .nil => .nil
  | _, _, .cons a b => .cons (Dp.same v a) (DpAll.same v b)
end
theorem Dp.int_inv {K : PySem.W.Frag} {G : Hp} {x : V} {z : Int} (h : Dp K G x (.int z)) : x = .int z := by cases h; rfl
theorem Dp.bl_inv {K : PySem.W.Frag} {G : Hp} {x : V} {z : Bool} (h : Dp K G x (.bool z)) : x = .bl z := by cases h; rfl
theorem Dp.str_inv {K : PySem.W.Frag} {G : Hp} {x : V} {z : Str} (h : Dp K G x (.str z)) : x = .str z := by cases h; rfl
theorem Dp.non_inv {K : PySem.W.Frag} {G : Hp} {x : V} (h : Dp K G x .none) : x = .non := by cases h; rfl
theorem Dp.lst_inv {K : PySem.W.Frag} {G : Hp} {x : V} {ds : List PyData} (h : Dp K G x (.list ds)) : ∃ p xs, x = .ref p ∧ SqL K G p xs ∧ DpAll K G xs ds := by
  cases h with | lst s a => exact ⟨_, _, rfl, s, a⟩
theorem Dp.tup_inv {K : PySem.W.Frag} {G : Hp} {x : V} {ds : List PyData} (h : Dp K G x (.tuple ds)) : ∃ p xs, x = .ref p ∧ SqT K G p xs ∧ DpAll K G xs ds := by
  cases h with | tup s a => exact ⟨_, _, rfl, s, a⟩
theorem DpAll.length {K : PySem.W.Frag} {G : Hp} : ∀ {xs : List V} {ds : List PyData}, DpAll K G xs ds → xs.length = ds.length
  | _, _, .nil => rfl
  | _, _, .cons _ b => congrArg (· + 1) (DpAll.length b)
theorem DpAll.get {K : PySem.W.Frag} {G : Hp} : ∀ {xs : List V} {ds : List PyData} {i : Nat} {x : V}, DpAll K G xs ds → xs[i]? = some x → ∃ d, ds[i]? = some d ∧ Dp K G x d
  | _, _, _, _, .nil, e => by cases e
  | _, _, 0, _, .cons a _, e => by cases e; exact ⟨_, rfl, a⟩
  | _, _, i + 1, _, .cons _ b, e => DpAll.get (i := i) b e
theorem DpAll.get' {K : PySem.W.Frag} {G : Hp} : ∀ {xs : List V} {ds : List PyData} {i : Nat} {d : PyData}, DpAll K G xs ds → ds[i]? = some d → ∃ x, xs[i]? = some x ∧ Dp K G x d
  | _, _, _, _, .nil, e => by cases e
  | _, _, 0, _, .cons a _, e => by cases e; exact ⟨_, rfl, a⟩
  | _, _, i + 1, _, .cons _ b, e => DpAll.get' (i := i) b e
theorem DpAll.append {K : PySem.W.Frag} {G : Hp} {ys : List V} {es : List PyData} (q : DpAll K G ys es) : ∀ {xs : List V} {ds : List PyData}, DpAll K G xs ds → DpAll K G (xs ++ ys) (ds ++ es)
  | _, _, .nil => q
  | _, _, .cons a b => .cons a (DpAll.append q b)
theorem DpAll.snoc {K : PySem.W.Frag} {G : Hp} {xs : List V} {ds : List PyData} {y : V} {e : PyData} (p : DpAll K G xs ds) (q : Dp K G y e) : DpAll K G (xs ++ [y]) (ds ++ [e]) := DpAll.append (.cons q .nil) p
theorem DpAll.ints {K : PySem.W.Frag} {G : Hp} : ∀ {xs : List V} {ns : List Int}, DpAll K G xs (ns.map PyData.int) → xs = ns.map V.int
  | _, [], .nil => rfl
  | _, _ :: _, .cons a b => by rw [Dp.int_inv a, DpAll.ints b]; rfl
theorem DpAll.of_ints {K : PySem.W.Frag} {G : Hp} : ∀ (ns : List Int), DpAll K G (ns.map V.int) (ns.map PyData.int)
  | [] => .nil
  | n :: r => .cons (.int n) (DpAll.of_ints r)
/-- a pair of ints -/
abbrev pD : Int × Int → PyData := fun c => .tuple [.int c.1, .int c.2]
abbrev pDs (cs : List (Int × Int)) : List PyData := cs.map pD
theorem Dp.pair {K : PySem.W.Frag} {G : Hp} {x : V} {c : Int × Int} (h : Dp K G x (pD c)) : ∃ p, x = .ref p ∧ SqT K G p [.int c.1, .int c.2] := by
  obtain ⟨p, xs, rfl, s, a⟩ := Dp.tup_inv h
  cases a with | cons a1 a2 =>
  cases a2 with | cons b1 b2 =>
  cases b2
  rw [Dp.int_inv a1, Dp.int_inv b1] at s
  exact ⟨p, rfl, s⟩
theorem Dp.mk_pair {K : PySem.W.Frag} {G : Hp} {p : Addr} {a b : Int} (h : SqT K G p [.int a, .int b]) : Dp K G (.ref p) (pD (a, b)) := .tup h (.cons (.int a) (.cons (.int b) .nil))
theorem pairs_get {K : PySem.W.Frag} {G : Hp} {xs : List V} {cs : List (Int × Int)} {i : Nat} {x : V} (h : DpAll K G xs (pDs cs)) (e : xs[i]? = some x) : ∃ c p, cs[i]? = some c ∧ x = .ref p ∧ SqT K G p [.int c.1, .int c.2] ∧ Dp K G (.ref p) (pD c) := by
  obtain ⟨d, hd, q⟩ := DpAll.get h e
  rw [List.getElem?_map] at hd
  cases ec : cs[i]? with
  | none => rw [ec] at hd; cases hd
  | some c =>
    rw [ec] at hd
    cases hd
    obtain ⟨p, rfl, s⟩ := Dp.pair q
    exact ⟨c, p, rfl, rfl, s, q⟩
theorem pairs_at {K : PySem.W.Frag} {G : Hp} {xs : List V} {cs : List (Int × Int)} {i : Nat} {c : Int × Int} (h : DpAll K G xs (pDs cs)) (e : cs[i]? = some c) : ∃ p, xs[i]? = some (.ref p) ∧ SqT K G p [.int c.1, .int c.2] ∧ Dp K G (.ref p) (pD c) := by
  obtain ⟨x, hx, q⟩ := DpAll.get' (i := i) (d := pD c) h (by rw [List.getElem?_map, e]; rfl)
  obtain ⟨p, rfl, s⟩ := Dp.pair q
  exact ⟨p, hx, s, q⟩
/-! ### steps -/
/-- from (G, H) to (G', H'): nothing changes, what is new in the view is new -/
structure Step (G H G' H' : Hp) : Prop where
  vw : Same G' H'
  gg : Same G G'
  hh : Same H H'
  fr : ∀ a, H a ≠ none → G a = none → G' a = none
theorem Step.refl {G H : Hp} (v : Same G H) : Step G H G H := ⟨v, Same.refl _, Same.refl _, fun _ _ e => e⟩
theorem Same.some {H H' : Hp} {a : Addr} (x : Same H H') (h : H a ≠ none) : H' a ≠ none := fun e => h (Same.free x e)
theorem Step.trans {G H G1 H1 G2 H2 : Hp} (a : Step G H G1 H1) (b : Step G1 H1 G2 H2) : Step G H G2 H2 :=
  ⟨b.vw, a.gg.trans b.gg, a.hh.trans b.hh, fun p h e => b.fr p (Same.some a.hh h) (a.fr p h e)⟩
theorem Step.same {G H H' : Hp} (v : Same G H) (x : Same H H') : Step G H G H' := ⟨v.trans x, Same.refl _, x, fun _ _ e => e⟩
theorem Step.more {G H G1 H1 H2 : Hp} (a : Step G H G1 H1) (x : Same H1 H2) : Step G H G1 H2 := a.trans (Step.same a.vw x)
theorem Same.upd2 {G H : Hp} {p : Addr} {o : HO} (v : Same G H) : Same (upd G p o) (upd H p o) := fun q u e => by
  by_cases z : q = p
  · subst z
    rw [upd_same] at e
    rw [upd_same]
    exact e
  · rw [upd_ne z] at e
    rw [upd_ne z]
    exact v _ _ e
theorem Same.add {H : Hp} {p : Addr} {o : HO} (h : H p = none) : Same H (upd H p o) := fun q u e => by rw [upd_ne (ne_of_none e h)]; exact e
theorem fr_add {G H : Hp} {p : Addr} {o : HO} (h : H p = none) : ∀ a, H a ≠ none → G a = none → (upd G p o) a = none := fun a ha e => by
  rw [upd_ne (fun z => ha (by rw [z]; exact h))]
  exact e
/-- a new settled object -/
theorem Step.new {G H : Hp} {p : Addr} {o : HO} (v : Same G H) (h : H p = none) : Step G H (upd G p o) (upd H p o) :=
  ⟨Same.upd2 v, Same.add (Same.free v h), Same.add h, fr_add h⟩
/-- .. made by a callee -/
theorem Step.lift {G H H' : Hp} {p : Addr} {o : HO} (v : Same G H) (h : H p = none) (x : Same H H') (e : H' p = some o) : Step G H (upd G p o) H' :=
  ⟨fun q u z => by
    by_cases n : q = p
    · subst n
      rw [upd_same] at z
      exact e.trans z
    · rw [upd_ne n] at z
      exact x _ _ (v _ _ z), Same.add (Same.free v h), x, fr_add h⟩
/-- a new object that may still change -/
theorem Step.mut {G H : Hp} {p : Addr} {o : HO} (v : Same G H) (h : H p = none) : Step G H G (upd H p o) := Step.same v (Same.add h)
/-- .. changed -/
theorem Step.upd {G H G' H' : Hp} {l : Addr} {o : HO} (s : Step G H G' H') (h : H l = none) (g : G' l = none) : Step G H G' (upd H' l o) :=
  ⟨fun q u e => by rw [upd_ne (ne_of_none e g)]; exact s.vw _ _ e, s.gg, fun q u e => by rw [upd_ne (ne_of_none e h)]; exact s.hh _ _ e, s.fr⟩
/-- .. settled -/
theorem Step.freeze {G H G' H' : Hp} {l : Addr} {o : HO} (s : Step G H G' H') (h : H l = none) (g : G' l = none) (e : H' l = some o) : Step G H (L2.upd G' l o) H' :=
  ⟨fun q u z => by
    by_cases n : q = l
    · subst n
      rw [L2.upd_same] at z
      exact e.trans z
    · rw [upd_ne n] at z
      exact s.vw _ _ z, s.gg.trans (Same.add g), s.hh, fun a ha ea => by rw [upd_ne (fun z => ha (by rw [z]; exact h))]; exact s.fr a ha ea⟩
/-- a list that grows -/
structure Grow (K : PySem.W.Frag) (G H : Hp) (l : Addr) (out : List PyData) (G' H' : Hp) (acc : List V) : Prop where
  st : XR.Step G H G' H'
  nl : H l = none
  gl : G' l = none
  el : H' l = some (.lst acc)
  ds : DpAll K G' acc out
/-- .. somehow -/
def LcI (K : PySem.W.Frag) (G H : Hp) (l : Addr) (out : List PyData) (H' : Hp) : Prop := ∃ G' acc, Grow K G H l out G' H' acc
section
variable {K : PySem.W.Frag} {G H G' H' G1 H1 : Hp} {l : Addr} {out : List PyData} {acc : List V}
theorem Grow.start (v : Same G H) (h : H l = none) : Grow K G H l [] G (upd H l (.lst [])) [] := ⟨Step.mut v h, h, Same.free v h, upd_same, .nil⟩
theorem LcI.start (v : Same G H) (h : H l = none) : LcI K G H l [] (upd H l (.lst [])) := ⟨_, _, Grow.start v h⟩
theorem Grow.len (g : Grow K G H l out G' H' acc) : acc.length = out.length := XR.DpAll.length g.ds
theorem Grow.step (g : Grow K G H l out G' H' acc) (s : Step G' H' G1 H1) : Grow K G H l out G1 H1 acc :=
  ⟨g.st.trans s, g.nl, s.fr _ (by rw [g.el]; exact fun z => by cases z) g.gl, s.hh _ _ g.el, DpAll.same s.gg g.ds⟩
theorem Grow.add (g : Grow K G H l out G' H' acc) {v : V} {d : PyData} (q : Dp K G' v d) : Grow K G H l (out ++ [d]) G' (upd H' l (.lst (acc ++ [v]))) (acc ++ [v]) :=
  ⟨g.st.upd g.nl g.gl, g.nl, g.gl, upd_same, DpAll.snoc g.ds q⟩
/-- a comprehension's turn that adds -/
theorem Grow.push (g : Grow K G H l out G' H' acc) {v : V} {d : PyData} (q : Dp K G' v d) (hl : out.length < sizeLine) :
    ∃ acc, H' l = some (.lst acc) ∧ acc.length < sizeLine ∧ LcI K G H l (out ++ [d]) (upd H' l (.lst (acc ++ [v]))) :=
  ⟨acc, g.el, by rw [g.len]; exact hl, _, _, g.add q⟩
/-- the list is settled -/
theorem Grow.freeze (g : Grow K G H l out G' H' acc) : Step G H (upd G' l (.lst acc)) H' ∧ Dp K (upd G' l (.lst acc)) (.ref l) (.list out) :=
  ⟨g.st.freeze g.nl g.gl g.el, .lst (SqL.of upd_same) (DpAll.same (Same.add g.gl) g.ds)⟩
end
/-! ### steps with one object b that changes (a law's box) -/
structure StB (b : Addr) (G H G' H' : Hp) : Prop where
  vw : Same G' H'
  gg : Same G G'
  gb : G' b = none
  hh : ExB b H H'
section
variable {K : PySem.W.Frag} {b p l : Addr} {G H G1 H1 G2 H2 : Hp} {o : HO} {out : List PyData} {acc : List V}
theorem StB.refl (v : Same G H) (g : G b = none) : StB b G H G H := ⟨v, Same.refl _, g, ExB.refl⟩
theorem StB.trans (s : StB b G H G1 H1) (t : StB b G1 H1 G2 H2) : StB b G H G2 H2 := ⟨t.vw, s.gg.trans t.gg, t.gb, s.hh.trans t.hh⟩
theorem StB.draw (s : StB b G H G1 H1) (x : ExB b H1 H2) : StB b G H G1 H2 :=
  ⟨fun a u e => x a u (fun z => by rw [z, s.gb] at e; cases e) (s.vw a u e), s.gg, s.gb, s.hh.trans x⟩
theorem StB.new (s : StB b G H G1 H1) (h : H1 p = none) (n : p ≠ b) : StB b G H (upd G1 p o) (upd H1 p o) :=
  ⟨Same.upd2 s.vw, s.gg.trans (Same.add (Same.free s.vw h)), by rw [upd_ne n.symm]; exact s.gb, s.hh.new h⟩
theorem StB.mut (s : StB b G H G1 H1) (h : H1 p = none) : StB b G H G1 (upd H1 p o) := ⟨s.vw.trans (Same.add h), s.gg, s.gb, s.hh.new h⟩
theorem StB.upd (s : StB b G H G1 H1) (h : H p = none) (g : G1 p = none) : StB b G H G1 (L2.upd H1 p o) :=
  ⟨fun q u e => by rw [upd_ne (ne_of_none e g)]; exact s.vw _ _ e, s.gg, s.gb, fun q u n e => by rw [upd_ne (ne_of_none e h)]; exact s.hh _ _ n e⟩
theorem StB.step (s : StB b G H G1 H1) (hb : H1 b ≠ none) (t : Step G1 H1 G2 H2) : StB b G H G2 H2 := ⟨t.vw, s.gg.trans t.gg, t.fr _ hb s.gb, s.hh.same t.hh⟩
theorem StB.same (s : StB b G H G1 H1) (t : Same H1 H2) : StB b G H G1 H2 := ⟨s.vw.trans t, s.gg, s.gb, s.hh.same t⟩
theorem StB.freeze (s : StB b G H G1 H1) (n : p ≠ b) (g : G1 p = none) (e : H1 p = some o) : StB b G H (L2.upd G1 p o) H1 :=
  ⟨fun q u z => by
    by_cases n : q = p
    · subst n
      rw [upd_same] at z
      exact e.trans z
    · rw [upd_ne n] at z
      exact s.vw _ _ z, s.gg.trans (Same.add g), by rw [upd_ne n.symm]; exact s.gb, s.hh⟩
/-- a list that grows between the draws -/
structure GrowB (K : PySem.W.Frag) (b : Addr) (G H : Hp) (l : Addr) (out : List PyData) (G' H' : Hp) (acc : List V) : Prop where
  st : StB b G H G' H'
  nl : H l = none
  lb : l ≠ b
  gl : G' l = none
  el : H' l = some (.lst acc)
  ds : DpAll K G' acc out
theorem GrowB.start (s : StB b G H G H) (h : H p = none) (n : p ≠ b) : GrowB K b G H p [] G (L2.upd H p (.lst [])) [] := ⟨s.mut h, h, n, Same.free s.vw h, upd_same, .nil⟩
theorem GrowB.draw (g : GrowB K b G H l out G1 H1 acc) (x : ExB b H1 H2) : GrowB K b G H l out G1 H2 acc := ⟨g.st.draw x, g.nl, g.lb, g.gl, x _ _ g.lb g.el, g.ds⟩
theorem GrowB.new (g : GrowB K b G H l out G1 H1 acc) (h : H1 p = none) (n : p ≠ b) : GrowB K b G H l out (L2.upd G1 p o) (L2.upd H1 p o) acc :=
  have np : l ≠ p := ne_of_none g.el h
  ⟨g.st.new h n, g.nl, g.lb, by rw [upd_ne np]; exact g.gl, by rw [upd_ne np]; exact g.el, DpAll.same (Same.add (Same.free g.st.vw h)) g.ds⟩
theorem GrowB.mut (g : GrowB K b G H l out G1 H1 acc) (h : H1 p = none) : GrowB K b G H l out G1 (L2.upd H1 p o) acc :=
  have np : l ≠ p := ne_of_none g.el h
  ⟨g.st.mut h, g.nl, g.lb, g.gl, by rw [upd_ne np]; exact g.el, g.ds⟩
theorem GrowB.step (g : GrowB K b G H l out G1 H1 acc) (hb : H1 b ≠ none) (t : XR.Step G1 H1 G2 H2) : GrowB K b G H l out G2 H2 acc :=
  ⟨g.st.step hb t, g.nl, g.lb, t.fr _ (by rw [g.el]; exact fun z => by cases z) g.gl, t.hh _ _ g.el, DpAll.same t.gg g.ds⟩
theorem GrowB.add (g : GrowB K b G H l out G1 H1 acc) {v : V} {d : PyData} (q : Dp K G1 v d) : GrowB K b G H l (out ++ [d]) G1 (L2.upd H1 l (.lst (acc ++ [v]))) (acc ++ [v]) :=
  ⟨g.st.upd g.nl g.gl, g.nl, g.lb, g.gl, upd_same, DpAll.snoc g.ds q⟩
theorem GrowB.len (g : GrowB K b G H l out G1 H1 acc) : acc.length = out.length := XR.DpAll.length g.ds
theorem GrowB.freeze (g : GrowB K b G H l out G1 H1 acc) : StB b G H (L2.upd G1 l (.lst acc)) H1 ∧ Dp K (L2.upd G1 l (.lst acc)) (.ref l) (.list out) :=
  ⟨g.st.freeze g.lb g.gl g.el, .lst (SqL.of upd_same) (DpAll.same (Same.add g.gl) g.ds)⟩
end
/-! ### options -/
def oV : Option Int → V
  | none => .non
  | some z => .int z
def oD : Option Int → PyData
  | none => .none
  | some z => .int z
theorem DpAll.opts {K : PySem.W.Frag} {G : Hp} : ∀ (ns : List (Option Int)), DpAll K G (ns.map oV) (ns.map oD)
  | [] => .nil
  | none :: r => .cons .non (DpAll.opts r)
  | some n :: r => .cons (.int n) (DpAll.opts r)
theorem DpAll.opts_inv {K : PySem.W.Frag} {G : Hp} : ∀ {xs : List V} {ns : List (Option Int)}, DpAll K G xs (ns.map oD) → xs = ns.map oV
  | _, [], .nil => rfl
  | _, none :: _, .cons a b => by rw [Dp.non_inv a, DpAll.opts_inv b]; rfl
  | _, some _ :: _, .cons a b => by rw [Dp.int_inv a, DpAll.opts_inv b]; rfl
section
variable {K : PySem.W.Frag} {G H G' H' : Hp} {l : Addr} {acc : List V} {out : List PyData} {α : Type} {cs : List α} {i : Nat} {c : α} {v : V} {d : PyData}
theorem LcI.vw (h : LcI K G H l out H') : Same G H' := let ⟨_, _, g⟩ := h; g.st.gg.trans g.st.vw
theorem LcI.hh (h : LcI K G H l out H') : Same H H' := let ⟨_, _, g⟩ := h; g.st.hh
theorem Grow.vv (g : Grow K G H l out G' H' acc) : Same G H' := g.st.gg.trans g.st.vw
theorem LcI.start_map {f : α → PyData} (v : Same G H) (h : H l = none) : LcI K G H l ((cs.take 0).map f) (upd H l (.lst [])) := LcI.start v h
theorem LcI.start_fm {f : α → Option PyData} (v : Same G H) (h : H l = none) : LcI K G H l ((cs.take 0).filterMap f) (upd H l (.lst [])) := LcI.start v h
theorem Grow.push_map {f : α → PyData} (g : Grow K G H l ((cs.take i).map f) G' H' acc) (hc : cs[i]? = some c) (q : Dp K G' v (f c)) (hl : cs.length ≤ 1000000) :
    ∃ acc, H' l = some (.lst acc) ∧ acc.length < sizeLine ∧ LcI K G H l ((cs.take (i + 1)).map f) (upd H' l (.lst (acc ++ [v]))) := by
  rw [take_one hc, List.map_append]
  refine g.push q ?_
  rw [List.length_map, List.length_take, sizeLine_eq]
  omega
theorem Grow.push_some {f : α → Option PyData} (g : Grow K G H l ((cs.take i).filterMap f) G' H' acc) (hc : cs[i]? = some c) (e : f c = some d) (q : Dp K G' v d) (hl : cs.length ≤ 1000000) :
    ∃ acc, H' l = some (.lst acc) ∧ acc.length < sizeLine ∧ LcI K G H l ((cs.take (i + 1)).filterMap f) (upd H' l (.lst (acc ++ [v]))) := by
  have e2 : (cs.take (i + 1)).filterMap f = (cs.take i).filterMap f ++ [d] := by rw [take_one hc, List.filterMap_append]; simp [e]
  rw [e2]
  refine g.push q ?_
  have := List.length_filterMap_le f (cs.take i)
  rw [List.length_take] at this
  rw [sizeLine_eq]
  omega
theorem Grow.push_none {f : α → Option PyData} (g : Grow K G H l ((cs.take i).filterMap f) G' H' acc) (hc : cs[i]? = some c) (e : f c = none) : LcI K G H l ((cs.take (i + 1)).filterMap f) H' := by
  have e2 : (cs.take (i + 1)).filterMap f = (cs.take i).filterMap f := by rw [take_one hc, List.filterMap_append]; simp [e]
  rw [e2]
  exact ⟨_, _, g⟩
theorem LcI.all_map {f : α → PyData} {n : Nat} (h : LcI K G H l ((cs.take n).map f) H') (e : cs.length ≤ n) : ∃ G' acc, Grow K G H l (cs.map f) G' H' acc := by
  rw [List.take_of_length_le e] at h
  exact h
theorem LcI.all_fm {f : α → Option PyData} {n : Nat} (h : LcI K G H l ((cs.take n).filterMap f) H') (e : cs.length ≤ n) : ∃ G' acc, Grow K G H l (cs.filterMap f) G' H' acc := by
  rw [List.take_of_length_le e] at h
  exact h
end
theorem at0 {α : Type} {x : α} {xs : List α} : atI (x :: xs) 0 = some x := atI_nat (j := 0) rfl
theorem at1 {α : Type} {x y : α} {xs : List α} : atI (x :: y :: xs) 1 = some y := atI_nat (j := 1) rfl
theorem ix_seqb {X : Cx} {s : Shared} {H : Hp} {sc : Scope} {ce : Env} {fp : List Addr} : IxR (X.blk s H sc ce fp) (rIx X.K) := ix_seq
theorem ints_at {P : Int → Prop} (ns : List Int) {i : Int} (h0 : 0 ≤ i) (h : i < (ns.length : Int)) (p : ∀ n ∈ ns, P n) : ∃ z, atI (ns.map V.int) i = some (.int z) ∧ P z := by
  have hl : i.toNat < ns.length := by omega
  refine ⟨ns[i.toNat], at_of (j := i.toNat) (by omega) ?_, p _ (List.getElem_mem hl)⟩
  rw [List.getElem?_map, List.getElem?_eq_getElem hl] <;> rfl
theorem GrowB.base {K : PySem.W.Frag} {b l : Addr} {G0 H0 G H G1 H1 : Hp} {out : List PyData} {acc : List V} (s : StB b G0 H0 G H) (g : GrowB K b G H l out G1 H1 acc) : GrowB K b G0 H0 l out G1 H1 acc :=
  ⟨s.trans g.st, none_backB s.hh g.lb g.nl, g.lb, g.gl, g.el, g.ds⟩
theorem tyT {K : PySem.W.Frag} {H : Hp} {a : Addr} {xs : List V} (h : SqT K H a xs) : TyX K H (.ref a) (.type "tuple") := by
  rcases h with (h | ⟨o, h⟩) | ⟨o, its, n, e, c, _⟩
  · exact .base (.tup h)
  · exact .fTuple h
  · exact .kTuple e c
theorem tyL {K : PySem.W.Frag} {H : Hp} {a : Addr} {xs : List V} (h : SqL K H a xs) : TyX K H (.ref a) (.type "list") := by
  rcases h with (h | ⟨o, h⟩) | ⟨o, its, n, e, c, _⟩
  · exact .base (.lst h)
  · exact .base (.frz h)
  · exact .kList e c
theorem pairs_can : ∀ cs : List (Int × Int), PyData.canLayAll0 (pDs cs) = true
  | [] => rfl
  | _ :: r => by
    show (PyData.canLay0 _ && PyData.canLayAll0 (pDs r)) = true
    rw [pairs_can r]
    rfl
theorem pairs_eqv : ∀ cs : List (Int × Int), PyData.eqvAll (pDs cs) (pDs cs) = true
  | [] => rfl
  | c :: r => by
    show (PyData.eqv (pD c) (pD c) && PyData.eqvAll (pDs r) (pDs r)) = true
    rw [pairs_eqv r]
    simp [PyData.eqv, PyData.eqvAll]
theorem pairs_depth : ∀ cs : List (Int × Int), PyData.depthAll (pDs cs) ≤ 8
  | [] => by decide
  | c :: r => by
    have := pairs_depth r
    show max (PyData.depth (pD c)) (PyData.depthAll (pDs r)) ≤ 8
    have h : PyData.depth (pD c) ≤ 8 := by simp [PyData.depth, PyData.depthAll]
    omega
theorem shaped_pDs (cs : List (Int × Int)) : SeqAt.shaped (.list (pDs cs)) = true := by
  show (PyData.canLayAll0 (pDs cs) && decide (PyData.depthAll (pDs cs) + 1 ≤ 64)) = true
  rw [pairs_can]
  have := pairs_depth cs
  simp
  omega
theorem eqv_pDs (cs : List (Int × Int)) : PyData.eqv (.list (pDs cs)) (.list (pDs cs)) = true := pairs_eqv cs
theorem eqv_nil (cs : List (Int × Int)) : PyData.eqv (.list (pDs cs)) (.list []) = decide (cs = []) := by
  cases cs with
  | nil => rfl
  | cons c r => rfl
theorem same_nil {H : Hp} : Same (fun _ => none) H := fun _ _ e => by cases e
theorem snoc_inj {α : Type} {I J : List α} {x y : α} (h : I ++ [x] = J ++ [y]) : I = J ∧ x = y := by
  have := List.append_inj' h rfl
  exact ⟨this.1, by simpa using this.2⟩
theorem DpAll.snoc_inv {K : PySem.W.Frag} {G : Hp} {d : PyData} : ∀ {ds : List PyData} {xs : List V}, DpAll K G xs (ds ++ [d]) → ∃ ys y, xs = ys ++ [y] ∧ DpAll K G ys ds ∧ Dp K G y d
  | [], _, .cons a .nil => ⟨[], _, rfl, .nil, a⟩
  | _ :: r, _, .cons a b => by
    obtain ⟨ys, y, rfl, q, z⟩ := DpAll.snoc_inv (ds := r) b
    exact ⟨_ :: ys, y, rfl, .cons a q, z⟩
theorem ixN_last {α : Type} (xs : List α) (v : α) : ixN (xs ++ [v]).length (-1) = some xs.length := by
  unfold ixN
  rw [if_neg (by decide), if_pos (by rw [List.length_append]; simp; omega), List.length_append]
  congr 1
  simp
  omega
theorem set_last {α : Type} (xs : List α) (v w : α) : (xs ++ [v]).set xs.length w = xs ++ [w] := by
  rw [List.set_append_right _ _ (Nat.le_refl _), Nat.sub_self]
  rfl
section
variable {K : PySem.W.Frag} {G H G' H' : Hp} {l : Addr} {out : List PyData} {acc : List V} {d e : PyData} {v : V}
/-- the list's last item is set -/
theorem Grow.setLast (g : Grow K G H l (out ++ [d]) G' H' acc) (q : Dp K G' v e) : ∃ j, ixN acc.length (-1) = some j ∧ Grow K G H l (out ++ [e]) G' (L2.upd H' l (.lst (acc.set j v))) (acc.set j v) := by
  obtain ⟨ys, y, rfl, a, b⟩ := DpAll.snoc_inv g.ds
  refine ⟨ys.length, ixN_last _ _, ?_⟩
  rw [set_last]
  exact ⟨g.st.upd g.nl g.gl, g.nl, g.gl, upd_same, DpAll.snoc a q⟩
end
theorem op_in_seqb {X : Cx} {s : Shared} {H : Hp} {sc : Scope} {ce : Env} {fp : List Addr} : OpR (X.blk s H sc ce fp) (compareOp .In) (rIn X.K false) := op_in_seq
theorem op_notIn_seqb {X : Cx} {s : Shared} {H : Hp} {sc : Scope} {ce : Env} {fp : List Addr} : OpR (X.blk s H sc ce fp) (compareOp .NotIn) (rIn X.K true) := op_notIn_seq
theorem inV_ints (z : Int) : ∀ ns : List Int, inV (.int z) (ns.map V.int) = decide (z ∈ ns)
  | [] => rfl
  | n :: r => by
    have ih := inV_ints z r
    unfold inV at *
    rw [List.map_cons, List.any_cons, ih, Bool.eq_iff_iff]
    have e : eqV (.int n) (.int z) = decide (n = z) := by
      show (n == z) = decide (n = z)
      rw [Bool.eq_iff_iff]
      simp
    rw [e]
    simp only [Bool.or_eq_true, decide_eq_true_eq, List.mem_cons]
    exact or_congr_left ⟨Eq.symm, Eq.symm⟩
theorem flat_ints : ∀ ns : List Int, (ns.map V.int).all flatV = true
  | [] => rfl
  | _ :: r => by
    rw [List.map_cons, List.all_cons, flat_ints r]
    rfl
theorem ints_can : ∀ ns : List Int, PyData.canLayAll0 (ns.map PyData.int) = true
  | [] => rfl
  | _ :: r => by
    show (PyData.canLay0 _ && PyData.canLayAll0 (r.map PyData.int)) = true
    rw [ints_can r]
    rfl
theorem ints_depth : ∀ ns : List Int, PyData.depthAll (ns.map PyData.int) ≤ 8
  | [] => by decide
  | c :: r => by
    have := ints_depth r
    show max (PyData.depth (.int c)) (PyData.depthAll (r.map PyData.int)) ≤ 8
    have h : PyData.depth (.int c) ≤ 8 := by simp [PyData.depth]
    omega
theorem shaped_ints (ns : List Int) : SeqAt.shaped (.list (ns.map PyData.int)) = true := by
  show (PyData.canLayAll0 (ns.map PyData.int) && decide (PyData.depthAll (ns.map PyData.int) + 1 ≤ 64)) = true
  rw [ints_can]
  have := ints_depth ns
  simp
  omega
theorem eqv_ints : ∀ ns : List Int, PyData.eqv (.list (ns.map PyData.int)) (.list (ns.map PyData.int)) = true := by
  have h : ∀ ns : List Int, PyData.eqvAll (ns.map PyData.int) (ns.map PyData.int) = true := fun ns => by
    induction ns with
    | nil => rfl
    | cons c r ih =>
      show (PyData.eqv (.int c) (.int c) && PyData.eqvAll (r.map PyData.int) (r.map PyData.int)) = true
      rw [ih]
      simp [PyData.eqv]
  exact h
theorem eqv_empty (ds : List PyData) : PyData.eqv (.list ds) (.list []) = ds.isEmpty := by
  cases ds <;> rfl
end XR
set_option Elab.async false
set_option linter.all false
set_option maxRecDepth 100000
set_option maxHeartbeats 4000000
/-! walks over a list or a tuple, also in enumerate and zip -/
namespace XR
open PySem PySem.Spec PyProof.Rows L2
/-- a list (k) or a tuple -/
def SqK (K : PySem.W.Frag) (k : Bool) (H : Hp) (a : Addr) (xs : List V) : Prop := if k then SqL K H a xs else SqT K H a xs
def IsSq (k : Bool) (h : Heap) (a : Addr) (items : Array Value) : Prop := if k then h.IsList a items else h.IsTuple a items
def IsSqIter (k : Bool) (h : Heap) (it a : Addr) (i : Nat) : Prop := if k then h.IsListIter it a i else h.IsTupleIter it a i
def sqObj (k : Bool) (a : Addr) : Obj := if k then { cls := .type "list_iterator", data := .fields #[.ref a, .int 0 0] } else { cls := .type "tuple_iterator", data := .fields #[.ref a, .int 0 0] }
theorem SqK.same {K : PySem.W.Frag} {k : Bool} {G H : Hp} {a : Addr} {xs : List V} (h : SqK K k G a xs) (v : Same G H) : SqK K k H a xs := by
  cases k
  · exact SqT.same h v
  · exact SqL.same h v
theorem draws_sq {prog : Program} {w : World} {A : Around} (hh : A.handled = none) (k : Bool) (it a : Addr) (hne : a ≠ it) (items : Array Value) :
    Draws prog w A it [it, a] items.size (fun i v => items[i]? = some v) (fun i h => IsSqIter k h it a i ∧ IsSq k h a items) := by
  cases k
  · exact Draws.tuple hh it a hne items
  · exact Draws.list hh it a hne items
theorem begins_sq (k : Bool) (a : Addr) (items : Array Value) : Begins (.ref a) (sqObj k a) fun h => IsSq k h a items := by
  cases k
  · exact begins_tuple a items
  · exact begins_list a items
theorem iter_at {k : Bool} {h : Heap} {it a : Addr} {i : Nat} (st : IsSqIter k h it a i) : ∃ (o : Obj) (fs : Array Value), h.get? it = some o ∧ o.data = .fields fs := by
  cases k <;> exact (let ⟨o, e, _, d⟩ := st; ⟨o, _, e, d⟩)
theorem iter_keep {k : Bool} {h h' : Heap} {it a : Addr} {i : Nat} (st : IsSqIter k h it a i) (c : ∀ o, h.get? it = some o → h'.get? it = some o) : IsSqIter k h' it a i := by
  cases k <;> exact (let ⟨o, e, r⟩ := st; ⟨o, c o e, r⟩)
theorem iter_new {k : Bool} {h : Heap} {it a : Addr} (e : h.get? it = some (sqObj k a)) : IsSqIter k h it a 0 := by
  cases k <;> exact ⟨_, e, rfl, rfl⟩
theorem sq_at {k : Bool} {h : Heap} {a : Addr} {items : Array Value} (st : IsSq k h a items) : ∃ (o : Obj) (n : Nat), h.get? a = some o ∧ o.data = .seq items n := by
  cases k <;> exact (let ⟨o, e, _, n, d⟩ := st; ⟨o, n, e, d⟩)
theorem sq_ne {k k' : Bool} {h : Heap} {it a b : Addr} {i : Nat} {items : Array Value} (q : IsSq k h a items) (st : IsSqIter k' h it b i) : a ≠ it := fun z => by
  obtain ⟨o, n, e, d⟩ := sq_at q
  obtain ⟨o', fs, e', d'⟩ := iter_at st
  rw [z, e'] at e
  cases e
  rw [d] at d'
  cases d'
theorem inv_sq {X : Cx} {pins : List (Addr × Obj)} {σ : L2.St} {H : Hp} {s : Shared} {k : Bool} {a : Addr} {xs : List V} (I : Inv X pins σ H s) (h : SqK X.K k H a xs) : ∃ its : List Value, Vals xs its ∧ IsSq k s.heap a its.toArray ∧ a < s.heap.objs.size := by
  cases k
  · obtain ⟨its, r, p, _⟩ := I.tuple h
    have p' : s.heap.IsTuple a its.toArray := p
    exact ⟨its, r, p', (let ⟨o, e, _⟩ := p'; Heap.lt_size e)⟩
  · obtain ⟨its, r, p, _⟩ := I.list h
    exact ⟨its, r, p.isList, p.lt⟩
theorem inv_inj {X : Cx} {pins : List (Addr × Obj)} {σ : L2.St} {H : Hp} {s : Shared} {k : Bool} {a : Addr} {xs ys : List V} (I : Inv X pins σ H s) (h : SqK X.K k H a xs) (h' : SqK X.K k H a ys) : xs = ys := by
  cases k
  · exact I.tuple_inj h h'
  · exact I.list_inj h h'
/-! ### enumerate -/
set_option maxHeartbeats 1000000 in
theorem meets_enum1 {v : Value} {o : Obj} {H : Heap → Prop} (B : Begins v o H) :
    Meets (Builtin.«enumerate.__new__» ⟨[.type "enumerate", v], []⟩) (fun _ R s => H s.heap ∧
      R (.ok (.ret (.ref (s.heap.push o).objs.size))) { s with heap := (s.heap.push o).push { cls := .type "enumerate", data := .fields #[.none, .bool false, .ref s.heap.objs.size, rawInt 0, .none, .none] } }) :=
  .of_wp fun prog w A R s h => by
    obtain ⟨hp, g, d, tk, os⟩ := s; obtain ⟨h1, h⟩ := h
    have hsub := sub_enumerate
    have q1 : ∀ {A' : Around} {E : Value → Shared → Prop} {Q : Value → Shared → Prop}, Q (.ref hp.objs.size) ⟨hp.push o, g, d, tk, os⟩ → wpAny (model prog w) A' (pyIter v) Q E ⟨hp, g, d, tk, os⟩ :=
      fun q => B.iter prog w _ _ ⟨hp, g, d, tk, os⟩ _ h1 q
    wp_walk using q1
    refine wpAny_stack_any fun st => wpAny_pure ?_
    split
    · rename_i c _ _ _ _ _
      cases (c == Value.type "enumerate")
      · wp_walk using q1
        exact ⟨_, rfl, h⟩
      · wp_walk using q1
        exact ⟨_, rfl, h⟩
    · wp_walk using q1
      exact ⟨_, rfl, h⟩
theorem call_enum1 {prog : Program} {w : World} {A : Around} {E : Value → Shared → Prop} {s : Shared} {v : Value} {o : Obj} {H : Heap → Prop} {Q : Value → Shared → Prop} (B : Begins v o H) (h1 : H s.heap)
    (h : ∀ h', IsEnum h' (s.heap.objs.size + 1) s.heap.objs.size 0 .none → h'.get? s.heap.objs.size = some o → h'.objs.size = s.heap.objs.size + 2 →
      (∀ b o, s.heap.get? b = some o → h'.get? b = some o) → Q (.ref (s.heap.objs.size + 1)) { s with heap := h' }) :
    wpAny (model prog w) A (call (.type "enumerate") [v]) Q E s := by
  refine callType_new F.called_enumerate (by decide) (F.typeCall_enumerate_1 _) (F.newCall_enumerate_1 _) (fun obj => F.args_object_init_2 obj _) F.entry_enumerate_new
    (meets_enum1 B) ⟨h1, ?_⟩
  have hz : (s.heap.push o).objs.size = s.heap.objs.size + 1 := Heap.size_push ..
  show _ ∧ _
  rw [hz]
  have he : IsEnum ((s.heap.push o).push { cls := .type "enumerate", data := .fields #[.none, .bool false, .ref s.heap.objs.size, rawInt 0, .none, .none] }) (s.heap.objs.size + 1) s.heap.objs.size 0 .none := by
    have := Heap.get?_push_size (s.heap.push o) (o := { cls := .type "enumerate", data := .fields #[.none, .bool false, .ref s.heap.objs.size, rawInt 0, .none, .none] }) rfl
    rw [hz] at this; exact this
  refine ⟨⟨_, he, rfl⟩, h _ he (Heap.get?_push_of_some _ (Heap.get?_push_size _ B.free)) (by rw [Heap.size_push, hz]) fun b o x => Heap.get?_push_of_some _ (Heap.get?_push_of_some _ x)⟩
theorem wpAny_pyNext_enum_endDK {prog : Program} {w : World} {A : Around} {E : Value → Shared → Prop} {s : Shared} {e it l : Addr} {i : Nat} {c : Int} {items : Array Value} {old : Value} {Q : Option Value → Shared → Prop} (hh : A.handled = none)
    (he : IsEnum s.heap e it c old) (hit : s.heap.IsTupleIter it l i) (hl : s.heap.IsTuple l items) (hx : items[i]? = none)
    (hQ : ∀ h', Heap.ExtBut it s.heap h' → Q none { s with heap := h' }) : wpAny (model prog w) A (pyNext (.ref e)) Q E s := by
  have hT : s.TypeIs (.ref e) "enumerate" := ⟨_, he, rfl⟩
  unfold pyNext
  refine wpAny_bind (wpAny_attempt (wpAny_callSpecial?_slot (name := Str.ofString "__next__") hT F.slot_enumerate_next
    (wpAny_call_entry F.slot_enumerate_next hT F.entry_enumerate_next ?_ (F.args_enumerate_next_1 _))))
  show wpAny _ _ (field (.ref e) 2 >>= _) _ _ _
  refine wpAny_bind (wpAny_field he rfl (x := .ref it) rfl ?_)
  refine wpAny_bind (wpAny_nextOf_tuple_end hh hit hl hx fun h' x he' hx' => ?_)
  obtain ⟨o, ho, hc⟩ := hx'
  refine wpAny_bind (wpAny_isInstance (T := "StopIteration") (b := true) ⟨o, ho, hc⟩ isSubtype_stop ?_)
  exact wpAny_pure (hQ _ he')
/-- a new pair at a turn -/
def ItK2 (go : Nat → Hp → Prop) (at_ : Nat → Hp → V → V → Prop) (stop : Nat → Hp → Prop) : It :=
  ⟨go, fun i H v H' => ∃ T x y, v = .ref T ∧ H T = none ∧ H' = upd H T (.tup [x, y]) ∧ at_ i H x y, stop⟩
def IteK (K : PySem.W.Frag) (k : Bool) (a : Addr) : It :=
  ItK2 (fun i H => ∃ (xs : List V) (x : V), SqK K k H a xs ∧ xs[i]? = some x) (fun i H x y => x = .int (i : Nat) ∧ ∀ xs, SqK K k H a xs → xs[i]? = some y) (fun i H => ∃ xs : List V, SqK K k H a xs ∧ xs.length ≤ i)
theorem enum_ne {h : Heap} {e it : Addr} {i : Int} {old : Value} {k : Bool} {a : Addr} {items : Array Value} (he : IsEnum h e it i old) (q : IsSq k h a items) : e ≠ a := fun z => by
  obtain ⟨o, n, e', d⟩ := sq_at q
  have he' : h.get? e = some _ := he
  rw [← z, he'] at e'
  cases e'
  cases d
theorem turn_enumK {P : Program} {w : World} {K : PySem.W.Frag} {elts : List Expr} {kk : Nat} {tpos : Pos} (k : Bool) (a e it : Addr) :
    Turn P w K (.Tuple elts kk tpos) (IteK K k a) [e, it] e (fun i h => (∃ old, IsEnum h e it ((i : Nat) : Int) old) ∧ IsSqIter k h it a i ∧ e ≠ it) where
  mem := by simp
  obj := fun i h st b hb => by
    obtain ⟨⟨old, he⟩, hi, _⟩ := st
    obtain ⟨o, fs, ho, hd⟩ := iter_at hi
    have e' : b = e ∨ b = it := by simpa using hb
    rcases e' with z | z
    · rw [z]; exact ⟨_, he, fun v q => nomatch q⟩
    · rw [z]; exact ⟨o, ho, fun v q => by rw [hd] at q; cases q⟩
  keep := fun i h h' st c => let ⟨⟨old, he⟩, hi, hne⟩ := st; ⟨⟨old, c e (by simp) _ he⟩, iter_keep hi fun o q => c it (by simp) o q, hne⟩
  item := by
    intro X hP hw hK hc i pins s σ H E I hf st hg
    subst hP hw hK
    obtain ⟨⟨old, he⟩, hit, hne⟩ := st
    obtain ⟨xs, x, hq, hx⟩ := hg
    obtain ⟨its, rv, p, hlt⟩ := inv_sq I hq
    obtain ⟨u, hu, ru⟩ := rv.get hx
    have hel : e < s.heap.objs.size := Heap.lt_size (show s.heap.get? e = some _ from he)
    have hil : it < s.heap.objs.size := by obtain ⟨_, _, q, _⟩ := iter_at hit; exact Heap.lt_size q
    have Gs := GoesN.enumFrom (elts := elts) (x1 := kk) (pos := tpos) 0 (draws_sq (prog := X.prog) (w := X.w) (A := X.A.in1) (show X.A.in1.handled = none from I.ok.hd hc) k it a (sq_ne p hit) its.toArray) e hne (by
      intro hm
      rcases List.mem_cons.mp hm with z | z
      · exact hne z
      · exact enum_ne he p (List.mem_singleton.mp z)) (by simp)
    have hil2 : i < its.toArray.size := by
      have := (List.getElem?_eq_some_iff.mp hu).1
      simpa using this
    refine Gs.goes i s _ E hil2 ⟨⟨old, by rw [Int.zero_add]; exact he⟩, hit, p⟩ fun v h' tk Y st' hk htk => ?_
    obtain ⟨T, t, y, rfl, hTn, hy, hT⟩ := Y
    obtain ⟨⟨old', he'⟩, hit', _⟩ := st'
    have ey : y = u := by
      have h3 : its.toArray[i]? = some u := by simpa using hu
      rw [hy] at h3
      exact Option.some.inj h3
    subst ey
    have new : ObjOk X.prog X.w (upd H T (.tup [.int (i : Nat), x])) h' T (.tup [.int (i : Nat), x]) :=
      ⟨by show 2 ≤ sizeLine; decide, [.int (0 + (i : Int)) t, y], .cons ⟨t, by rw [Int.zero_add]⟩ (.cons ru .nil), hT⟩
    have I1 : Inv X pins σ (upd H T (.tup [.int (i : Nat), x])) { s with heap := h', toks := tk } := I.turnedNew (ch := [e, it]) hk hf hTn new
    refine ⟨.ref T, _, I1, rfl, ⟨T, _, x, rfl, I.hok.fresh hTn, rfl, rfl, fun ys hy => by rw [inv_inj I hy hq]; exact hx⟩, ⟨⟨old', ?_⟩, hit', hne⟩, fun b hb => ?_⟩
    · rw [Int.zero_add] at he'
      exact he'
    · have hb' : b < s.heap.objs.size := by
        have e' : b = e ∨ b = it := by simpa using hb
        rcases e' with z | z
        · rw [z]; exact hel
        · rw [z]; exact hil
      rw [upd_ne (Nat.ne_of_lt (Nat.lt_of_lt_of_le hb' hTn))]
      exact (hf b hb).1
  done := by
    intro X hP hw hK hc i pins s σ H E I hf st hg
    subst hP hw hK
    obtain ⟨⟨old, he⟩, hit, hne⟩ := st
    obtain ⟨xs, hq, hx⟩ := hg
    obtain ⟨its, rv, p, hlt⟩ := inv_sq I hq
    have hl := rv.length
    cases k
    · refine wpAny_pyNext_enum_endDK (I.ok.hd hc) he hit p (by simp; omega) fun h' eb => ⟨rfl, ?_⟩
      obtain ⟨f0, f1, f2, f3, f4, f5⟩ := hf it (by simp)
      exact I.turned (t' := s.toks) (fun b o hb q => eb b o hb q) f0 f1 f3 f4 f5
    · refine wpAny_pyNext_enum_end (I.ok.hd hc) he hit p (by simp; omega) fun h' eb => ⟨rfl, ?_⟩
      obtain ⟨f0, f1, f2, f3, f4, f5⟩ := hf it (by simp)
      exact I.turned (t' := s.toks) (fun b o hb q => eb b o hb q) f0 f1 f3 f4 f5
  self := fun A i s Q E st h => let ⟨⟨_, he⟩, _⟩ := st; wpAny_pyIter_enum he h
/-! ### what is walked -/
def SqA (K : PySem.W.Frag) (H : Hp) (a : Addr) (xs : List V) : Prop := SqL K H a xs ∨ SqT K H a xs
theorem SqA.same {K : PySem.W.Frag} {G H : Hp} {a : Addr} {xs : List V} (h : SqA K G a xs) (v : Same G H) : SqA K H a xs := h.imp (fun z => SqL.same z v) (fun z => SqT.same z v)
theorem SqA.k {K : PySem.W.Frag} {H : Hp} {a : Addr} {xs : List V} (h : SqA K H a xs) : ∃ k, SqK K k H a xs := by
  rcases h with h | h
  · exact ⟨true, h⟩
  · exact ⟨false, h⟩
def iSq (K : PySem.W.Frag) (tl : TE) : TI := fun σ H R => tl σ H fun x H1 => ∃ a xs G, x = .ref a ∧ SqA K G a xs ∧ Same G H1 ∧ ∀ J, Walk J xs.length (Same G) (YAt xs) → R J H1
theorem pi_sq {X : Cx} {tg : Expr} {l : Expr} {tl : TE} (hl : PE X l tl) : PI X tg l (iSq X.K tl) := by
  refine ⟨fun pins s σ H R I h => ?_⟩
  refine thn (hl.run pins s σ H _ I h) fun v s1 ⟨x, H1, I1, r1, q1⟩ => ?_
  obtain ⟨a, xs, G, e, hq, hv, q⟩ := q1
  subst e
  cases r1
  rcases hq with hq | hq
  · obtain ⟨its, rv, p, hz⟩ := I1.list (SqL.same hq hv)
    refine wpAny_pyIter_list p.isList ?_
    refine ⟨s1.heap.objs.size, [s1.heap.objs.size], _, _, H1, rfl, I1.kept (t' := s1.toks) fun b o e => Heap.get?_push_of_some _ e, turn_list a _, ⟨_, Heap.get?_push_size _ rfl, rfl, rfl⟩, fun b hb => ?_, q _ (walk_list.mono (fun H x => SqL.same hq x) fun _ _ _ _ _ _ y => y)⟩
    have e : b = s1.heap.objs.size := by simpa using hb
    subst e
    exact I1.fpOk (Nat.le_refl _) (I1.hok.fresh (Nat.le_refl _))
  · obtain ⟨its, rv, p, hz⟩ := I1.tuple (SqT.same hq hv)
    refine wpAny_pyIter_tuple (show s1.heap.IsTuple a its.toArray from p) ?_
    refine ⟨s1.heap.objs.size, [s1.heap.objs.size], _, _, H1, rfl, I1.kept (t' := s1.toks) fun b o e => Heap.get?_push_of_some _ e, turn_tuple a _, ⟨_, Heap.get?_push_size _ rfl, rfl, rfl⟩, fun b hb => ?_, q _ (walk_tup.mono (fun H x => SqT.same hq x) fun _ _ _ _ _ _ y => y)⟩
    have e : b = s1.heap.objs.size := by simpa using hb
    subst e
    exact I1.fpOk (Nat.le_refl _) (I1.hok.fresh (Nat.le_refl _))
theorem walk_enumK {K : PySem.W.Frag} {k : Bool} {a : Addr} {xs : List V} : Walk (IteK K k a) xs.length (fun H => SqK K k H a xs) (YPair (fun i => some (.int (i : Nat))) (fun i => xs[i]?)) := by
  refine ⟨fun i _ hi q => ⟨xs, xs[i], q, by simp [hi]⟩, fun _ q => ⟨xs, q, Nat.le_refl _⟩, fun i H v H' _ q y => ?_⟩
  obtain ⟨T, x, y, h1, h2, h3, h4, h5⟩ := y
  exact ⟨T, x, y, h1, h2, h3, by rw [h4], h5 xs q⟩
def iEnumQ (K : PySem.W.Frag) (ta : TA) : TI := fun σ H R => ta σ H fun vs H1 => ∃ a xs G, vs = [.ref a] ∧ SqA K G a xs ∧ Same G H1 ∧ ∀ J, Walk J xs.length (Same G) (YPair (fun i => some (.int (i : Nat))) (fun i => xs[i]?)) → R J H1
theorem pi_enumQ {X : Cx} {e : Expr} {ta : TA} {p pos tpos : Pos} {elts : List Expr} {kk : Nat} (hg : Gl X "enumerate") (hm : X.mg "enumerate" = none) (ha : PA X [e] ta) (hs : starEach [e] X.env = [(false, eval e X.env)] := by rfl) :
    PI X (.Tuple elts kk tpos) (.Call (.Name "enumerate" p) [e] [] pos) (iEnumQ X.K ta) := by
  refine ⟨fun pins s σ H R I h => ?_⟩
  refine Call_ (ld_blt I hg hm boot_enumerate (PyProof.Rows.callWith_type1 (thn (ha.run pos pins s σ H _ I h) fun us s1 ⟨vs, H1, I1, r1, q1⟩ => ?_) hs rfl))
  obtain ⟨a, xs, G, ex, hq, hv, q⟩ := q1
  subst ex
  cases r1 with
  | cons r rr =>
    cases rr
    cases r
    obtain ⟨k, hk⟩ := hq.k
    obtain ⟨its, rv, p', hz⟩ := inv_sq I1 (SqK.same hk hv)
    refine call_enum1 (begins_sq k a its.toArray) p' fun h' he hit hsz hk' => wpAny_pyIter_enum he ?_
    have I2 : Inv X pins σ H1 { s1 with heap := h' } := I1.kept (t' := s1.toks) hk'
    refine ⟨s1.heap.objs.size + 1, [s1.heap.objs.size + 1, s1.heap.objs.size], _, _, H1, rfl, I2, turn_enumK k a (s1.heap.objs.size + 1) s1.heap.objs.size, ⟨⟨.none, he⟩, iter_new hit, Nat.succ_ne_self _⟩, fun b hb => ?_, q _ (walk_enumK.mono (fun H x => SqK.same hk x) fun _ _ _ _ _ _ y => y)⟩
    have e' : b = s1.heap.objs.size + 1 ∨ b = s1.heap.objs.size := by simpa using hb
    have hle : s1.heap.objs.size ≤ b := by
      rcases e' with z | z
      · rw [z]; exact Nat.le_add_right _ _
      · rw [z]; exact Nat.le_refl _
    exact I1.fpOk hle (I1.hok.fresh hle)
/-! ### zip of two -/
def ItzK (K : PySem.W.Frag) (k l : Bool) (a b : Addr) : It :=
  ItK2 (fun i H => ∃ (xs ys : List V) (x y : V), SqK K k H a xs ∧ SqK K l H b ys ∧ xs[i]? = some x ∧ ys[i]? = some y) (fun i H x y => (∀ xs, SqK K k H a xs → xs[i]? = some x) ∧ ∀ ys, SqK K l H b ys → ys[i]? = some y)
    (fun i H => ∃ xs ys : List V, SqK K k H a xs ∧ SqK K l H b ys ∧ i = min xs.length ys.length)
structure ZA (z TI TO i1 i2 : Addr) : Prop where
  a1 : TI ≠ z
  a2 : TO ≠ z
  a3 : TI ≠ TO
  a4 : TI ≠ i1
  a5 : TI ≠ i2
  a6 : z ≠ i1
  a7 : z ≠ i2
  a8 : TO ≠ i1
  a9 : TO ≠ i2
  aa : i1 ≠ i2
theorem zip_ne {h : Heap} {z TI TO x : Addr} {o : Option Obj} {k : Bool} {a : Addr} {items : Array Value} {w : Value} (he : IsZip h z TI TO w) (q : IsSq k h a items) : z ≠ a := fun y => by
  obtain ⟨o, n, e', d⟩ := sq_at q
  have he' : h.get? z = some _ := he
  rw [← y, he'] at e'
  cases e'
  cases d
theorem zsep {h : Heap} {z TI TO i1 i2 a b : Addr} {i : Nat} {k l : Bool} {it1 it2 : Array Value} {w x y : Value} (Z : ZA z TI TO i1 i2) (hz : IsZip h z TI TO w) (hTO : IsTupOf2 h TO x y) (h1 : IsSqIter k h i1 a i) (h2 : IsSqIter l h i2 b i) (q1 : IsSq k h a it1) (q2 : IsSq l h b it2) (na : TO ≠ a) (nb : TO ≠ b) :
    ZipSep2 z TI TO i1 i2 [i1, a] [i2, b] := by
  have z1 := zip_ne (x := a) (o := none) hz q1
  have z2 := zip_ne (x := a) (o := none) hz q2
  have n1 := sq_ne q1 h1
  have n2 := sq_ne q1 h2
  have n3 := sq_ne q2 h1
  have n4 := sq_ne q2 h2
  refine { TIz := Z.a1, TOz := Z.a2, TITO := Z.a3, TIi1 := Z.a4, mem1 := by simp, zf1 := ?_, Tf1 := ?_, TIi2 := Z.a5, mem2 := by simp, zf2 := ?_, Tf2 := ?_, sep1_2 := ?_, sep2_1 := ?_ }
  · simp [Z.a6, z1]
  · simp [Z.a8, na]
  · simp [Z.a7, z2]
  · simp [Z.a9, nb]
  · simp [Z.aa, n3.symm]
  · simp [Z.aa.symm, n2.symm]
theorem turn_zipK {P : Program} {w : World} {K : PySem.W.Frag} {elts : List Expr} {kk : Nat} {tpos : Pos} (k l : Bool) (a b z TI TO i1 i2 : Addr) (Z : ZA z TI TO i1 i2) (na : TO ≠ a) (nb : TO ≠ b) :
    Turn P w K (.Tuple elts kk tpos) (ItzK K k l a b) [z, TI, TO, i1, i2] z (fun i h => IsZip h z TI TO .none ∧ IsTupOf2 h TI (.ref i1) (.ref i2) ∧ (∃ x y, IsTupOf2 h TO x y) ∧ IsSqIter k h i1 a i ∧ IsSqIter l h i2 b i) where
  mem := by simp
  obj := fun i h st c hc => by
    obtain ⟨hz, hTI, ⟨x, y, hTO⟩, h1, h2⟩ := st
    obtain ⟨o1, f1, e1, d1⟩ := iter_at h1
    obtain ⟨o2, f2, e2, d2⟩ := iter_at h2
    have e' : c = z ∨ c = TI ∨ c = TO ∨ c = i1 ∨ c = i2 := by simpa using hc
    rcases e' with q | q | q | q | q
    · rw [q]; exact ⟨_, hz, fun v q => nomatch q⟩
    · rw [q]; exact ⟨_, hTI, fun v q => nomatch q⟩
    · rw [q]; exact ⟨_, hTO, fun v q => nomatch q⟩
    · rw [q]; exact ⟨o1, e1, fun v q => by rw [d1] at q; cases q⟩
    · rw [q]; exact ⟨o2, e2, fun v q => by rw [d2] at q; cases q⟩
  keep := fun i h h' st c => by
    obtain ⟨hz, hTI, ⟨x, y, hTO⟩, h1, h2⟩ := st
    exact ⟨c z (by simp) _ hz, c TI (by simp) _ hTI, ⟨x, y, c TO (by simp) _ hTO⟩, iter_keep h1 fun o q => c i1 (by simp) o q, iter_keep h2 fun o q => c i2 (by simp) o q⟩
  item := by
    intro X hP hw hK hc i pins s σ H E I hf st hg
    subst hP hw hK
    obtain ⟨hz, hTI, ⟨x0, y0, hTO⟩, h1, h2⟩ := st
    obtain ⟨xs, ys, x, y, hqx, hqy, hx, hy⟩ := hg
    obtain ⟨its, rv, p, _⟩ := inv_sq I hqx
    obtain ⟨its2, rv2, p2, _⟩ := inv_sq I hqy
    obtain ⟨u, hu, ru⟩ := rv.get hx
    obtain ⟨u2, hu2, ru2⟩ := rv2.get hy
    have hh : X.A.in1.handled = none := I.ok.hd hc
    have Gs := GoesN.zip2 (A := X.A) (elts := elts) (x1 := kk) (pos := tpos) (zsep Z hz hTO h1 h2 p p2 na nb) (draws_sq (prog := X.prog) (w := X.w) hh k i1 a (sq_ne p h1) its.toArray) (draws_sq (prog := X.prog) (w := X.w) hh l i2 b (sq_ne p2 h2) its2.toArray)
    have hi1 : i < its.toArray.size := by have := (List.getElem?_eq_some_iff.mp hu).1; simpa using this
    have hi2 : i < its2.toArray.size := by have := (List.getElem?_eq_some_iff.mp hu2).1; simpa using this
    refine Gs.goes i s _ E (by omega) ⟨hz, hTI, ⟨x0, y0, hTO⟩, ⟨h1, p⟩, ⟨h2, p2⟩⟩ fun v h' tk Y st' hk htk => ?_
    obtain ⟨T, v1, v2, rfl, hTn, e1, e2, hT⟩ := Y
    obtain ⟨hz', hTI', hTO', ⟨h1', _⟩, ⟨h2', _⟩⟩ := st'
    have q1 : v1 = u := by
      have h3 : its.toArray[i]? = some u := by simpa using hu
      rw [e1] at h3
      exact Option.some.inj h3
    have q2 : v2 = u2 := by
      have h3 : its2.toArray[i]? = some u2 := by simpa using hu2
      rw [e2] at h3
      exact Option.some.inj h3
    subst q1 q2
    have new : ObjOk X.prog X.w (upd H T (.tup [x, y])) h' T (.tup [x, y]) := ⟨by show 2 ≤ sizeLine; decide, [v1, v2], .cons ru (.cons ru2 .nil), hT⟩
    have I1 : Inv X pins σ (upd H T (.tup [x, y])) { s with heap := h', toks := tk } := I.turnedNew (ch := [z, TI, TO, i1, i2]) (fun c o hb q => hk c o (fun m => hb (by
      have e' : c = z ∨ c = TO ∨ c = i1 ∨ c = i2 := by simpa using m
      rcases e' with q | q | q | q <;> simp [q])) q) hf hTn new
    refine ⟨.ref T, _, I1, rfl, ⟨T, x, y, rfl, I.hok.fresh hTn, rfl, fun ys hy => by rw [inv_inj I hy hqx]; exact hx, fun zs hz => by rw [inv_inj I hz hqy]; exact hy⟩, ⟨hz', hTI', hTO', h1', h2'⟩, fun c hcm => ?_⟩
    have hlt : c < s.heap.objs.size := by
      have e' : c = z ∨ c = TI ∨ c = TO ∨ c = i1 ∨ c = i2 := by simpa using hcm
      rcases e' with q | q | q | q | q
      · rw [q]; exact Heap.lt_size (show s.heap.get? z = some _ from hz)
      · rw [q]; exact Heap.lt_size hTI
      · rw [q]; exact Heap.lt_size hTO
      · rw [q]; obtain ⟨_, _, e1, _⟩ := iter_at h1; exact Heap.lt_size e1
      · rw [q]; obtain ⟨_, _, e2, _⟩ := iter_at h2; exact Heap.lt_size e2
    rw [upd_ne (Nat.ne_of_lt (Nat.lt_of_lt_of_le hlt hTn))]
    exact (hf c hcm).1
  done := by
    intro X hP hw hK hc i pins s σ H E I hf st hg
    subst hP hw hK
    obtain ⟨hz, hTI, ⟨x0, y0, hTO⟩, h1, h2⟩ := st
    obtain ⟨xs, ys, hqx, hqy, hend⟩ := hg
    obtain ⟨its, rv, p, _⟩ := inv_sq I hqx
    obtain ⟨its2, rv2, p2, _⟩ := inv_sq I hqy
    have l1 := rv.length
    have l2 := rv2.length
    have hh : X.A.in1.handled = none := I.ok.hd hc
    have Gs := GoesN.zip2 (A := X.A) (elts := elts) (x1 := kk) (pos := tpos) (zsep Z hz hTO h1 h2 p p2 na nb) (draws_sq (prog := X.prog) (w := X.w) hh k i1 a (sq_ne p h1) its.toArray) (draws_sq (prog := X.prog) (w := X.w) hh l i2 b (sq_ne p2 h2) its2.toArray)
    have ei : min its.toArray.size its2.toArray.size = i := by simp; omega
    rw [ei] at Gs
    refine wpAny_mono (Gs.stops s (fun s1 => Inv X pins σ H s1) E ⟨hz, hTI, ⟨x0, y0, hTO⟩, ⟨h1, p⟩, ⟨h2, p2⟩⟩ fun h' tk hk htk => I.turnedL (ch := [z, TI, TO, i1, i2]) (fun c o hb q => hk c o (fun m => hb (by
      have e' : c = z ∨ c = TO ∨ c = i1 ∨ c = i2 := by simpa using m
      rcases e' with q | q | q | q <;> simp [q])) q) hf) (fun _ _ z => z) fun _ _ z => z
  self := fun A i s Q E st h => wpAny_pyIter_zip st.1 h
theorem walk_zipK {K : PySem.W.Frag} {k l : Bool} {a b : Addr} {xs ys : List V} : Walk (ItzK K k l a b) (min xs.length ys.length) (fun H => SqK K k H a xs ∧ SqK K l H b ys) (YPair (fun i => xs[i]?) (fun i => ys[i]?)) := by
  refine ⟨fun i _ hi q => ?_, fun _ q => ⟨xs, ys, q.1, q.2, rfl⟩, fun i H v H' _ q y => ?_⟩
  · have h1 : i < xs.length := by omega
    have h2 : i < ys.length := by omega
    exact ⟨xs, ys, xs[i], ys[i], q.1, q.2, by simp [h1], by simp [h2]⟩
  · obtain ⟨T, x, y, h1, h2, h3, h4, h5⟩ := y
    exact ⟨T, x, y, h1, h2, h3, h4 xs q.1, h5 ys q.2⟩
def iZipQ (K : PySem.W.Frag) (ta : TA) : TI := fun σ H R => ta σ H fun vs H1 => ∃ a b xs ys G, vs = [.ref a, .ref b] ∧ SqA K G a xs ∧ SqA K G b ys ∧ Same G H1 ∧ ∀ J, Walk J (min xs.length ys.length) (Same G) (YPair (fun i => xs[i]?) (fun i => ys[i]?)) → R J H1
theorem pi_zipQ {X : Cx} {e e2 : Expr} {ta : TA} {p pos tpos : Pos} {elts : List Expr} {kk : Nat} (hg : Gl X "zip") (hm : X.mg "zip" = none) (ha : PA X [e, e2] ta)
    (hs : starEach [e, e2] X.env = (false, eval e X.env) :: starEach [e2] X.env := by rfl) (hpl : (backTo pos (starEach [e2] X.env)).any (·.1) = false := by rfl) :
    PI X (.Tuple elts kk tpos) (.Call (.Name "zip" p) [e, e2] [] pos) (iZipQ X.K ta) := by
  refine ⟨fun pins s σ H R I h => ?_⟩
  refine Call_ (ld_blt I hg hm PyProof.Rows.boot_zip (PyProof.Rows.callWith_type1 (thn (ha.run pos pins s σ H _ I h) fun us s1 ⟨vs, H1, I1, r1, q1⟩ => ?_) hs hpl))
  obtain ⟨a, b, xs, ys, G, ex, hqx, hqy, hv, q⟩ := q1
  subst ex
  cases r1 with
  | cons r rr =>
    cases rr with
    | cons r' rr =>
      cases rr
      cases r
      cases r'
      obtain ⟨k, hk⟩ := hqx.k
      obtain ⟨l, hl⟩ := hqy.k
      obtain ⟨its, rv, p1, la⟩ := inv_sq I1 (SqK.same hk hv)
      obtain ⟨its2, rv2, p2, lb⟩ := inv_sq I1 (SqK.same hl hv)
      refine zip_begins2 (begins_sq k a its.toArray) (begins_sq l b its2.toArray) p1 p2 fun h' hz hTI hTO h1 h2 hsz hk' => wpAny_pyIter_zip hz ?_
      have I2 : Inv X pins σ H1 { s1 with heap := h' } := I1.kept (t' := s1.toks) hk'
      have la' : (a : Nat) < s1.heap.objs.size := la
      have lb' : (b : Nat) < s1.heap.objs.size := lb
      refine ⟨s1.heap.objs.size + 4, [s1.heap.objs.size + 4, s1.heap.objs.size + 2, s1.heap.objs.size + 3, s1.heap.objs.size, s1.heap.objs.size + 1], _, _, H1, rfl, I2,
        turn_zipK k l a b (s1.heap.objs.size + 4) (s1.heap.objs.size + 2) (s1.heap.objs.size + 3) s1.heap.objs.size (s1.heap.objs.size + 1)
          ⟨show (s1.heap.objs.size + 2 : Nat) ≠ s1.heap.objs.size + 4 by omega, show (s1.heap.objs.size + 3 : Nat) ≠ s1.heap.objs.size + 4 by omega, show (s1.heap.objs.size + 2 : Nat) ≠ s1.heap.objs.size + 3 by omega, show (s1.heap.objs.size + 2 : Nat) ≠ s1.heap.objs.size by omega,
            show (s1.heap.objs.size + 2 : Nat) ≠ s1.heap.objs.size + 1 by omega, show (s1.heap.objs.size + 4 : Nat) ≠ s1.heap.objs.size by omega, show (s1.heap.objs.size + 4 : Nat) ≠ s1.heap.objs.size + 1 by omega, show (s1.heap.objs.size + 3 : Nat) ≠ s1.heap.objs.size by omega,
            show (s1.heap.objs.size + 3 : Nat) ≠ s1.heap.objs.size + 1 by omega, show (s1.heap.objs.size : Nat) ≠ s1.heap.objs.size + 1 by omega⟩ (Nat.ne_of_gt (Nat.lt_of_lt_of_le la (Nat.le_add_right _ 3))) (Nat.ne_of_gt (Nat.lt_of_lt_of_le lb (Nat.le_add_right _ 3))),
        ⟨hz, hTI, ⟨_, _, hTO⟩, iter_new h1, iter_new h2⟩, fun c hcm => ?_, q _ (walk_zipK.mono (fun H x => ⟨SqK.same hk x, SqK.same hl x⟩) fun _ _ _ _ _ _ y => y)⟩
      have e' : c = s1.heap.objs.size + 4 ∨ c = s1.heap.objs.size + 2 ∨ c = s1.heap.objs.size + 3 ∨ c = s1.heap.objs.size ∨ c = s1.heap.objs.size + 1 := by simpa using hcm
      have hle : s1.heap.objs.size ≤ c := by
        rcases e' with z | z | z | z | z
        · rw [z]; exact Nat.le_add_right _ _
        · rw [z]; exact Nat.le_add_right _ _
        · rw [z]; exact Nat.le_add_right _ _
        · rw [z]; exact Nat.le_refl _
        · rw [z]; exact Nat.le_add_right _ _
      exact I1.fpOk hle (I1.hok.fresh hle)
end XR
set_option Elab.async false
set_option linter.all false
set_option maxRecDepth 100000
set_option maxHeartbeats 4000000
/-! errors of own classes without fields: made by X(), asked when caught -/
namespace XR
open PySem PySem.Spec PyProof.Rows L2
section
variable {X : Cx} {C : Addr} {bmB : List Value} {B newId initId : String}
theorem pmk_own0 {x : Str} {p pos : Pos} (F : ExcBaseFacts B newId initId bmB) (q : PySem.W.excIn X.K C bmB newId = true) (gC : X.mg x = some (.ref C)) (kC : PySem.W.keepIn X.K (.ref C) = true) (r : Raises X (.ref C)) (hg : Gl X x)
    (hdb : (x == ("__debug__" : Str)) = false := by decide) : PMk X (.Call (.Name x p) [] [] pos) (fun _ H Q => Q (.ref C) none H) := by
  intro pins s σ H Q I h
  refine wpAny_Call_Name_kw (ld_glob I hg gC ?_ hdb)
  refine PySem.W.callWith_K0 I.kIn kC ?_
  show wpAny _ _ (call (.ref C) []) _ _ _
  obtain ⟨bm, N, nm, qn, bs, hdct, sn, sub, ab, col, dd, k0, k1, k2, k3, k5, mN, hC, hN, hni, T⟩ := exc_obj I.kIn q
  refine wpAny_call_exc_subT F T hC hN hni (fun h' e hm => ?_) (by show 0 ≤ sizeLine; exact Nat.zero_le _)
  exact mk_of I hm r h (I.hok.gone hm.new)
end
section
variable {X : Cx} {a : Addr} {oe : Obj} {cls : Value} {d : Option Addr}
theorem pinned_none {pins : List (Addr × Obj)} {s : Shared} {σ : L2.St} {H : Hp} {D : Addr}
    (hp : (a, oe) ∈ X.pn) (hz : Zc (.ref D) none oe) (hf : ∃ vs, oe.data = .fields vs) (I : Inv X pins σ H s) : PySem.W.InstAt s.heap a oe D none := by
  have at_ := (I.pin (a, oe) (List.mem_append_left _ hp)).1
  obtain ⟨vs, hv⟩ := hf
  obtain ⟨oc, od, oda, osl⟩ := oe
  obtain ⟨h1, h2⟩ := hz
  dsimp only at h1 h2 hv
  subst h1 h2 hv
  exact ⟨at_, rfl, rfl, trivial⟩
def rIsN (K : PySem.W.Frag) (cls : Value) (d : Option Addr) (a : Addr) : List V → Hp → VK → Prop := fun xs H Q =>
  ∃ (D : Addr) (c : V) (cv : Value) (b : Bool), cls = .ref D ∧ d = none ∧ Asks K D ∧ xs = [.ref a, c] ∧ ClsV c cv ∧ PySem.W.kitOne K (.ref D) cv = some b ∧ Q (.bl b) H
def rIsNT (K : PySem.W.Frag) (cls : Value) (d : Option Addr) (a : Addr) : List V → Hp → VK → Prop := fun xs H Q =>
  ∃ (D tp : Addr) (cs : List V) (us : List Value) (b : Bool), cls = .ref D ∧ d = none ∧ Asks K D ∧ xs = [.ref a, .ref tp] ∧ H tp = some (.tup cs) ∧ Paired ClsV cs us ∧ PySem.W.kitAny K (.ref D) us = some b ∧ Q (.bl b) H
theorem call_isN (hp : (a, oe) ∈ X.pn) (hz : Zc cls d oe) (hf : ∃ vs, oe.data = .fields vs) : CallR X (.builtin "isinstance") (rIsN X.K cls d a) := by
  intro pins s σ H xs us Q I r h
  obtain ⟨D, c, cv, b, rfl, rfl, as, rfl, kc, ek, q⟩ := h
  obtain ⟨u1, u2, rfl, r1, r2⟩ := vals2 r
  obtain rfl : u1 = Value.ref a := r1
  obtain rfl := kc.eq r2
  have J := pinned_none hp hz hf I
  exact PySem.W.kia_one (PySem.W.handS_kitx_exc as.hg as.hk as.hs as.hd as.ha as.hn as.ht as.hm) I.kIn J ek (fun z => nomatch z) fun tk => ⟨.bl b, H, I.tok tk, rfl, q⟩
theorem call_isNT (hp : (a, oe) ∈ X.pn) (hz : Zc cls d oe) (hf : ∃ vs, oe.data = .fields vs) : CallR X (.builtin "isinstance") (rIsNT X.K cls d a) := by
  intro pins s σ H xs us Q I r h
  obtain ⟨D, tp, cs, ws, b, rfl, rfl, as, rfl, hT, kc, ek, q⟩ := h
  obtain ⟨u1, u2, rfl, r1, r2⟩ := vals2 r
  obtain rfl : u1 = Value.ref a := r1
  obtain rfl : u2 = Value.ref tp := r2
  have J := pinned_none hp hz hf I
  have okT : ObjOk X.prog X.w H s.heap tp (.tup cs) := I.hok tp _ hT
  obtain ⟨_, its, rv, ⟨oc, od2, dt, sl⟩, h1, h2, n, h3⟩ := okT
  dsimp only at h2 h3
  subst h2 h3
  obtain rfl := ClsV.all kc rv
  exact PySem.W.kia_tup (PySem.W.handS_kitx_exc as.hg as.hk as.hs as.hd as.ha as.hn as.ht as.hm) I.kIn J h1 ek (fun z => nomatch z) fun tk => ⟨.bl b, H, I.tok tk, rfl, q⟩
/-- with fields or without -/
def rIsA (K : PySem.W.Frag) (cls : Value) (d : Option Addr) (a : Addr) : List V → Hp → VK → Prop := fun xs H Q => rIsP K cls d a xs H Q ∨ rIsN K cls d a xs H Q
def rIsAT (K : PySem.W.Frag) (cls : Value) (d : Option Addr) (a : Addr) : List V → Hp → VK → Prop := fun xs H Q => rIsPT K cls d a xs H Q ∨ rIsNT K cls d a xs H Q
theorem call_isA (hp : (a, oe) ∈ X.pn) (hz : Zc cls d oe) (hf : ∃ vs, oe.data = .fields vs) : CallR X (.builtin "isinstance") (rIsA X.K cls d a) := by
  intro pins s σ H xs us Q I r h
  rcases h with h | h
  · exact call_isP hp hz hf pins s σ H xs us Q I r h
  · exact call_isN hp hz hf pins s σ H xs us Q I r h
theorem call_isAT (hp : (a, oe) ∈ X.pn) (hz : Zc cls d oe) (hf : ∃ vs, oe.data = .fields vs) : CallR X (.builtin "isinstance") (rIsAT X.K cls d a) := by
  intro pins s σ H xs us Q I r h
  rcases h with h | h
  · exact call_isPT hp hz hf pins s σ H xs us Q I r h
  · exact call_isNT hp hz hf pins s σ H xs us Q I r h
end
section
variable {X : Cx} {a b : Addr} {oe : Obj} {cls : Value} {d : Option Addr} {pn : List (Addr × Obj)}
theorem call_isAs (hz : Zc cls d oe) (hf : ∃ vs, oe.data = .fields vs) : CallR (X.suite b ((a, oe) :: pn)) (.builtin "isinstance") (rIsA X.K cls d a) := call_isA List.mem_cons_self hz hf
theorem call_isATs (hz : Zc cls d oe) (hf : ∃ vs, oe.data = .fields vs) : CallR (X.suite b ((a, oe) :: pn)) (.builtin "isinstance") (rIsAT X.K cls d a) := call_isAT List.mem_cons_self hz hf
end
/-! ### min and max of a list or a tuple of ints -/
section
variable {prog : Program} {w : World} {A : Around} {E : Value → Shared → Prop} {s : Shared} {l : Addr} {xs : Array (Int × Tok)}
theorem iter_intTup {Q : Value → Shared → Prop} (hl : s.heap.IsTuple l (intItems xs))
    (h : ∀ s₂ : Shared, s₂ = { s with heap := s.heap.push { cls := .type "tuple_iterator", data := .fields #[.ref l, .int 0 0] } } →
      (s₂.heap.IsTupleIter s.heap.objs.size l 0 ∧ s₂.heap.IsTuple l (intItems xs)) → (∀ b ∈ [s.heap.objs.size, l], b < s₂.heap.objs.size) → l ≠ s.heap.objs.size → Q (.ref s.heap.objs.size) s₂) :
    wpAny (model prog w) A (pyIter (.ref l)) Q E s := by
  have hlt : l < s.heap.objs.size := by obtain ⟨_, e, _⟩ := hl; exact Heap.lt_size e
  refine wpAny_pyIter_tuple hl (h _ rfl ⟨⟨_, Heap.get?_push_size _ rfl, rfl, rfl⟩, ?_⟩ (fun b hb => ?_) (Nat.ne_of_lt hlt))
  · obtain ⟨o, e, r⟩ := hl
    exact ⟨o, Heap.get?_push_of_some _ e, r⟩
  · show b < (s.heap.push _).objs.size
    rw [Heap.size_push]
    rcases List.mem_cons.mp hb with rfl | hb
    · exact Nat.lt_succ_self _
    · rcases List.mem_cons.mp hb with rfl | hb
      · exact Nat.lt_succ_of_lt hlt
      · cases hb
theorem old_keptT {h' : Heap} (hk : ∀ b o, b ∉ [s.heap.objs.size] → (s.heap.push { cls := .type "tuple_iterator", data := .fields #[.ref l, .int 0 0] }).get? b = some o → h'.get? b = some o) :
    ∀ b o, s.heap.get? b = some o → h'.get? b = some o := fun b o e => by
  refine hk b o (fun hm => ?_) (Heap.get?_push_of_some _ e)
  rcases List.mem_cons.mp hm with e1 | hm
  · exact absurd (e1 ▸ Heap.lt_size e) (Nat.lt_irrefl _)
  · cases hm
theorem max_intTup {Q : Value → Shared → Prop} (hh : A.handled = none) (hl : s.heap.IsTuple l (intItems xs)) (hne : 0 < xs.size)
    (h : ∀ v h' tk, (intItems xs)[argBest (fun i j => decide (numAt xs i > numAt xs j)) (xs.size - 1)]? = some v → (∀ b o, s.heap.get? b = some o → h'.get? b = some o) → Q v { s with heap := h', toks := tk }) :
    wpAny (model prog w) A (call (.builtin "max") [.ref l]) Q E s := by
  refine call_max_walk (iter_intTup hl fun s₂ e st hfp hlI => ?_)
  subst e
  refine ⟨_, _, _, _, _, _, _, rfl, Walks.tuple (A := A.in1) hh _ l hlI (intItems xs), st, hfp, by simpa [intItems] using hne, CmpOf.ints_gt (numAt xs) (fun _ _ => intItems_at), fun v h' tk hP hk => ?_⟩
  exact h v h' tk (by simpa [intItems] using hP) (old_keptT hk)
theorem min_intTup {Q : Value → Shared → Prop} (hh : A.handled = none) (hl : s.heap.IsTuple l (intItems xs)) (hne : 0 < xs.size)
    (h : ∀ v h' tk, (intItems xs)[argBest (fun i j => decide (numAt xs i < numAt xs j)) (xs.size - 1)]? = some v → (∀ b o, s.heap.get? b = some o → h'.get? b = some o) → Q v { s with heap := h', toks := tk }) :
    wpAny (model prog w) A (call (.builtin "min") [.ref l]) Q E s := by
  refine call_min_walk (iter_intTup hl fun s₂ e st hfp hlI => ?_)
  subst e
  refine ⟨_, _, _, _, _, _, _, rfl, Walks.tuple (A := A.in1) hh _ l hlI (intItems xs), st, hfp, by simpa [intItems] using hne, CmpOf.ints_lt (numAt xs) (fun _ _ => intItems_at), fun v h' tk hP hk => ?_⟩
  exact h v h' tk (by simpa [intItems] using hP) (old_keptT hk)
end
section
variable {prog : Program} {w : World} {A : Around} {E : Value → Shared → Prop} {s : Shared} {l : Addr} {its : List Value} {ns : List Int} {Q : Value → Shared → Prop}
theorem max_rawT (hh : A.handled = none) (hl : s.heap.IsTuple l its.toArray) (hi : IntsAre its ns) (hne : 0 < ns.length)
    (h : ∀ h' tk M t', (∀ b o, s.heap.get? b = some o → h'.get? b = some o) → M ∈ ns → (∀ a, a ∈ ns → a ≤ M) → Q (.int M t') { s with heap := h', toks := tk }) : wpAny (model prog w) A (call (.builtin "max") [.ref l]) Q E s := by
  obtain ⟨xs, e⟩ := hi.allInts.items
  have hn : numsOf (intItems xs).toList = ns := by rw [← e]; exact hi.numsOf
  rw [nums_intItems] at hn
  subst hn
  rw [e] at hl
  have hsz : 0 < xs.size := by simpa using hne
  refine max_intTup hh hl hsz fun v h' tk hv hk => ?_
  obtain ⟨t, rfl⟩ := intItems_at hv
  obtain ⟨h1, h2⟩ := argBest_gt (numAt xs) (xs.size - 1)
  refine h h' tk _ t hk ?_ fun a ha => ?_
  · rw [numAt_eq]; exact PySem.getD_mem (by rw [List.length_map, Array.length_toList]; omega)
  · obtain ⟨j, hj, rfl⟩ := mem_getD ha
    rw [List.length_map, Array.length_toList] at hj
    rw [← numAt_eq]; exact h2 j (by omega)
theorem min_rawT (hh : A.handled = none) (hl : s.heap.IsTuple l its.toArray) (hi : IntsAre its ns) (hne : 0 < ns.length)
    (h : ∀ h' tk M t', (∀ b o, s.heap.get? b = some o → h'.get? b = some o) → M ∈ ns → (∀ a, a ∈ ns → M ≤ a) → Q (.int M t') { s with heap := h', toks := tk }) : wpAny (model prog w) A (call (.builtin "min") [.ref l]) Q E s := by
  obtain ⟨xs, e⟩ := hi.allInts.items
  have hn : numsOf (intItems xs).toList = ns := by rw [← e]; exact hi.numsOf
  rw [nums_intItems] at hn
  subst hn
  rw [e] at hl
  have hsz : 0 < xs.size := by simpa using hne
  refine min_intTup hh hl hsz fun v h' tk hv hk => ?_
  obtain ⟨t, rfl⟩ := intItems_at hv
  obtain ⟨h1, h2⟩ := argBest_lt (numAt xs) (xs.size - 1)
  refine h h' tk _ t hk ?_ fun a ha => ?_
  · rw [numAt_eq]; exact PySem.getD_mem (by rw [List.length_map, Array.length_toList]; omega)
  · obtain ⟨j, hj, rfl⟩ := mem_getD ha
    rw [List.length_map, Array.length_toList] at hj
    rw [← numAt_eq]; exact h2 j (by omega)
end
section
variable {X : Cx}
def rMaxQ (K : PySem.W.Frag) : List V → Hp → VK → Prop := fun vs H Q => ∃ (a : Addr) (ns : List Int), vs = [V.ref a] ∧ SqA K H a (ns.map V.int) ∧ 0 < ns.length ∧ ∀ m, m ∈ ns → (∀ y, y ∈ ns → y ≤ m) → Q (.int m) H
def rMinQ (K : PySem.W.Frag) : List V → Hp → VK → Prop := fun vs H Q => ∃ (a : Addr) (ns : List Int), vs = [V.ref a] ∧ SqA K H a (ns.map V.int) ∧ 0 < ns.length ∧ ∀ m, m ∈ ns → (∀ y, y ∈ ns → m ≤ y) → Q (.int m) H
theorem cr_maxQ (hc : X.calm = true) : CallR X (.builtin "max") (rMaxQ X.K) := by
  intro pins s σ H vs us Q I r h
  obtain ⟨a, ns, rfl, hs, hne, q⟩ := h
  rw [Vals.ref1 r]
  rcases hs with hs | hs
  · obtain ⟨its, rv, hl, _⟩ := I.list hs
    exact max_raw (I.ok.hd hc) hl.isList rv.ints hne fun h' tk m t' hk h1 h2 => ⟨.int _, H, I.kept hk, ⟨_, rfl⟩, q m h1 h2⟩
  · obtain ⟨its, rv, hl, _⟩ := I.tuple hs
    exact max_rawT (I.ok.hd hc) (show s.heap.IsTuple a its.toArray from hl) rv.ints hne fun h' tk m t' hk h1 h2 => ⟨.int _, H, I.kept hk, ⟨_, rfl⟩, q m h1 h2⟩
theorem cr_minQ (hc : X.calm = true) : CallR X (.builtin "min") (rMinQ X.K) := by
  intro pins s σ H vs us Q I r h
  obtain ⟨a, ns, rfl, hs, hne, q⟩ := h
  rw [Vals.ref1 r]
  rcases hs with hs | hs
  · obtain ⟨its, rv, hl, _⟩ := I.list hs
    exact min_raw (I.ok.hd hc) hl.isList rv.ints hne fun h' tk m t' hk h1 h2 => ⟨.int _, H, I.kept hk, ⟨_, rfl⟩, q m h1 h2⟩
  · obtain ⟨its, rv, hl, _⟩ := I.tuple hs
    exact min_rawT (I.ok.hd hc) (show s.heap.IsTuple a its.toArray from hl) rv.ints hne fun h' tk m t' hk h1 h2 => ⟨.int _, H, I.kept hk, ⟨_, rfl⟩, q m h1 h2⟩
end
end XR
set_option Elab.async false
set_option linter.all false
set_option maxRecDepth 100000
set_option maxHeartbeats 4000000
/-! texts: times, pairs of texts, lists of them -/
namespace XR
open PySem PySem.Spec PyProof.Rows L2
theorem fold_size (c : Array Nat) : ∀ (n : Nat) (acc : Array Nat), ((List.replicate n c).foldl (· ++ ·) acc).size = acc.size + n * c.size
  | 0, acc => by simp
  | n + 1, acc => by
    rw [List.replicate_succ, List.foldl_cons, fold_size c n, Array.size_append, Nat.succ_mul]
    omega
theorem fold_all (p : Nat → Bool) (c : Array Nat) (hc : c.all p = true) : ∀ (n : Nat) (acc : Array Nat), acc.all p = true → ((List.replicate n c).foldl (· ++ ·) acc).all p = true
  | 0, acc, h => by simpa using h
  | n + 1, acc, h => by
    rw [List.replicate_succ, List.foldl_cons]
    exact fold_all p c hc n _ (by rw [Array.all_append, h, hc]; rfl)
def mulS (z : Str) (n : Int) : Str := if n < 1 then Str.empty else if (n == 1 || z.length == 0) = true then z else ⟨(List.replicate n.toNat z.cps).foldl (· ++ ·) #[]⟩
def rMulS : R2 := fun x y H Q => ∃ z n, x = .str z ∧ y = .int n ∧ 1 ≤ n ∧ n ≤ 30 ∧ z.length ≤ 30 ∧ Q (.str (mulS z n)) H
theorem op_mul_str {X : Cx} : OpR X (binaryOp .Mult) rMulS := by
  intro pins s σ H x y v u Q I rx ry h
  obtain ⟨z, n, rfl, rfl, h1, h2, h3, q⟩ := h
  obtain ⟨t, rfl⟩ := rx
  obtain ⟨t', rfl⟩ := ry
  have hn : ¬ n < 1 := by omega
  refine PySem.P.mul_str (by
    rw [decide_eq_false (show ¬ n < -(2 ^ 63 : Int) by omega), decide_eq_false (show ¬ n ≥ 2 ^ 63 by omega)]; rfl) (fun _ _ => ?_) (fun _ _ => ?_) ?_
  · have : (30 : Int) ≤ (2 ^ 63 - 1) / n := Int.le_ediv_of_mul_le (by omega) (by omega)
    omega
  · have : z.length * n.toNat ≤ 30 * 30 := Nat.mul_le_mul h3 (by omega)
    exact decide_eq_false (by rw [sizeLine_eq]; omega)
  · unfold mulS at q
    rw [if_neg hn] at q ⊢
    by_cases e : (n == 1 || z.length == 0) = true
    · rw [if_pos e] at q ⊢
      exact ⟨.str z, H, I, ⟨_, rfl⟩, q⟩
    · rw [if_neg e] at q ⊢
      refine ⟨?_, ⟨.str _, H, I.tok _, ⟨_, rfl⟩, q⟩⟩
      show (Array.size _) ≤ sizeLine
      rw [fold_size, sizeLine_eq]
      have : n.toNat * z.cps.size ≤ 30 * 30 := Nat.mul_le_mul (by omega) h3
      show (0 : Nat) + _ ≤ _
      omega
/-! ### texts that may stand in data -/
def okS (n : Nat) (s : Str) : Prop := PyData.strOk s = true ∧ s.length ≤ n
theorem okS.mono {n m : Nat} {s : Str} (h : okS n s) (e : n ≤ m) : okS m s := ⟨h.1, Nat.le_trans h.2 e⟩
theorem okS.add {n m : Nat} {a b : Str} (h : okS n a) (k : okS m b) : okS (n + m) (a ++ b) := by
  have e : (a ++ b).cps = a.cps ++ b.cps := rfl
  refine ⟨?_, ?_⟩
  · show (a ++ b).cps.all _ = true
    rw [e, Array.all_append]
    show ((a.cps.all _) && (b.cps.all _)) = true
    rw [show a.cps.all _ = true from h.1, show b.cps.all _ = true from k.1]
    rfl
  · show (a ++ b).cps.size ≤ n + m
    rw [e, Array.size_append]
    have h1 : a.cps.size ≤ n := h.2
    have h2 : b.cps.size ≤ m := k.2
    omega
theorem okS.cut {n : Nat} {a : Str} (h : okS n a) (lo hi : Option Int) : okS n (cutS a lo hi) := by
  have ha : a.cps.all (· < 0x110000) = true := h.1
  have hn : a.cps.size ≤ n := h.2
  unfold cutS
  refine ⟨?_, ?_⟩
  · show (List.toArray _).all (· < 0x110000) = true
    rw [List.all_toArray, List.all_eq_true]
    intro c hc
    have := List.mem_of_mem_drop (List.mem_of_mem_take hc)
    rw [Array.all_eq_true_iff_forall_mem] at ha
    exact ha c (Array.mem_toList_iff.mp this)
  · show (List.toArray _).size ≤ n
    rw [List.size_toArray, List.length_take, List.length_drop, Array.length_toList]
    omega
theorem okS.mul {a : Str} (h : okS 1 a) {n : Int} (h1 : 1 ≤ n) (h2 : n ≤ 30) : okS 30 (mulS a n) := by
  unfold mulS
  rw [if_neg (by omega)]
  by_cases e : (n == 1 || a.length == 0) = true
  · rw [if_pos e]
    exact h.mono (by decide)
  · rw [if_neg e]
    refine ⟨fold_all _ _ h.1 _ _ (by simp), ?_⟩
    show Array.size _ ≤ 30
    rw [fold_size]
    have : n.toNat * a.cps.size ≤ n.toNat * 1 := Nat.mul_le_mul (Nat.le_refl _) h.2
    show 0 + _ ≤ _
    omega
theorem okS.at {n : Nat} {z : Str} (h : okS n z) {i : Int} (h0 : 0 ≤ i) (h1 : i < (z.length : Int)) : ∃ c, atI z.cps.toList i = some c ∧ okS 1 (⟨#[c]⟩ : Str) := by
  have e : z.length = z.cps.toList.length := by simp [Str.length]
  have hl : i.toNat < z.cps.toList.length := by omega
  refine ⟨z.cps.toList[i.toNat], ?_, ?_, Nat.le_refl _⟩
  · have h3 := atI_nat (xs := z.cps.toList) (j := i.toNat) (List.getElem?_eq_getElem hl)
    rwa [show ((i.toNat : Nat) : Int) = i by omega] at h3
  have ha : z.cps.all (· < 0x110000) = true := h.1
  rw [Array.all_eq_true_iff_forall_mem] at ha
  have := ha _ (Array.mem_toList_iff.mp (List.getElem_mem hl))
  show (#[_] : Array Nat).all _ = true
  simpa using this
theorem okS_int (i : Int) (h0 : 0 ≤ i) (h1 : i < 128) : okS 3 (Str.ofString (toString i)) := by
  have h : ∀ n : Fin 128, PyData.strOk (Str.ofString (toString (n.val : Int))) = true ∧ (Str.ofString (toString (n.val : Int))).length ≤ 3 := by decide +kernel
  have := h ⟨i.toNat, by omega⟩
  rw [show ((⟨i.toNat, by omega⟩ : Fin 128).val : Int) = i by simp; omega] at this
  exact this
theorem okS.room {n m : Nat} {a b : Str} (h : okS n a) (k : okS m b) (e : n + m ≤ 1000) : a.length + b.length ≤ sizeLine := by
  have h1 := h.2
  have h2 := k.2
  rw [sizeLine_eq]
  omega
theorem seq_ix {i : Int} {n : Nat} (h0 : 0 ≤ i) (h1 : i < (n : Int)) : seqIndex? i n = some i.toNat := by
  simp [seqIndex?, show ¬ i < 0 by omega, h0, h1]
theorem isE_map {α β : Type} (f : α → β) (xs : List α) : (xs.map f).isEmpty = xs.isEmpty := by cases xs <;> rfl
theorem strs_at {n : Nat} (ss : List Str) {i : Int} (h0 : 0 ≤ i) (h : i < (ss.length : Int)) (p : ∀ s ∈ ss, okS n s) : ∃ s, atI (ss.map V.str) i = some (.str s) ∧ okS n s ∧ s ∈ ss := by
  have hl : i.toNat < ss.length := by omega
  refine ⟨ss[i.toNat], at_of (j := i.toNat) (by omega) ?_, p _ (List.getElem_mem hl), List.getElem_mem hl⟩
  rw [List.getElem?_map, List.getElem?_eq_getElem hl] <;> rfl
theorem DpAll.strs {K : PySem.W.Frag} {G : Hp} : ∀ {xs : List V} {ns : List Str}, DpAll K G xs (ns.map PyData.str) → xs = ns.map V.str
  | _, [], .nil => rfl
  | _, _ :: _, .cons a b => by rw [Dp.str_inv a, DpAll.strs b]; rfl
theorem DpAll.of_strs {K : PySem.W.Frag} {G : Hp} : ∀ (ns : List Str), DpAll K G (ns.map V.str) (ns.map PyData.str)
  | [] => .nil
  | n :: r => .cons (.str n) (DpAll.of_strs r)
abbrev sD : Str × Str → PyData := fun c => .tuple [.str c.1, .str c.2]
abbrev sDs (cs : List (Str × Str)) : List PyData := cs.map sD
theorem Dp.spair {K : PySem.W.Frag} {G : Hp} {x : V} {c : Str × Str} (h : Dp K G x (sD c)) : ∃ p, x = .ref p ∧ SqT K G p [.str c.1, .str c.2] := by
  obtain ⟨p, xs, rfl, s, a⟩ := Dp.tup_inv h
  cases a with | cons a1 a2 =>
  cases a2 with | cons b1 b2 =>
  cases b2
  rw [Dp.str_inv a1, Dp.str_inv b1] at s
  exact ⟨p, rfl, s⟩
theorem Dp.mk_spair {K : PySem.W.Frag} {G : Hp} {p : Addr} {a b : Str} (h : SqT K G p [.str a, .str b]) : Dp K G (.ref p) (sD (a, b)) := .tup h (.cons (.str a) (.cons (.str b) .nil))
def okP (n : Nat) (c : Str × Str) : Prop := okS n c.1 ∧ okS n c.2
theorem strs_can {n : Nat} : ∀ ss : List Str, (∀ s ∈ ss, okS n s) → PyData.canLayAll0 (ss.map PyData.str) = true
  | [], _ => rfl
  | s :: r, h => by
    show (PyData.canLay0 (.str s) && PyData.canLayAll0 (r.map PyData.str)) = true
    rw [strs_can r fun x hx => h x (List.mem_cons_of_mem _ hx)]
    have := (h s List.mem_cons_self).1
    simpa [PyData.canLay0] using this
theorem strs_depth : ∀ ns : List Str, PyData.depthAll (ns.map PyData.str) ≤ 8
  | [] => by decide
  | c :: r => by
    have := strs_depth r
    show max (PyData.depth (.str c)) (PyData.depthAll (r.map PyData.str)) ≤ 8
    have h : PyData.depth (.str c) ≤ 8 := by simp [PyData.depth]
    omega
theorem strs_eqv : ∀ ns : List Str, PyData.eqvAll (ns.map PyData.str) (ns.map PyData.str) = true
  | [] => rfl
  | c :: r => by
    show (PyData.eqv (.str c) (.str c) && PyData.eqvAll (r.map PyData.str) (r.map PyData.str)) = true
    rw [strs_eqv r]
    simp [PyData.eqv]
theorem shaped_strs {n : Nat} (ss : List Str) (h : ∀ s ∈ ss, okS n s) : SeqAt.shaped (.list (ss.map PyData.str)) = true ∧ SeqAt.shaped (.tuple (ss.map PyData.str)) = true := by
  have hc := strs_can ss h
  have hd := strs_depth ss
  constructor
  · show (PyData.canLayAll0 (ss.map PyData.str) && decide (PyData.depthAll (ss.map PyData.str) + 1 ≤ 64)) = true
    rw [hc]; simp; omega
  · show (PyData.canLayAll0 (ss.map PyData.str) && decide (PyData.depthAll (ss.map PyData.str) + 1 ≤ 64)) = true
    rw [hc]; simp; omega
theorem sDs_can {n : Nat} : ∀ ss : List (Str × Str), (∀ s ∈ ss, okP n s) → PyData.canLayAll0 (sDs ss) = true
  | [], _ => rfl
  | s :: r, h => by
    show (PyData.canLay0 (sD s) && PyData.canLayAll0 (sDs r)) = true
    rw [sDs_can r fun x hx => h x (List.mem_cons_of_mem _ hx)]
    have h1 := (h s List.mem_cons_self).1.1
    have h2 := (h s List.mem_cons_self).2.1
    simp [PyData.canLay0, PyData.canLayAll0, h1, h2]
theorem sDs_depth : ∀ cs : List (Str × Str), PyData.depthAll (sDs cs) ≤ 8
  | [] => by decide
  | c :: r => by
    have := sDs_depth r
    show max (PyData.depth (sD c)) (PyData.depthAll (sDs r)) ≤ 8
    have h : PyData.depth (sD c) ≤ 8 := by simp [PyData.depth, PyData.depthAll]
    omega
theorem sDs_eqv : ∀ cs : List (Str × Str), PyData.eqvAll (sDs cs) (sDs cs) = true
  | [] => rfl
  | c :: r => by
    show (PyData.eqv (sD c) (sD c) && PyData.eqvAll (sDs r) (sDs r)) = true
    rw [sDs_eqv r]
    simp [PyData.eqv, PyData.eqvAll]
theorem shaped_sDs {n : Nat} (ss : List (Str × Str)) (h : ∀ s ∈ ss, okP n s) : SeqAt.shaped (.list (sDs ss)) = true := by
  have hc := sDs_can ss h
  have hd := sDs_depth ss
  show (PyData.canLayAll0 (sDs ss) && decide (PyData.depthAll (sDs ss) + 1 ≤ 64)) = true
  rw [hc]; simp; omega
theorem call_len_seqb {X : Cx} {s : Shared} {H : Hp} {sc : Scope} {ce : Env} {fp : List Addr} : CallR (X.blk s H sc ce fp) (.builtin "len") (fun xs H Q => ∃ p ys, xs = [V.ref p] ∧ (SqL X.K H p ys ∨ SqT X.K H p ys) ∧ Q (V.int (ys.length : Int)) H) := call_len_seq
end XR
set_option Elab.async false
set_option linter.all false
set_option maxRecDepth 100000
set_option maxHeartbeats 4000000
/-! defs with a star parameter, called at their class -/
namespace XR
open PySem PySem.Spec PyProof.Rows L2
section
variable {X : Cx} {CX : CXT} {k : Nat} {C f p g : Addr} {sp : Sp} {E : XK} {m : Str} {o : Expr} {apos pos : Pos} {pl : Sem Bool} {es : List Expr} {e : Expr} {ta : TE} {t : TA} {ES : L2.St → XK}
/-- the callee with a star runs, somewhere below the body -/
theorem run_atR {A : Around} {pins : List (Addr × Obj)} {σ : L2.St} {H : Hp} {s : Shared} {Q : VK} {us : List Value} {vs : List V} (F : FnR X.prog X.w X.K X.mg X.base CX k f sp) (hr : Room k A) (hA : A.frames = X.A.frames) (hx : PassesAt CX X σ E)
    (I : Inv X pins σ H s) (r : Vals vs us) (h : sp vs H Q E) : wpAny (model X.prog X.w) A (call (.ref f) us) (EP X pins σ Q) X.xe s := by
  have e0 : Env0 X.prog X.w X.K X.mg X.base A X.stack s H := by
    have e := I.env0
    exact ⟨by rw [hA]; exact e.frames, e.mod, e.bs, e.bsz, e.funs, e.frf, e.hok, e.bare⟩
  refine wpAny_call (codeAny_mono (F A X.stack s H us vs Q E hr e0 r h) fun r s' hq => ?_)
  cases r with
  | error e => exact hx pins H s e s' I hq
  | ok fl =>
    cases fl with
    | ret u => exact I.after hq
    | next => exact False.elim hq
    | brk => exact False.elim hq
    | cont => exact False.elim hq
theorem pe_statR (he : PE X o ta) (r : CStat X.K C p g m) (F : FnR X.prog X.w X.K X.mg X.base CX k g sp) (hr : Room k X.A) (hk : PySem.W.keepIn X.K (.ref g) = true) (hx : ∀ σ, PassesAt CX X σ (ES σ)) (ha : PA X (e :: es) t)
    (hst : starEach (e :: es) X.env = (false, eval e X.env) :: starEach es X.env := by rfl) (hpl : (backTo pos (starEach es X.env)).any (·.1) = false := by rfl)
    (ht : eval (.Call (.Attribute o m apos) (e :: es) [] pos) X.env = (do
      let ov ← eval o X.env
      standAt apos.atName
      let (f, first) ← holding [ov] (getMethod ov m pl)
      callWith pos f first (backTo pos (starEach (e :: es) X.env)) (backToKw pos (keywordEach [] X.env))) := by rfl) :
    PE X (.Call (.Attribute o m apos) (e :: es) [] pos) (tStat C sp ES ta t) := by
  refine ⟨fun pins s σ H Q I h => ?_⟩
  refine PySem.W.methodCall_KW (pl := pl) (thn (he.run pins s σ H _ I h) fun u s1 ⟨x, H1, I1, rx, ex, q⟩ => ?_) ht
  subst ex
  obtain rfl : u = Value.ref C := rx
  refine getstat_ok I1 r fun s2 I2 => ?_
  refine PySem.W.callWith_K (h₀ := X.base) I.ok.mod.kin hk (thn (ha.run pos _ s2 σ H1 _ I2 q) fun us s3 ⟨vs, H2, I3, rv, q2⟩ => ⟨I3.kIn, ?_⟩) hst hpl
  exact run_atR F hr rfl (hx σ) I3 rv q2
theorem pe_statR0 (he : PE X o ta) (r : CStat X.K C p g m) (F : FnR X.prog X.w X.K X.mg X.base CX k g sp) (hr : Room k X.A) (hk : PySem.W.keepIn X.K (.ref g) = true) (hx : ∀ σ, PassesAt CX X σ (ES σ))
    (ht : eval (.Call (.Attribute o m apos) [] [] pos) X.env = (do
      let ov ← eval o X.env
      standAt apos.atName
      let (f, first) ← holding [ov] (getMethod ov m pl)
      callWith pos f first (backTo pos (starEach [] X.env)) (backToKw pos (keywordEach [] X.env))) := by rfl) :
    PE X (.Call (.Attribute o m apos) [] [] pos) (tStat C sp ES ta tNil) := by
  refine ⟨fun pins s σ H Q I h => ?_⟩
  refine PySem.W.methodCall_KW (pl := pl) (thn (he.run pins s σ H _ I h) fun u s1 ⟨x, H1, I1, rx, ex, q⟩ => ?_) ht
  subst ex
  obtain rfl : u = Value.ref C := rx
  refine getstat_ok I1 r fun s2 I2 => ?_
  exact PySem.W.callWith_K0 I2.kIn hk (run_atR (us := []) F hr rfl (hx σ) I2 .nil q)
end
section
variable {P : Program} {w : World} {K : PySem.W.Frag} {mg : Str → Option Value} {base : Heap}
/-- a def whose one parameter takes all arguments -/
def spStar (sp : Sp) : Sp := fun vs H Q E => vs.length ≤ sizeLine ∧ ∀ p, H p = none → sp [.ref p] (L2.upd H p (.tup vs)) Q E
theorem okStar {x qual : Str} {st : Stmt} {f : Addr} {fd : FuncData} {N : List Str} {pv : Str} {k : Nat} {sp : Sp} (F : Fun K x qual st f fd) (S : FnScope N [pv] (defScope st))
    (hb : ∀ (kV doc pm : Value) (an : Option Addr) (cdv ct : Value) (rest : List Value), bindArgs (PySem.W.fnOf x qual (defArgs st) (defBody st) (defScope st) .none kV doc pm an cdv ct) { pos := rest } = (do let t ← newTuple rest; pure [(pv, t)]))
    (h : ∀ (cdv : Value) (A : Around) (outer : List Env) (s : Shared) (H : Hp) (vs : List V) (Q : VK) (E : XK), Room k (A.deeper (PyProof.Rows.envOfC qual (defScope st) s.heap.objs.size f cdv)) → sp vs H Q E →
      ∃ t, PSs (cxOf (L2.CX P w) P w K mg base N qual (defScope st) f cdv A outer s H E) (defBody st) t ∧ t { nx := fun _ H' => Q .non H', rt := Q } (L2.start N vs) H) :
    FnR P w K mg base (L2.CX P w) (k + 1) f (spStar sp) := by
  obtain ⟨oc, od, kV, doc, pm, an, cdv, ct, osl, rfl, lk, cd⟩ := F.ex
  have R := StX.fn_star (ps := []) (sp := sp) lk cd S StX.cxUp (fun us rest hl => by
    cases us with
    | nil => exact hb kV doc pm an cdv ct rest
    | cons _ _ => cases hl) (h cdv)
  intro A outer s H us vs Q E hr e0 rv ⟨hl, q⟩
  exact R A outer s H us vs Q E hr e0 rv ⟨[], vs, rfl, rfl, hl, q⟩
end
end XR
set_option Elab.async false
set_option linter.all false
set_option maxRecDepth 100000
set_option maxHeartbeats 4000000
namespace Toy
open PySem L2 XR
def top (i : Nat) : Stmt := PySem.Challenge.pw_fittingpasts_k01_residue_meet.main.body.getD i (.Pass ⟨0, 0, 0, 0⟩)
abbrev s__wall : Stmt := top 1
abbrev s_Disjoint_init : Stmt := inClass (top 7) 0
abbrev s_OutOfRange_init : Stmt := inClass (top 8) 0
abbrev s__inverse : Stmt := top 10
abbrev s_Residue_init : Stmt := inClass (top 11) 0
abbrev s_Residue___eq__ : Stmt := inClass (top 11) 1
abbrev s_Residue___str__ : Stmt := inClass (top 11) 2
abbrev s_Residue___contains__ : Stmt := inClass (top 11) 3
abbrev s_Residue___add__ : Stmt := inClass (top 11) 4
abbrev s_Residue___sub__ : Stmt := inClass (top 11) 5
abbrev s_Residue___neg__ : Stmt := inClass (top 11) 6
abbrev s_Residue___and__ : Stmt := inClass (top 11) 7
abbrev s_Residue_first_from : Stmt := inClass (top 11) 8
abbrev s_Residue_last_until : Stmt := inClass (top 11) 9
abbrev s_Residue_count_in : Stmt := inClass (top 11) 10
abbrev s_Residue_members : Stmt := inClass (top 11) 11
abbrev s_Residue_part_of : Stmt := inClass (top 11) 12
abbrev s_Residue_scaled : Stmt := inClass (top 11) 13
abbrev s_Residue_every : Stmt := inClass (top 11) 14
abbrev s_Residue_meet : Stmt := inClass (top 11) 15
abbrev s__law_box : Stmt := top 13
abbrev s__law_draw : Stmt := top 14
abbrev s__law_is_number : Stmt := top 15
abbrev s__law_gcd : Stmt := top 16
abbrev s__law_lcm : Stmt := top 17
abbrev s__law_factor : Stmt := top 18
abbrev s__law_pool : Stmt := top 19
abbrev s__law_is : Stmt := top 20
abbrev s__law_holds : Stmt := top 21
abbrev s__law_apart : Stmt := top 22
abbrev s__law_meet : Stmt := top 23
abbrev s__law_is_disjoint : Stmt := top 24
abbrev s__law_joined : Stmt := top 25
abbrev s__law_row : Stmt := top 26
abbrev s__law_walk : Stmt := top 27
abbrev s__law_pair : Stmt := top 28
abbrev s__law_chain : Stmt := top 29
abbrev s_law : Stmt := top 30
/-- where the defs and classes of the text stand -/
structure Ad where
  a_Disjoint_init : Addr
  d_Disjoint_init : FuncData
  a_OutOfRange_init : Addr
  d_OutOfRange_init : FuncData
  a__inverse : Addr
  d__inverse : FuncData
  a_Residue_init : Addr
  d_Residue_init : FuncData
  a_Residue___eq__ : Addr
  d_Residue___eq__ : FuncData
  a_Residue___str__ : Addr
  d_Residue___str__ : FuncData
  a_Residue___contains__ : Addr
  d_Residue___contains__ : FuncData
  a_Residue___add__ : Addr
  d_Residue___add__ : FuncData
  a_Residue___sub__ : Addr
  d_Residue___sub__ : FuncData
  a_Residue___neg__ : Addr
  d_Residue___neg__ : FuncData
  a_Residue___and__ : Addr
  d_Residue___and__ : FuncData
  a_Residue_every : Addr
  d_Residue_every : FuncData
  a_Residue_meet : Addr
  d_Residue_meet : FuncData
  a__law_box : Addr
  d__law_box : FuncData
  a__law_draw : Addr
  d__law_draw : FuncData
  a__law_is_number : Addr
  d__law_is_number : FuncData
  a__law_gcd : Addr
  d__law_gcd : FuncData
  a__law_lcm : Addr
  d__law_lcm : FuncData
  a__law_factor : Addr
  d__law_factor : FuncData
  a__law_pool : Addr
  d__law_pool : FuncData
  a__law_is : Addr
  d__law_is : FuncData
  a__law_holds : Addr
  d__law_holds : FuncData
  a__law_apart : Addr
  d__law_apart : FuncData
  a__law_meet : Addr
  d__law_meet : FuncData
  a__law_is_disjoint : Addr
  d__law_is_disjoint : FuncData
  a__law_joined : Addr
  d__law_joined : FuncData
  a__law_row : Addr
  d__law_row : FuncData
  a__law_walk : Addr
  d__law_walk : FuncData
  a__law_pair : Addr
  d__law_pair : FuncData
  a__law_chain : Addr
  d__law_chain : FuncData
  a_law : Addr
  d_law : FuncData
  c_ArchiveError : Addr
  c_UnknownError : Addr
  c_TextError : Addr
  c_ImpossibleError : Addr
  c_Disjoint : Addr
  c_OutOfRange : Addr
  c_Residue : Addr
  p_Residue_every : Addr
  p_Residue_meet : Addr
structure Txt (K : PySem.W.Frag) (mg : Str → Option Value) (D : Ad) : Prop where
  F_Disjoint_init : Fun K "__init__" "Disjoint.__init__" s_Disjoint_init D.a_Disjoint_init D.d_Disjoint_init
  b_Disjoint_init : Binds K D.d_Disjoint_init ["self", "divisor"] []
  m_Disjoint_init : PySem.W.findIn K (.ref D.c_Disjoint) "__init__" = some (some (.ref D.a_Disjoint_init))
  i_Disjoint_init : PySem.W.isFn K (.ref D.a_Disjoint_init) = true
  F_OutOfRange_init : Fun K "__init__" "OutOfRange.__init__" s_OutOfRange_init D.a_OutOfRange_init D.d_OutOfRange_init
  b_OutOfRange_init : Binds K D.d_OutOfRange_init ["self", "value"] []
  m_OutOfRange_init : PySem.W.findIn K (.ref D.c_OutOfRange) "__init__" = some (some (.ref D.a_OutOfRange_init))
  i_OutOfRange_init : PySem.W.isFn K (.ref D.a_OutOfRange_init) = true
  F__inverse : Fun K "_inverse" "_inverse" s__inverse D.a__inverse D.d__inverse
  b__inverse : Binds K D.d__inverse ["number", "length"] []
  g__inverse : mg "_inverse" = some (.ref D.a__inverse)
  F_Residue_init : Fun K "__init__" "Residue.__init__" s_Residue_init D.a_Residue_init D.d_Residue_init
  b_Residue_init : Binds K D.d_Residue_init ["self", "place", "length"] []
  m_Residue_init : PySem.W.findIn K (.ref D.c_Residue) "__init__" = some (some (.ref D.a_Residue_init))
  i_Residue_init : PySem.W.isFn K (.ref D.a_Residue_init) = true
  F_Residue___eq__ : Fun K "__eq__" "Residue.__eq__" s_Residue___eq__ D.a_Residue___eq__ D.d_Residue___eq__
  b_Residue___eq__ : Binds K D.d_Residue___eq__ ["self", "other"] []
  m_Residue___eq__ : PySem.W.findIn K (.ref D.c_Residue) "__eq__" = some (some (.ref D.a_Residue___eq__))
  i_Residue___eq__ : PySem.W.isFn K (.ref D.a_Residue___eq__) = true
  F_Residue___str__ : Fun K "__str__" "Residue.__str__" s_Residue___str__ D.a_Residue___str__ D.d_Residue___str__
  b_Residue___str__ : Binds K D.d_Residue___str__ ["self"] []
  m_Residue___str__ : PySem.W.findIn K (.ref D.c_Residue) "__str__" = some (some (.ref D.a_Residue___str__))
  i_Residue___str__ : PySem.W.isFn K (.ref D.a_Residue___str__) = true
  F_Residue___contains__ : Fun K "__contains__" "Residue.__contains__" s_Residue___contains__ D.a_Residue___contains__ D.d_Residue___contains__
  b_Residue___contains__ : Binds K D.d_Residue___contains__ ["self", "day"] []
  m_Residue___contains__ : PySem.W.findIn K (.ref D.c_Residue) "__contains__" = some (some (.ref D.a_Residue___contains__))
  i_Residue___contains__ : PySem.W.isFn K (.ref D.a_Residue___contains__) = true
  F_Residue___add__ : Fun K "__add__" "Residue.__add__" s_Residue___add__ D.a_Residue___add__ D.d_Residue___add__
  b_Residue___add__ : Binds K D.d_Residue___add__ ["self", "many"] []
  m_Residue___add__ : PySem.W.findIn K (.ref D.c_Residue) "__add__" = some (some (.ref D.a_Residue___add__))
  i_Residue___add__ : PySem.W.isFn K (.ref D.a_Residue___add__) = true
  F_Residue___sub__ : Fun K "__sub__" "Residue.__sub__" s_Residue___sub__ D.a_Residue___sub__ D.d_Residue___sub__
  b_Residue___sub__ : Binds K D.d_Residue___sub__ ["self", "many"] []
  m_Residue___sub__ : PySem.W.findIn K (.ref D.c_Residue) "__sub__" = some (some (.ref D.a_Residue___sub__))
  i_Residue___sub__ : PySem.W.isFn K (.ref D.a_Residue___sub__) = true
  F_Residue___neg__ : Fun K "__neg__" "Residue.__neg__" s_Residue___neg__ D.a_Residue___neg__ D.d_Residue___neg__
  b_Residue___neg__ : Binds K D.d_Residue___neg__ ["self"] []
  m_Residue___neg__ : PySem.W.findIn K (.ref D.c_Residue) "__neg__" = some (some (.ref D.a_Residue___neg__))
  i_Residue___neg__ : PySem.W.isFn K (.ref D.a_Residue___neg__) = true
  F_Residue___and__ : Fun K "__and__" "Residue.__and__" s_Residue___and__ D.a_Residue___and__ D.d_Residue___and__
  b_Residue___and__ : Binds K D.d_Residue___and__ ["self", "other"] []
  m_Residue___and__ : PySem.W.findIn K (.ref D.c_Residue) "__and__" = some (some (.ref D.a_Residue___and__))
  i_Residue___and__ : PySem.W.isFn K (.ref D.a_Residue___and__) = true
  F_Residue_every : Fun K "every" "Residue.every" s_Residue_every D.a_Residue_every D.d_Residue_every
  b_Residue_every : Binds K D.d_Residue_every [] []
  sr_Residue_every : PySem.W.readsIn K D.c_Residue (.type "type") = true
  sg_Residue_every : PySem.W.specialIn K (.ref D.c_Residue) "__getattribute__" = some (some (.builtin "type.__getattribute__"))
  pa_Residue_every : PySem.W.findCls K (.ref D.c_Residue) (.type "type") "every" = some (.get (.builtin "staticmethod.__get__") (.ref D.p_Residue_every) .none (.ref D.c_Residue))
  pr_Residue_every : ∃ rest, PySem.W.recIn K D.p_Residue_every "staticmethod" = some (.ref D.a_Residue_every :: rest)
  F_Residue_meet : Fun K "meet" "Residue.meet" s_Residue_meet D.a_Residue_meet D.d_Residue_meet
  sr_Residue_meet : PySem.W.readsIn K D.c_Residue (.type "type") = true
  sg_Residue_meet : PySem.W.specialIn K (.ref D.c_Residue) "__getattribute__" = some (some (.builtin "type.__getattribute__"))
  pa_Residue_meet : PySem.W.findCls K (.ref D.c_Residue) (.type "type") "meet" = some (.get (.builtin "staticmethod.__get__") (.ref D.p_Residue_meet) .none (.ref D.c_Residue))
  pr_Residue_meet : ∃ rest, PySem.W.recIn K D.p_Residue_meet "staticmethod" = some (.ref D.a_Residue_meet :: rest)
  F__law_box : Fun K "_law_box" "_law_box" s__law_box D.a__law_box D.d__law_box
  b__law_box : Binds K D.d__law_box ["_law_script"] []
  g__law_box : mg "_law_box" = some (.ref D.a__law_box)
  F__law_draw : Fun K "_law_draw" "_law_draw" s__law_draw D.a__law_draw D.d__law_draw
  b__law_draw : Binds K D.d__law_draw ["_law_box_here", "_law_size"] []
  g__law_draw : mg "_law_draw" = some (.ref D.a__law_draw)
  F__law_is_number : Fun K "_law_is_number" "_law_is_number" s__law_is_number D.a__law_is_number D.d__law_is_number
  b__law_is_number : Binds K D.d__law_is_number ["_law_value"] []
  g__law_is_number : mg "_law_is_number" = some (.ref D.a__law_is_number)
  F__law_gcd : Fun K "_law_gcd" "_law_gcd" s__law_gcd D.a__law_gcd D.d__law_gcd
  b__law_gcd : Binds K D.d__law_gcd ["_law_first", "_law_second"] []
  g__law_gcd : mg "_law_gcd" = some (.ref D.a__law_gcd)
  F__law_lcm : Fun K "_law_lcm" "_law_lcm" s__law_lcm D.a__law_lcm D.d__law_lcm
  b__law_lcm : Binds K D.d__law_lcm ["_law_first", "_law_second"] []
  g__law_lcm : mg "_law_lcm" = some (.ref D.a__law_lcm)
  F__law_factor : Fun K "_law_factor" "_law_factor" s__law_factor D.a__law_factor D.d__law_factor
  b__law_factor : Binds K D.d__law_factor ["_law_box_here", "_law_most"] []
  g__law_factor : mg "_law_factor" = some (.ref D.a__law_factor)
  F__law_pool : Fun K "_law_pool" "_law_pool" s__law_pool D.a__law_pool D.d__law_pool
  b__law_pool : Binds K D.d__law_pool ["_law_box_here", "_law_count", "_law_most"] []
  g__law_pool : mg "_law_pool" = some (.ref D.a__law_pool)
  F__law_is : Fun K "_law_is" "_law_is" s__law_is D.a__law_is D.d__law_is
  b__law_is : Binds K D.d__law_is ["_law_residue", "_law_spot", "_law_size"] []
  g__law_is : mg "_law_is" = some (.ref D.a__law_is)
  F__law_holds : Fun K "_law_holds" "_law_holds" s__law_holds D.a__law_holds D.d__law_holds
  b__law_holds : Binds K D.d__law_holds ["_law_residue", "_law_pool_here"] []
  g__law_holds : mg "_law_holds" = some (.ref D.a__law_holds)
  F__law_apart : Fun K "_law_apart" "_law_apart" s__law_apart D.a__law_apart D.d__law_apart
  b__law_apart : Binds K D.d__law_apart ["_law_one", "_law_other"] []
  g__law_apart : mg "_law_apart" = some (.ref D.a__law_apart)
  F__law_meet : Fun K "_law_meet" "_law_meet" s__law_meet D.a__law_meet D.d__law_meet
  b__law_meet : Binds K D.d__law_meet ["_law_first", "_law_second"] []
  g__law_meet : mg "_law_meet" = some (.ref D.a__law_meet)
  F__law_is_disjoint : Fun K "_law_is_disjoint" "_law_is_disjoint" s__law_is_disjoint D.a__law_is_disjoint D.d__law_is_disjoint
  b__law_is_disjoint : Binds K D.d__law_is_disjoint ["_law_told", "_law_divisor"] []
  g__law_is_disjoint : mg "_law_is_disjoint" = some (.ref D.a__law_is_disjoint)
  F__law_joined : Fun K "_law_joined" "_law_joined" s__law_joined D.a__law_joined D.d__law_joined
  b__law_joined : Binds K D.d__law_joined ["_law_ones"] []
  g__law_joined : mg "_law_joined" = some (.ref D.a__law_joined)
  F__law_row : Fun K "_law_row" "_law_row" s__law_row D.a__law_row D.d__law_row
  b__law_row : Binds K D.d__law_row ["_law_ones"] []
  g__law_row : mg "_law_row" = some (.ref D.a__law_row)
  F__law_walk : Fun K "_law_walk" "_law_walk" s__law_walk D.a__law_walk D.d__law_walk
  b__law_walk : Binds K D.d__law_walk ["_law_residue", "_law_pool_here", "_law_begin"] []
  g__law_walk : mg "_law_walk" = some (.ref D.a__law_walk)
  F__law_pair : Fun K "_law_pair" "_law_pair" s__law_pair D.a__law_pair D.d__law_pair
  b__law_pair : Binds K D.d__law_pair ["_law_pool_here", "_law_begin"] []
  g__law_pair : mg "_law_pair" = some (.ref D.a__law_pair)
  F__law_chain : Fun K "_law_chain" "_law_chain" s__law_chain D.a__law_chain D.d__law_chain
  b__law_chain : Binds K D.d__law_chain ["_law_pool_here"] []
  g__law_chain : mg "_law_chain" = some (.ref D.a__law_chain)
  F_law : Fun K "law" "law" s_law D.a_law D.d_law
  b_law : Binds K D.d_law ["_law_script"] []
  g_law : mg "law" = some (.ref D.a_law)
  g_ArchiveError : mg "ArchiveError" = some (.ref D.c_ArchiveError)
  k_ArchiveError : PySem.W.keepIn K (.ref D.c_ArchiveError) = true
  g_UnknownError : mg "UnknownError" = some (.ref D.c_UnknownError)
  k_UnknownError : PySem.W.keepIn K (.ref D.c_UnknownError) = true
  g_TextError : mg "TextError" = some (.ref D.c_TextError)
  k_TextError : PySem.W.keepIn K (.ref D.c_TextError) = true
  g_ImpossibleError : mg "ImpossibleError" = some (.ref D.c_ImpossibleError)
  k_ImpossibleError : PySem.W.keepIn K (.ref D.c_ImpossibleError) = true
  g_Disjoint : mg "Disjoint" = some (.ref D.c_Disjoint)
  k_Disjoint : PySem.W.keepIn K (.ref D.c_Disjoint) = true
  g_OutOfRange : mg "OutOfRange" = some (.ref D.c_OutOfRange)
  k_OutOfRange : PySem.W.keepIn K (.ref D.c_OutOfRange) = true
  g_Residue : mg "Residue" = some (.ref D.c_Residue)
  k_Residue : PySem.W.keepIn K (.ref D.c_Residue) = true
  g_gcd : mg "gcd" = some (.builtin "math.gcd")
  n_ValueError : mg "ValueError" = none
  n_abs : mg "abs" = none
  n_any : mg "any" = none
  n_bool : mg "bool" = none
  n_int : mg "int" = none
  n_isinstance : mg "isinstance" = none
  n_len : mg "len" = none
  n_list : mg "list" = none
  n_min : mg "min" = none
  n_range : mg "range" = none
  n_str : mg "str" = none
  n_tuple : mg "tuple" = none
  oxl_Disjoint : ∃ nm q N bs bm sn sub ab col dd k0 k1 k2 k3 k5, K.lookup D.c_Disjoint = some (excClassObj nm q D.c_Disjoint N bs bm true sn sub ab col dd k0 k1 k2 k3 k5 "ValueError.__new__") ∧ PySem.HandSPX.refsVE bm = true
  xsa_Disjoint : PySem.W.findIn K (.ref D.c_Disjoint) "__setattr__" = some (some (.builtin "object.__setattr__"))
  xga_Disjoint : PySem.W.findIn K (.ref D.c_Disjoint) "__getattribute__" = some (some (.builtin "BaseException.__getattribute__"))
  xgg_Disjoint : PySem.W.findIn K (.ref D.c_Disjoint) "__getattr__" = some none
  xbe_Disjoint : PySem.W.subIn K (.ref D.c_Disjoint) (.type "BaseException") = some true
  xty_Disjoint : PySem.W.typeIn K (.ref D.c_Disjoint) = some (.type "type")
  xhd_Disjoint : PySem.W.hasDictIn K D.c_Disjoint = true
  xca_Disjoint : PySem.W.findIn K (.ref D.c_Disjoint) "__class__" = some (some (.builtin "object.__class__"))
  xmo_Disjoint : PySem.W.mroIn K D.c_Disjoint (.type "object") = some true
  xti_Disjoint : PySem.W.typeIn K (.ref D.a_Disjoint_init) = some (.type "function")
  oxl_OutOfRange : ∃ nm q N bs bm sn sub ab col dd k0 k1 k2 k3 k5, K.lookup D.c_OutOfRange = some (excClassObj nm q D.c_OutOfRange N bs bm true sn sub ab col dd k0 k1 k2 k3 k5 "ValueError.__new__") ∧ PySem.HandSPX.refsVE bm = true
  xsa_OutOfRange : PySem.W.findIn K (.ref D.c_OutOfRange) "__setattr__" = some (some (.builtin "object.__setattr__"))
  xga_OutOfRange : PySem.W.findIn K (.ref D.c_OutOfRange) "__getattribute__" = some (some (.builtin "BaseException.__getattribute__"))
  xgg_OutOfRange : PySem.W.findIn K (.ref D.c_OutOfRange) "__getattr__" = some none
  xbe_OutOfRange : PySem.W.subIn K (.ref D.c_OutOfRange) (.type "BaseException") = some true
  xty_OutOfRange : PySem.W.typeIn K (.ref D.c_OutOfRange) = some (.type "type")
  xhd_OutOfRange : PySem.W.hasDictIn K D.c_OutOfRange = true
  xca_OutOfRange : PySem.W.findIn K (.ref D.c_OutOfRange) "__class__" = some (some (.builtin "object.__class__"))
  xmo_OutOfRange : PySem.W.mroIn K D.c_OutOfRange (.type "object") = some true
  xti_OutOfRange : PySem.W.typeIn K (.ref D.a_OutOfRange_init) = some (.type "function")
  cn_ : PySem.W.specialIn K (.builtin "object.__class__") "__get__" = some (some (.builtin "getset_descriptor.__get__"))
  ct_ : PySem.W.takesIn K (.builtin "object.__class__") = some true
  ymk_Residue : PySem.W.makesIn K D.c_Residue = true
  ypg_Residue : PySem.W.plainGet K D.c_Residue Str.empty = true
  yhd_Residue : PySem.W.hasDictIn K D.c_Residue = true
  ypo_Residue : PySem.W.plainOver K D.c_Residue = true
  ysa_Residue : PySem.W.findIn K (.ref D.c_Residue) "__setattr__" = some (some (.builtin "object.__setattr__"))
  ysf_Residue : PySem.W.selfFirst K D.c_Residue = true
  yca_Residue : PySem.W.findIn K (.ref D.c_Residue) "__class__" = some (some (.builtin "object.__class__"))
  ymo_Residue : PySem.W.mroIn K D.c_Residue (.type "object") = some true
  z_Residue : PySem.W.kitOne K (.ref D.c_Residue) (.ref D.c_Residue) = some true
  z_U : PySem.W.kitOne K (.ref D.c_Disjoint) (.ref D.c_UnknownError) = some false
  z_T : PySem.W.kitOne K (.ref D.c_Disjoint) (.ref D.c_TextError) = some false
  z_O : PySem.W.kitOne K (.ref D.c_Disjoint) (.ref D.c_OutOfRange) = some false
  z_A : PySem.W.kitOne K (.ref D.c_Disjoint) (.ref D.c_ArchiveError) = some true
  z_D : PySem.W.kitOne K (.ref D.c_Disjoint) (.ref D.c_Disjoint) = some true
  m_di : PySem.W.exmOne K (.ref D.c_Disjoint) (.ref D.c_ImpossibleError) = some true
  e_Disjoint_divisor : PySem.W.findIn K (.ref D.c_Disjoint) "divisor" = some none
  e_OutOfRange_value : PySem.W.findIn K (.ref D.c_OutOfRange) "value" = some none
  no_Residue_place : PySem.W.findIn K (.ref D.c_Residue) "place" = some none
  no_Residue_length : PySem.W.findIn K (.ref D.c_Residue) "length" = some none
  ne_Residue : PySem.W.findIn K (.ref D.c_Residue) "__ne__" = some (some (.builtin "object.__ne__"))
  h_Residue___and__ : PySem.W.findIn K (.ref D.c_Residue) (PySem.dunder Operator.BitAnd.info.2) = some (some (.ref D.a_Residue___and__))
  r_Residue___and__ : PySem.W.findIn K (.ref D.c_Residue) (PySem.dunderR Operator.BitAnd.info.2) = some none
section
variable {K : PySem.W.Frag} {mg : Str → Option Value} {D : Ad}
theorem T_cl_Residue (T : Txt K mg D) : Cls K D.c_Residue := ⟨T.ypg_Residue, T.yhd_Residue, T.ypo_Residue, T.ysa_Residue⟩
theorem T_mk_Residue (T : Txt K mg D) : Mk K D.c_Residue D.a_Residue_init := ⟨T.ymk_Residue, T.m_Residue_init, T.i_Residue_init, T.k_Residue⟩
theorem T_ty_Residue (T : Txt K mg D) {H : Hp} {a dx : Addr} {fs : List (Str × V)} (e : H a = some (.ins D.c_Residue dx fs)) : TyX K H (.ref a) (.ref D.c_Residue) := .base (.ins e (T_cl_Residue T) T.yca_Residue T.cn_ T.ct_ T.ymo_Residue)
theorem T_s_Residue_every (T : Txt K mg D) : XR.CStat K D.c_Residue D.p_Residue_every D.a_Residue_every "every" := ⟨T.sr_Residue_every, T.sg_Residue_every, T.pa_Residue_every, T.pr_Residue_every⟩
theorem T_s_Residue_meet (T : Txt K mg D) : XR.CStat K D.c_Residue D.p_Residue_meet D.a_Residue_meet "meet" := ⟨T.sr_Residue_meet, T.sg_Residue_meet, T.pa_Residue_meet, T.pr_Residue_meet⟩
theorem T_ox_Disjoint (T : Txt K mg D) : OexC K D.c_Disjoint := ⟨T.oxl_Disjoint, T.xsa_Disjoint, T.xbe_Disjoint, T.xty_Disjoint, T.k_Disjoint⟩
theorem T_as_Disjoint (T : Txt K mg D) : XR.Asks K D.c_Disjoint := ⟨T.xga_Disjoint, T.xgg_Disjoint, T.xbe_Disjoint, T.xhd_Disjoint, T.xca_Disjoint, T.cn_, T.ct_, T.xmo_Disjoint⟩
theorem T_xf_Disjoint (T : Txt K mg D) : XfC K D.c_Disjoint := ⟨T.xga_Disjoint, T.xgg_Disjoint, T.xbe_Disjoint, T.xhd_Disjoint⟩
theorem T_ox_OutOfRange (T : Txt K mg D) : OexC K D.c_OutOfRange := ⟨T.oxl_OutOfRange, T.xsa_OutOfRange, T.xbe_OutOfRange, T.xty_OutOfRange, T.k_OutOfRange⟩
theorem T_as_OutOfRange (T : Txt K mg D) : XR.Asks K D.c_OutOfRange := ⟨T.xga_OutOfRange, T.xgg_OutOfRange, T.xbe_OutOfRange, T.xhd_OutOfRange, T.xca_OutOfRange, T.cn_, T.ct_, T.xmo_OutOfRange⟩
theorem T_xf_OutOfRange (T : Txt K mg D) : XfC K D.c_OutOfRange := ⟨T.xga_OutOfRange, T.xgg_OutOfRange, T.xbe_OutOfRange, T.xhd_OutOfRange⟩
end

section
variable {K : PySem.W.Frag} {mg : Str → Option Value} {D : Ad}
theorem T_o_Residue___eq__ (T : Txt K mg D) : XR.OwnE K D.c_Residue D.a_Residue___eq__ := ⟨T.m_Residue___eq__, T.i_Residue___eq__, T.ne_Residue, T.ymo_Residue⟩
theorem T_o_Residue___contains__ (T : Txt K mg D) : XR.OwnM K D.c_Residue D.a_Residue___contains__ "__contains__" := ⟨T.m_Residue___contains__, T.i_Residue___contains__⟩
theorem T_o_Residue___and__ (T : Txt K mg D) : XR.OwnB K D.c_Residue D.a_Residue___and__ .BitAnd := ⟨T.ysf_Residue, T.h_Residue___and__, T.i_Residue___and__, T.r_Residue___and__⟩
end
local macro_rules | `(tactic| walk_at "ne") => `(tactic| first | assumption | (apply Ne.symm; assumption) | exact XR.ne_fresh (by assumption) (by walk_at "hp") | exact Ne.symm (XR.ne_fresh (by assumption) (by walk_at "hp")))
local macro_rules | `(tactic| walk_at "hp") => `(tactic| first | assumption | exact upd_same | (refine Eq.trans (upd_ne ?_) ?_; (walk_at "ne"); walk_at "hp"))
local macro_rules | `(tactic| walk_at "sq") => `(tactic| first | walk_at "hp" | exact SqL.of (by walk_at "hp") | exact SqT.of (by walk_at "hp") | exact XR.SqT.same (by assumption) (by assumption) | exact XR.SqL.same (by assumption) (by assumption))
local macro_rules | `(tactic| walk_at "br") => `(tactic| (refine ite2 ?_ ?_ <;> intro hbr <;> (try simp only [decide_eq_true_eq, decide_eq_false_iff_not, V.int.injEq, V.bl.injEq, V.str.injEq, Bool.not_eq_true, Bool.not_eq_eq_eq_not, Bool.not_true, Bool.not_false, ne_eq, Int.reduceToNat, Int.reducePow, Int.reduceMul, Int.reduceAdd, Int.reduceSub, reduceCtorEq, not_true_eq_false, not_false_eq_true, Int.not_lt, Int.not_le] at hbr)))
local macro_rules | `(tactic| walk_at "side") => `(tactic| first
  | exact ⟨by decide, by decide, by decide⟩
  | exact .inl ⟨by decide, by decide⟩
  | exact .inr ⟨by decide, by decide⟩
  | exact XR.divw (by first | decide | omega) (by first | decide | omega)
  | (show (_ : Int) = _; first | rfl | omega)
  | (show (0 : Int) < _; first | decide | assumption | omega)
  | exact .inl ⟨by omega, by omega⟩
  | exact .inr ⟨by omega, by omega⟩
  | exact .inl (XR.cmul_mod (by decide))
  | exact XR.log_lt (by omega) (by omega)
  | decide
  | (rw [sizeLine_eq]; simp; done)
  | (show 2 ≤ sizeLine; decide) | (show 3 ≤ sizeLine; decide) | (show 4 ≤ sizeLine; decide) | (show 5 ≤ sizeLine; decide) | (show 6 ≤ sizeLine; decide) | (show 7 ≤ sizeLine; decide) | (show 1 ≤ sizeLine; decide) | (show 8 ≤ sizeLine; decide) | (show 0 ≤ sizeLine; decide))
local macro_rules | `(tactic| walk_at "rd1") => `(tactic| first
  | refine ⟨_, rfl, ?_⟩
  | refine ⟨_, _, rfl, rfl, ?_⟩
  | refine ⟨_, _, _, _, rfl, rfl, (by walk_at "sq"), rfl, ?_⟩
  | refine ⟨_, _, _, _, rfl, rfl, (by walk_at "hp"), (by walk_at "hp"), (by walk_at "side"), ?_⟩
  | refine ⟨_, _, rfl, .inl (by walk_at "sq"), ?_⟩
  | refine ⟨_, _, rfl, .inl ⟨(by walk_at "sq"), ?_⟩⟩
  | refine ⟨_, _, rfl, .inr (by walk_at "sq"), ?_⟩
  | refine ⟨_, _, _, _, _, rfl, (by walk_at "hp"), (by walk_at "cls"), (by walk_at "noat"), rfl, ?_⟩
  | refine ⟨_, _, _, _, rfl, rfl, (by walk_at "sq"), (by first | assumption | exact XR.at0 | exact XR.at1), ?_⟩
  | refine ⟨rfl, ?_⟩
  | refine And.intro (by walk_at "side") ?_
  | refine .inl ⟨_, rfl, ?_⟩
  | refine And.intro ⟨_, (by walk_at "sq")⟩ ?_
  | refine ⟨_, _, rfl, (by walk_at "sq"), ?_⟩
  | refine ⟨_, _, rfl, ?_⟩
  | refine .inr ⟨_, rfl, (by walk_at "side"), ?_⟩
  | refine ⟨_, _, _, rfl, (by walk_at "hp"), ?_⟩
  | refine iteT ?_
  | refine iteF ?_)
local macro_rules | `(tactic| walk_at "rd") => `(tactic| repeat (walk_at "rd1"))
local macro_rules | `(tactic| walk_at "nn") => `(tactic| (simp only [Int.reduceToNat, Int.reducePow, Int.reduceMul, Int.reduceAdd, Int.reduceSub, Int.reduceNeg]))
local macro_rules | `(tactic| walk_at "dr") => `(tactic| repeat (first | refine And.intro (by first | assumption | walk_at "pre") ?_ | refine And.intro (by first | decide | omega) ?_))
local macro_rules | `(tactic| walk_at "cls") => `(tactic| first | exact T_cl_Residue (by assumption))
local macro_rules | `(tactic| walk_at "noat") => `(tactic| first | exact Txt.no_Residue_place (by assumption) | exact Txt.no_Residue_length (by assumption))
section
variable {P : Program} {w : World} {K : PySem.W.Frag} {mg : Str → Option Value} {base : Heap} {D : Ad}
def BoxAt (H : Hp) (b : Addr) : Prop := ∃ (c : Addr) (cs : List Int) (i big turn seed : Int), H b = some (.lst [.ref c, .int i, .int big, .int turn, .int seed]) ∧ H c = some (.lst (cs.map V.int)) ∧ c ≠ b ∧ 0 ≤ i ∧ 0 ≤ big
theorem BoxAt.new {H : Hp} {b t : Addr} {o : HO} (h : BoxAt H b) (n : H t = none) : BoxAt (L2.upd H t o) b := by
  obtain ⟨c, cs, i, g, t, s, e1, e2, r⟩ := h
  exact ⟨c, cs, i, g, t, s, by rw [upd_ne (ne_of_none e1 n)]; exact e1, by rw [upd_ne (ne_of_none e2 n)]; exact e2, r⟩
theorem BoxAt.ne {H : Hp} {b t : Addr} (h : BoxAt H b) (n : H t = none) : t ≠ b := by
  obtain ⟨c, cs, i, g, t, s, e1, _⟩ := h
  exact (ne_of_none e1 n).symm
theorem BoxAt.some {H : Hp} {b : Addr} (h : BoxAt H b) : H b ≠ none := by
  obtain ⟨c, cs, i, g, t, s, e1, _⟩ := h
  rw [e1]
  exact fun z => by cases z
theorem BoxAt.same {H H' : Hp} {b : Addr} (h : BoxAt H b) (x : Same H H') : BoxAt H' b := by
  obtain ⟨c, cs, i, g, t, s, e1, e2, r⟩ := h
  exact ⟨c, cs, i, g, t, s, x _ _ e1, x _ _ e2, r⟩
/-- the box does not hold the list at l -/
def BoxFree (H : Hp) (b l : Addr) : Prop := l ≠ b ∧ ∃ (c : Addr) (cs : List Int) (i big turn seed : Int), H b = some (.lst [.ref c, .int i, .int big, .int turn, .int seed]) ∧ H c = some (.lst (cs.map V.int)) ∧ c ≠ b ∧ 0 ≤ i ∧ 0 ≤ big ∧ l ≠ c
theorem BoxFree.at {H : Hp} {b l : Addr} (h : BoxFree H b l) : BoxAt H b := by
  obtain ⟨n, c, cs, i, g, t, s, e1, e2, e3, e4, e5, _⟩ := h
  exact ⟨c, cs, i, g, t, s, e1, e2, e3, e4, e5⟩
theorem BoxFree.of {H : Hp} {b l : Addr} {o : HO} (h : BoxAt H b) (n : H l = none) : BoxFree (L2.upd H l o) b l := by
  obtain ⟨c, cs, i, g, t, s, e1, e2, e3, e4, e5⟩ := h
  have n1 := ne_of_none e1 n
  have n2 := ne_of_none e2 n
  exact ⟨n1.symm, c, cs, i, g, t, s, by rw [upd_ne n1]; exact e1, by rw [upd_ne n2]; exact e2, e3, e4, e5, n2.symm⟩
theorem BoxFree.put {H : Hp} {b l : Addr} {o : HO} (h : BoxFree H b l) : BoxFree (L2.upd H l o) b l := by
  obtain ⟨n, c, cs, i, g, t, s, e1, e2, e3, e4, e5, e6⟩ := h
  exact ⟨n, c, cs, i, g, t, s, by rw [upd_ne n.symm]; exact e1, by rw [upd_ne e6.symm]; exact e2, e3, e4, e5, e6⟩
theorem BoxFree.new {H : Hp} {b l p : Addr} {o : HO} (h : BoxFree H b l) (z : H p = none) : BoxFree (L2.upd H p o) b l := by
  obtain ⟨n, c, cs, i, g, t, s, e1, e2, e3, e4, e5, e6⟩ := h
  exact ⟨n, c, cs, i, g, t, s, by rw [upd_ne (ne_of_none e1 z)]; exact e1, by rw [upd_ne (ne_of_none e2 z)]; exact e2, e3, e4, e5, e6⟩
local macro_rules | `(tactic| walk_at "pre") => `(tactic| first | assumption | exact BoxAt.new (by walk_at "pre") (by assumption) | exact BoxAt.same (by walk_at "pre") (by assumption))
/-- a drawn number -/
def Drawn (b : Addr) (H : Hp) (lo hi : Int) (Q : VK) : Prop := ∀ r H', lo ≤ r → r < hi → BoxAt H' b → ExB b H H' → (∀ l, BoxFree H b l → BoxFree H' b l) → Q (.int r) H'
def spBox (K : PySem.W.Frag) : Sp := fun vs H Q _ => ∃ (a : Addr) (ns : List Int), vs = [.ref a] ∧ SqL K H a (ns.map V.int) ∧ ns.length ≤ 63 ∧ ∀ b H', H b = none → Same H H' → BoxAt H' b → Q (.ref b) H'
def spDraw : Sp := fun vs H Q _ => ∃ (b : Addr) (n : Int), vs = [.ref b, .int n] ∧ BoxAt H b ∧ 0 < n ∧ n < 2 ^ 63 ∧ Drawn b H 0 n Q
def spNum : Sp := fun vs H Q _ => ∃ (x : Int), vs = [.int x] ∧ Q (.bl true) H
theorem sc__law_box : FnScope ["_law_script", "_law_seed", "_law_k"] ["_law_script"] (defScope s__law_box) := ⟨rfl, rfl, rfl, by decide +kernel, rfl, by decide +kernel, by decide +kernel⟩
theorem ok__law_box (T : Txt K mg D) : FnOk P w K mg base CX0 1 D.a__law_box D.d__law_box ["_law_script"] (spBox K) := by
  refine T.F__law_box.ok sc__law_box (fun vs H Q E h => ?_) (fun cdv A outer s H vs Q E hr h => ?_)
  · obtain ⟨a, ns, rfl, _⟩ := h
    rfl
  · obtain ⟨a, ns, rfl, hS, hl, k⟩ := h
    refine ⟨_, (pss_cons (ps_set (i := 1) sc__law_box.nd rfl (Or.inl rfl) pe_int)
      (pss_cons (ps_for PassesOwn.never rfl (pi_range1 (by rfl) T.n_range (pa_cons (pe_callB (call_min2 rfl) (by rfl) T.n_min (by decide +kernel) (pa_cons pe_int (pa_cons (pe_callB call_len_seq (by rfl) T.n_len (by decide +kernel) (pa_cons (pv 0) pa_nil)) pa_nil))) pa_nil)) (pg_name (i := 2) sc__law_box.nd rfl (Or.inl rfl))
      (pss_one (ps_set (i := 1) sc__law_box.nd rfl (Or.inl rfl) (pe_op op_add (pv 1) (pe_op op_mul (pe_op op_mod (pe_callTy call_int1 (by rfl) T.n_int (by decide +kernel) (pa_cons (pe_ix ix_list (pv 0) (pv 2) (fun _ _ => rfl)) pa_nil)) pe_int) (pe_op op_add (pv 2) pe_int))))))
      (pss_one (ps_ret (pe_lst (pa_cons (pe_slice sl_list (pv 0) po_none (po_some pe_int)) (pa_cons pe_int (pa_cons pe_int (pa_cons pe_int (pa_cons (pv 1) pa_nil)))))))))), ?_⟩
    walk_at "rd"
    have e : (if ((ns.map V.int).length : Int) < 63 then ((ns.map V.int).length : Int) else 63) = (ns.length : Int) := by
      rw [List.length_map]
      split <;> omega
    rw [e, Int.toNat_natCast]
    refine ⟨by omega, by omega, ?_⟩
    refine for_range (fun i σ H2 => Stop (∃ (v : Option V) (sd : Int), σ = [some (.ref a), some (.int sd), v] ∧ H2 = H)) (.go ⟨none, 0, rfl, rfl⟩) ?_ ?_
    · intro i σ H2 hi hm
      obtain ⟨v, sd, rfl, rfl⟩ := hm.out
      obtain ⟨z, hz⟩ := at_ints (cs := ns) (i := 0 + (i : Int)) (by omega) (by rw [List.length_map]; omega)
      walk_at "rd"
      exact .go ⟨_, _, rfl, rfl⟩
    · intro σ H2 hm
      obtain ⟨v, sd, rfl, rfl⟩ := hm.out
      walk_at "rd"
      intro p hp
      walk_at "rd"
      intro q hq
      have npq : p ≠ q := XR.ne_fresh hq upd_same
      refine k q _ (none_back (Same.new (Same.refl _) hp) hq) (Same.new (Same.new (Same.refl _) hp) hq) ⟨p, ns.take 63, 0, 0, 0, sd, upd_same, ?_, npq, Int.le_refl _, Int.le_refl _⟩
      rw [upd_ne npq, upd_same]
      exact congrArg (fun l => some (HO.lst l)) (cutV_take ns 63)
theorem sc__law_draw : FnScope ["_law_box_here", "_law_size", "_law_turn", "_law_cell", "_law_rest", "_law_once", "_law_twice"] ["_law_box_here", "_law_size"] (defScope s__law_draw) := ⟨rfl, rfl, rfl, by decide +kernel, rfl, by decide +kernel, by decide +kernel⟩
theorem ok__law_draw (T : Txt K mg D) : FnOk P w K mg base CX0 1 D.a__law_draw D.d__law_draw ["_law_box_here", "_law_size"] spDraw := by
  refine T.F__law_draw.ok sc__law_draw (fun vs H Q E h => ?_) (fun cdv A outer s H vs Q E hr h => ?_)
  · obtain ⟨b, n, rfl, _⟩ := h
    rfl
  · obtain ⟨b, n, rfl, ⟨c, cs, i, big, turn, seed, hb, hc, hcb, hi, hbig⟩, hn, hn2, k⟩ := h
    refine ⟨_, (pss_cons (ps_set (i := 2) sc__law_draw.nd rfl (Or.inl rfl) (pe_ix ix_list (pv 0) pe_int (fun _ _ => rfl)))
      (pss_cons (ps_asg (pe_op op_add (pv 2) pe_int) (pg_sub (pv 0) pe_int set_list))
      (pss_cons (ps_set (i := 3) sc__law_draw.nd rfl (Or.inl rfl) (pe_ix ix_list (pv 0) pe_int (fun _ _ => rfl)))
      (Evl.pss_cut (ps_if (PW.pt (pw_and (pt_cmpR op_eq (pe_ix ix_list (pv 0) pe_int (fun _ _ => rfl)) pe_int (nomark _)) (pw_and1 (pt_cmpR op_lt (pe_ix ix_list (pv 0) pe_int (fun _ _ => rfl)) (pe_callB call_len_seq (by rfl) T.n_len (by decide +kernel) (pa_cons (pe_ix ix_list (pv 0) pe_int (fun _ _ => rfl)) pa_nil)) (nomark _)))))
      (pss_cons (ps_set (i := 3) sc__law_draw.nd rfl (Or.inl rfl) (pe_callTy call_int1 (by rfl) T.n_int (by decide +kernel) (pa_cons (pe_ix ix_list (pe_ix ix_list (pv 0) pe_int (fun _ _ => rfl)) (pe_ix ix_list (pv 0) pe_int (fun _ _ => rfl)) (fun _ _ => rfl)) pa_nil)))
      (pss_cons (ps_asg (pe_op op_add (pe_ix ix_list (pv 0) pe_int (fun _ _ => rfl)) pe_int) (pg_sub (pv 0) pe_int set_list))
      (pss_one (ps_if (pt_cmpR op_ge (pe_callB call_abs (by rfl) T.n_abs (by decide +kernel) (pa_cons (pv 3) pa_nil)) (pe_op op_pow pe_int pe_int) (nomark _))
      (pss_one (ps_asg (pe_callB call_abs (by rfl) T.n_abs (by decide +kernel) (pa_cons (pv 3) pa_nil)) (pg_sub (pv 0) pe_int set_list)))
      pss_nil))))
      pss_nil)
      (pss_cons (ps_if (pt_cmpR op_gt (pe_ix ix_list (pv 0) pe_int (fun _ _ => rfl)) pe_int (nomark _))
      (pss_cons (ps_set (i := 4) sc__law_draw.nd rfl (Or.inl rfl) (pe_callTy call_int1 (by rfl) T.n_int (by decide +kernel) (pa_cons (pe_ix ix_list (pv 0) pe_int (fun _ _ => rfl)) pa_nil)))
      (pss_cons (ps_asg (pe_op op_fdivW (pv 4) (pv 1)) (pg_sub (pv 0) pe_int set_list))
      (pss_one (ps_ret (pe_op op_mod (pv 4) (pv 1))))))
      pss_nil)
      (pss_cons (ps_set (i := 5) sc__law_draw.nd rfl (Or.inl rfl) (pe_op op_mod (pe_callTy call_int1 (by rfl) T.n_int (by decide +kernel) (pa_cons (pe_op op_add (pe_op op_add (pe_op op_mul (pv 3) pe_int) (pe_op op_mul (pv 2) pe_int)) pe_int) pa_nil)) pe_int))
      (pss_cons (ps_set (i := 6) sc__law_draw.nd rfl (Or.inl rfl) (pe_op op_mod (pe_callTy call_int1 (by rfl) T.n_int (by decide +kernel) (pa_cons (pe_op op_add (pe_op op_add (pe_op op_mul (pv 5) (pv 5)) (pe_op op_mul (pv 3) pe_int)) (pe_op op_mul (pv 2) pe_int)) pa_nil)) pe_int))
      (pss_one (ps_ret (pe_op op_mod (pe_callTy call_int1 (by rfl) T.n_int (by decide +kernel) (pa_cons (pe_op op_add (pe_op op_add (pv 6) (pe_op op_mul pe_int (pv 5))) (pe_op op_mul pe_int (pv 3))) pa_nil)) (pv 1))))))))))), ?_⟩
    walk_at "rd"
    refine ⟨fun σ' H' => Stop (∃ (cell i' big' : Int), σ' = [some (.ref b), some (.int n), some (.int turn), some (.int cell), none, none, none] ∧ 0 ≤ i' ∧ 0 ≤ big' ∧ H' b = some (.lst [.ref c, .int i', .int big', .int (turn + 1), .int seed]) ∧ ExB b H H'), ?_, ?_⟩
    · walk_at "rd"
      walk_at "br"
      · walk_at "rd"
        walk_at "br"
        · obtain ⟨z, hz⟩ := at_ints hi (by assumption)
          walk_at "rd"
          walk_at "br"
          · walk_at "rd"
            exact .go ⟨z, i + 1, _, rfl, by omega, (by split <;> omega), upd_same, ((ExB.refl.upd).upd).upd⟩
          · exact .go ⟨z, i + 1, big, rfl, by omega, hbig, upd_same, (ExB.refl.upd).upd⟩
        · exact .go ⟨seed, i, big, rfl, hi, hbig, upd_same, ExB.refl.upd⟩
      · walk_at "rd"
        exact .go ⟨seed, i, big, rfl, hi, hbig, upd_same, ExB.refl.upd⟩
    · intro σ1 H1 hm
      obtain ⟨cell, i1, big1, rfl, hi1, hbig1, hb1, x1⟩ := hm.out
      walk_at "rd"
      walk_at "br"
      · walk_at "rd"
        have hc1 := x1 c _ hcb hc
        refine k _ _ (Int.emod_nonneg _ (by omega)) (Int.emod_lt_of_pos _ hn) ?_ x1.upd ?_
        · exact ⟨c, cs, i1, big1 / n, _, _, upd_same, by rw [upd_ne hcb]; exact hc1, hcb, hi1, Int.ediv_nonneg hbig1 (by omega)⟩
        · rintro l ⟨nl, c', _, _, _, _, _, f1, _, _, _, _, f6⟩
          rw [hb] at f1
          cases f1
          exact ⟨nl, c, cs, i1, big1 / n, _, _, upd_same, by rw [upd_ne hcb]; exact hc1, hcb, hi1, Int.ediv_nonneg hbig1 (by omega), f6⟩
      · walk_at "rd"
        refine k _ _ (Int.emod_nonneg _ (by omega)) (Int.emod_lt_of_pos _ hn) ⟨c, cs, i1, big1, _, _, hb1, x1 c _ hcb hc, hcb, hi1, hbig1⟩ x1 ?_
        rintro l ⟨nl, c', _, _, _, _, _, f1, _, _, _, _, f6⟩
        rw [hb] at f1
        cases f1
        exact ⟨nl, c, cs, i1, big1, _, _, hb1, x1 c _ hcb hc, hcb, hi1, hbig1, f6⟩
theorem sc__law_is_number : FnScope ["_law_value"] ["_law_value"] (defScope s__law_is_number) := ⟨rfl, rfl, rfl, by decide +kernel, rfl, by decide +kernel, by decide +kernel⟩
theorem ok__law_is_number (T : Txt K mg D) : FnOk P w K mg base CX0 1 D.a__law_is_number D.d__law_is_number ["_law_value"] spNum := by
  refine T.F__law_is_number.ok sc__law_is_number (fun vs H Q E h => ?_) (fun cdv A outer s H vs Q E hr h => ?_)
  · obtain ⟨x, rfl, _⟩ := h
    rfl
  · obtain ⟨x, rfl, k⟩ := h
    refine ⟨_, (pss_one (ps_ret (pe_and (pe_callB call_isi (by rfl) T.n_isinstance (by decide +kernel) (pa_cons (pv 0) (pa_cons (pe_bltn (v := .ty "int") (u := .type "int") (by rfl) T.n_int (by decide +kernel) rfl) pa_nil))) (pe_one (pe_not (pe_callB call_isi (by rfl) T.n_isinstance (by decide +kernel) (pa_cons (pv 0) (pa_cons (pe_bltn (v := .ty "bool") (u := .type "bool") (by rfl) T.n_bool (by decide +kernel) rfl) pa_nil)))))))), ?_⟩
    walk_at "rd"
    refine ⟨_, _, _, _, true, rfl, .ty "int", .base (.int _), kit_ty (by decide +kernel), ?_⟩
    walk_at "rd"
    refine ⟨_, _, _, _, false, rfl, .ty "bool", .base (.int _), kit_ty (by decide +kernel), ?_⟩
    walk_at "rd"
    exact k
def spGcd : Sp := fun vs H Q _ => ∃ (a b : Int), vs = [.int a, .int b] ∧ 0 ≤ a ∧ 0 ≤ b ∧ Q (.int ((Nat.gcd a.toNat b.toNat : Nat) : Int)) H
def slotN (k : Nat) (σ : L2.St) : Nat := match σ.getD k none with | some (.int z) => z.toNat | _ => 0
theorem sc__law_gcd : FnScope ["_law_first", "_law_second", "_law_rest"] ["_law_first", "_law_second"] (defScope s__law_gcd) := ⟨rfl, rfl, rfl, by decide +kernel, rfl, by decide +kernel, by decide +kernel⟩
theorem ok__law_gcd (T : Txt K mg D) : FnOk P w K mg base CX0 1 D.a__law_gcd D.d__law_gcd ["_law_first", "_law_second"] spGcd := by
  refine T.F__law_gcd.ok sc__law_gcd (fun vs H Q E h => ?_) (fun cdv A outer s H vs Q E hr h => ?_)
  · obtain ⟨a, b, rfl, _⟩ := h
    rfl
  · obtain ⟨a, b, rfl, ha, hb, k⟩ := h
    refine ⟨_, (pss_cons (ps_while PassesOwn.never (pt_cmpR op_ne (pv 1) pe_int (nomark _))
      (pss_cons (ps_set (i := 2) sc__law_gcd.nd rfl (Or.inl rfl) (pe_op op_mod (pe_callTy call_int1 (by rfl) T.n_int (by decide +kernel) (pa_cons (pv 0) pa_nil)) (pv 1)))
      (pss_cons (ps_set (i := 0) sc__law_gcd.nd rfl (Or.inl rfl) (pv 1))
      (pss_one (ps_set (i := 1) sc__law_gcd.nd rfl (Or.inl rfl) (pv 2))))))
      (pss_one (ps_ret (pv 0)))), ?_⟩
    walk_at "rd"
    refine while_by (fun σ H2 => Stop (∃ (x y : Int) (v : Option V), σ = [some (.int x), some (.int y), v] ∧ H2 = H ∧ 0 ≤ x ∧ 0 ≤ y ∧ Nat.gcd x.toNat y.toNat = Nat.gcd a.toNat b.toNat)) (fun σ _ => slotN 1 σ) (.go ⟨a, b, none, rfl, rfl, ha, hb, rfl⟩) ?_ ?_
    · intro σ H2 hm
      obtain ⟨x, y, v, rfl, rfl, hx, hy, hg⟩ := hm.out
      walk_at "rd"
      walk_at "br"
      · rename_i hz
        have hy1 : 0 < y := by omega
        walk_at "rd"
        have m0 := Int.emod_nonneg x (b := y) (by omega)
        have m1 := Int.emod_lt_of_pos x hy1
        refine ⟨.go ⟨y, x % y, _, rfl, rfl, hy, m0, ?_⟩, ?_⟩
        · rw [← hg]
          have e : (x % y).toNat = x.toNat % y.toNat := by
            have := Int.toNat_emod hx hy
            exact this
          rw [e, Nat.gcd_comm x.toNat, Nat.gcd_rec y.toNat x.toNat, Nat.gcd_comm]
        · show (x % y).toNat < y.toNat
          omega
      · rename_i hz
        have hy0 : y = 0 := by omega
        subst hy0
        walk_at "rd"
        have e : x = ((Nat.gcd a.toNat b.toNat : Nat) : Int) := by
          rw [← hg]
          simp
          omega
        rw [e]
        exact k
    · intro σ H Q Q' m h
      unfold tTest tOp tVar tC rNe at *
      obtain ⟨v, e, c, t, et, q⟩ := h
      exact ⟨v, e, c, t, et, m _ _ q⟩
end
end Toy
set_option Elab.async false
set_option linter.all false
set_option maxRecDepth 100000
set_option maxHeartbeats 4000000
namespace Toy
open PySem L2 XR
local macro_rules | `(tactic| walk_at "ne") => `(tactic| first | assumption | (apply Ne.symm; assumption) | exact XR.ne_fresh (by assumption) (by walk_at "hp") | exact Ne.symm (XR.ne_fresh (by assumption) (by walk_at "hp")))
local macro_rules | `(tactic| walk_at "hp") => `(tactic| first | assumption | exact upd_same | (refine Eq.trans (upd_ne ?_) ?_; (walk_at "ne"); walk_at "hp"))
local macro_rules | `(tactic| walk_at "sq") => `(tactic| first | walk_at "hp" | exact SqL.of (by walk_at "hp") | exact SqT.of (by walk_at "hp") | exact XR.SqT.same (by assumption) (by assumption) | exact XR.SqL.same (by assumption) (by assumption))
local macro_rules | `(tactic| walk_at "br") => `(tactic| (refine ite2 ?_ ?_ <;> intro hbr <;> (try simp only [decide_eq_true_eq, decide_eq_false_iff_not, V.int.injEq, V.bl.injEq, V.str.injEq, Bool.not_eq_true, Bool.not_eq_eq_eq_not, Bool.not_true, Bool.not_false, ne_eq, Int.reduceToNat, Int.reducePow, Int.reduceMul, Int.reduceAdd, Int.reduceSub, reduceCtorEq, not_true_eq_false, not_false_eq_true, Int.not_lt, Int.not_le] at hbr)))
local macro_rules | `(tactic| walk_at "side") => `(tactic| first
  | exact ⟨by decide, by decide, by decide⟩
  | exact .inl ⟨by decide, by decide⟩
  | exact .inr ⟨by decide, by decide⟩
  | exact XR.divw (by first | decide | omega) (by first | decide | omega)
  | (show (_ : Int) = _; first | rfl | omega)
  | (show (0 : Int) < _; first | decide | assumption | omega)
  | exact .inl ⟨by omega, by omega⟩
  | exact .inr ⟨by omega, by omega⟩
  | exact .inl (XR.cmul_mod (by decide))
  | exact XR.log_lt (by omega) (by omega)
  | decide
  | (rw [sizeLine_eq]; simp; done)
  | (show 2 ≤ sizeLine; decide) | (show 3 ≤ sizeLine; decide) | (show 4 ≤ sizeLine; decide) | (show 5 ≤ sizeLine; decide) | (show 6 ≤ sizeLine; decide) | (show 7 ≤ sizeLine; decide) | (show 1 ≤ sizeLine; decide) | (show 8 ≤ sizeLine; decide) | (show 0 ≤ sizeLine; decide))
local macro_rules | `(tactic| walk_at "rd1") => `(tactic| first
  | refine ⟨_, rfl, ?_⟩
  | refine ⟨_, _, rfl, rfl, ?_⟩
  | refine ⟨_, _, _, _, rfl, rfl, (by walk_at "sq"), rfl, ?_⟩
  | refine ⟨_, _, _, _, rfl, rfl, (by walk_at "hp"), (by walk_at "hp"), (by walk_at "side"), ?_⟩
  | refine ⟨_, _, rfl, .inl (by walk_at "sq"), ?_⟩
  | refine ⟨_, _, rfl, .inl ⟨(by walk_at "sq"), ?_⟩⟩
  | refine ⟨_, _, rfl, .inr (by walk_at "sq"), ?_⟩
  | refine ⟨_, _, _, _, _, rfl, (by walk_at "hp"), (by walk_at "cls"), (by walk_at "noat"), rfl, ?_⟩
  | refine ⟨_, _, _, _, rfl, rfl, (by walk_at "sq"), (by first | assumption | exact XR.at0 | exact XR.at1), ?_⟩
  | refine ⟨rfl, ?_⟩
  | refine And.intro (by walk_at "side") ?_
  | refine .inl ⟨_, rfl, ?_⟩
  | refine And.intro ⟨_, (by walk_at "sq")⟩ ?_
  | refine ⟨_, _, rfl, (by walk_at "sq"), ?_⟩
  | refine ⟨_, _, rfl, ?_⟩
  | refine .inr ⟨_, rfl, (by walk_at "side"), ?_⟩
  | refine ⟨_, _, _, rfl, (by walk_at "hp"), ?_⟩
  | refine iteT ?_
  | refine iteF ?_)
local macro_rules | `(tactic| walk_at "rd") => `(tactic| repeat (walk_at "rd1"))
local macro_rules | `(tactic| walk_at "nn") => `(tactic| (simp only [Int.reduceToNat, Int.reducePow, Int.reduceMul, Int.reduceAdd, Int.reduceSub, Int.reduceNeg]))
local macro_rules | `(tactic| walk_at "dr") => `(tactic| repeat (first | refine And.intro (by first | assumption | walk_at "pre") ?_ | refine And.intro (by first | decide | omega) ?_))
local macro_rules | `(tactic| walk_at "cls") => `(tactic| first | exact T_cl_Residue (by assumption))
local macro_rules | `(tactic| walk_at "noat") => `(tactic| first | exact Txt.no_Residue_place (by assumption) | exact Txt.no_Residue_length (by assumption))
local macro_rules | `(tactic| walk_at "pre") => `(tactic| first | assumption | exact BoxAt.new (by walk_at "pre") (by assumption) | exact BoxAt.same (by walk_at "pre") (by assumption))
section
variable {P : Program} {w : World} {K : PySem.W.Frag} {mg : Str → Option Value} {base : Heap} {D : Ad}
/-! ### numbers -/
def gI (n m : Int) : Int := ((Nat.gcd n.toNat m.toNat : Nat) : Int)
theorem gI_pos {n m : Int} (h : 1 ≤ n) : 1 ≤ gI n m := by
  have := Nat.gcd_pos_of_pos_left m.toNat (show 0 < n.toNat by omega)
  unfold gI
  omega
theorem gI_le {n m : Int} (h : 1 ≤ n) : gI n m ≤ n := by
  have := Nat.gcd_le_left m.toNat (show 0 < n.toNat by omega)
  unfold gI
  omega
theorem gI_left {n m : Int} (h : 0 ≤ n) : gI n m ∣ n := by
  have e := Int.ofNat_dvd.mpr (Nat.gcd_dvd_left n.toNat m.toNat)
  rw [Int.toNat_of_nonneg h] at e
  exact e
theorem gI_right {n m : Int} (h : 0 ≤ m) : gI n m ∣ m := by
  have e := Int.ofNat_dvd.mpr (Nat.gcd_dvd_right n.toNat m.toNat)
  rw [Int.toNat_of_nonneg h] at e
  exact e
theorem gI_comm (n m : Int) : gI n m = gI m n := by unfold gI; rw [Nat.gcd_comm]
theorem dvd_gI {k n m : Int} (h0 : 0 ≤ n) (h1 : 0 ≤ m) (a : k ∣ n) (b : k ∣ m) : k ∣ gI n m := by
  rw [← Int.natAbs_dvd] at *
  have a' : k.natAbs ∣ n.toNat := by rw [← Int.ofNat_dvd, Int.toNat_of_nonneg h0]; exact a
  have b' : k.natAbs ∣ m.toNat := by rw [← Int.ofNat_dvd, Int.toNat_of_nonneg h1]; exact b
  exact Int.ofNat_dvd.mpr (Nat.dvd_gcd a' b')
theorem bez : ∀ (a b : Nat), ∃ u v : Int, ((Nat.gcd a b : Nat) : Int) = u * (a : Int) + v * (b : Int) := by
  intro a b
  induction a, b using Nat.gcd.induction with
  | H0 n => exact ⟨0, 1, by simp⟩
  | H1 m n hm ih =>
    obtain ⟨u, v, e⟩ := ih
    refine ⟨v - u * ((n / m : Nat) : Int), u, ?_⟩
    rw [Nat.gcd_rec, e]
    have q : ((n % m : Nat) : Int) = (n : Int) - (m : Int) * ((n / m : Nat) : Int) := by
      have := Nat.mod_add_div n m
      omega
    rw [q, Int.mul_sub, Int.sub_mul, Int.mul_comm (m : Int), ← Int.mul_assoc]
    omega
theorem gI_bez {n m : Int} (h0 : 0 ≤ n) (h1 : 0 ≤ m) : ∃ u v : Int, gI n m = u * n + v * m := by
  obtain ⟨u, v, e⟩ := bez n.toNat m.toNat
  rw [Int.toNat_of_nonneg h0, Int.toNat_of_nonneg h1] at e
  exact ⟨u, v, e⟩
def lcmI (n m : Int) : Int := n * (m / gI n m)
theorem ediv_pos' {m g : Int} (hm : 1 ≤ m) (hg : 1 ≤ g) (h : g ∣ m) : 1 ≤ m / g := by
  obtain ⟨k, rfl⟩ := h
  rw [Int.mul_ediv_cancel_left _ (by omega)]
  rcases Int.lt_or_le k 1 with q | q
  · have : g * k ≤ g * 0 := Int.mul_le_mul_of_nonneg_left (by omega) (by omega)
    omega
  · exact q
theorem lcmI_pos {n m : Int} (hn : 1 ≤ n) (hm : 1 ≤ m) : 1 ≤ lcmI n m := by
  have a := ediv_pos' hm (gI_pos (m := m) hn) (gI_right (n := n) (by omega))
  have := Int.mul_le_mul hn a (by omega) (by omega)
  unfold lcmI
  omega
theorem lcmI_le {n m : Int} (hn : 1 ≤ n) (hm : 1 ≤ m) : lcmI n m ≤ n * m := by
  unfold lcmI
  refine Int.mul_le_mul_of_nonneg_left ?_ (by omega)
  exact Int.ediv_le_self _ (by omega)
theorem lcmI_left {n m : Int} : n ∣ lcmI n m := ⟨_, rfl⟩
theorem lcmI_eq {n m : Int} (hm : 0 ≤ m) : lcmI n m * gI n m = n * m := by
  unfold lcmI
  rw [Int.mul_assoc, Int.ediv_mul_cancel (gI_right hm)]
theorem lcmI_comm {n m : Int} (hn : 1 ≤ n) (hm : 1 ≤ m) : lcmI n m = lcmI m n := by
  have a := lcmI_eq (n := n) (m := m) (by omega)
  have b := lcmI_eq (n := m) (m := n) (by omega)
  have g := gI_pos (m := m) hn
  refine Int.eq_of_mul_eq_mul_right (a := gI n m) (by omega) ?_
  rw [a, gI_comm n m, b, Int.mul_comm]
theorem lcmI_right {n m : Int} (hn : 1 ≤ n) (hm : 1 ≤ m) : m ∣ lcmI n m := by
  rw [lcmI_comm hn hm]
  exact lcmI_left
theorem lcmI_dvd {n m x : Int} (hn : 1 ≤ n) (hm : 1 ≤ m) (a : n ∣ x) (b : m ∣ x) : lcmI n m ∣ x := by
  obtain ⟨x1, e1⟩ := a
  obtain ⟨x2, e2⟩ := b
  obtain ⟨u, v, eg⟩ := gI_bez (n := n) (m := m) (by omega) (by omega)
  have el := lcmI_eq (n := n) (m := m) (by omega)
  have g := gI_pos (m := m) hn
  refine ⟨u * x2 + v * x1, ?_⟩
  refine Int.eq_of_mul_eq_mul_right (a := gI n m) (by omega) ?_
  rw [Int.mul_right_comm, el]
  calc x * gI n m = x * (u * n + v * m) := by rw [← eg]
    _ = u * n * x + v * m * x := by rw [Int.mul_add, Int.mul_comm x, Int.mul_comm x]
    _ = u * n * (m * x2) + v * m * (n * x1) := by rw [← e2, ← e1]
    _ = n * m * (u * x2 + v * x1) := by
      rw [Int.mul_add]
      congr 1
      · rw [Int.mul_comm u n, Int.mul_assoc, Int.mul_assoc, Int.mul_left_comm u m]
      · rw [Int.mul_comm v m, Int.mul_comm n m, Int.mul_assoc, Int.mul_assoc, Int.mul_left_comm v n]
/-- what divides the common multiple of a and b is met by what it has in common with each -/
theorem key {a b m x : Int} (ha : 1 ≤ a) (hb : 1 ≤ b) (hm : 1 ≤ m) (h : m ∣ lcmI a b) (h1 : gI a m ∣ x) (h2 : gI b m ∣ x) : m ∣ x := by
  have aux : ∀ {a b : Int}, 1 ≤ a → 1 ≤ b → m ∣ lcmI a b → gI b m ∣ x → m * gI a b ∣ a * x := fun {a b} ha hb h h2 => by
    obtain ⟨y, ey⟩ := h2
    obtain ⟨s, t, eb⟩ := gI_bez (n := b) (m := m) (by omega) (by omega)
    obtain ⟨z, ez⟩ := h
    obtain ⟨a1, ea⟩ := gI_left (n := a) (m := b) (by omega)
    have el := lcmI_eq (n := a) (m := b) (by omega)
    refine ⟨z * s * y + t * a1 * y, ?_⟩
    calc a * x = a * ((s * b + t * m) * y) := by rw [ey, eb]
      _ = (a * b) * (s * y) + a * (t * m * y) := by
        rw [Int.add_mul, Int.mul_add]
        congr 1
        rw [Int.mul_comm s b, Int.mul_assoc b, ← Int.mul_assoc a b]
      _ = (m * z * gI a b) * (s * y) + (gI a b * a1) * (t * m * y) := by rw [← el, ez, ← ea]
      _ = m * gI a b * (z * s * y + t * a1 * y) := by
        rw [Int.mul_add]
        congr 1
        · simp only [Int.mul_comm, Int.mul_left_comm, Int.mul_assoc]
        · simp only [Int.mul_comm, Int.mul_left_comm, Int.mul_assoc]
  have e1 := aux ha hb h h2
  have e2 := aux hb ha (lcmI_comm ha hb ▸ h) h1
  obtain ⟨u, v, eg⟩ := gI_bez (n := a) (m := b) (by omega) (by omega)
  have g := gI_pos (m := b) ha
  rw [gI_comm b a] at e2
  have e3 : m * gI a b ∣ gI a b * x := by
    have : gI a b * x = u * (a * x) + v * (b * x) := by
      calc gI a b * x = (u * a + v * b) * x := by rw [← eg]
        _ = _ := by rw [Int.add_mul, Int.mul_assoc, Int.mul_assoc]
    rw [this]
    exact Int.dvd_add (Int.dvd_mul_of_dvd_right e1) (Int.dvd_mul_of_dvd_right e2)
  rw [Int.mul_comm m] at e3
  exact Int.dvd_of_mul_dvd_mul_left (by omega) e3
def lcs : List (Int × Int) → Int → Int
  | [], l => l
  | c :: r, l => lcs r (lcmI l c.2)
theorem lcs_take : ∀ (ss : List (Int × Int)) (l : Int) (i : Nat) (c : Int × Int), ss[i]? = some c → lcs (ss.take (i + 1)) l = lcmI (lcs (ss.take i) l) c.2
  | [], _, _, _, h => by cases h
  | x :: r, l, 0, c, h => by cases h; simp [lcs]
  | x :: r, l, i + 1, c, h => by
    simp only [List.take_succ_cons, lcs]
    exact lcs_take r _ i c h
theorem lcs_pos : ∀ (ss : List (Int × Int)) (l : Int), 1 ≤ l → (∀ c ∈ ss, 1 ≤ c.2) → 1 ≤ lcs ss l
  | [], _, h, _ => h
  | x :: r, l, h, hs => lcs_pos r _ (lcmI_pos h (hs x List.mem_cons_self)) fun c hc => hs c (List.mem_cons_of_mem _ hc)
theorem lcs_base : ∀ (ss : List (Int × Int)) (l : Int), l ∣ lcs ss l
  | [], l => Int.dvd_refl l
  | x :: r, l => Int.dvd_trans lcmI_left (lcs_base r _)
theorem lcs_mem : ∀ (ss : List (Int × Int)) (l : Int), 1 ≤ l → (∀ c ∈ ss, 1 ≤ c.2) → ∀ c ∈ ss, c.2 ∣ lcs ss l
  | [], _, _, _, c, hc => absurd hc (by simp)
  | x :: r, l, h, hs, c, hc => by
    have hx := hs x List.mem_cons_self
    rcases List.mem_cons.mp hc with rfl | q
    · exact Int.dvd_trans (lcmI_right h hx) (lcs_base r _)
    · exact lcs_mem r _ (lcmI_pos h hx) (fun c hc => hs c (List.mem_cons_of_mem _ hc)) c q
theorem gI_mono {a b n m : Int} (ha : 0 ≤ a) (hb : 0 ≤ b) (hn : 0 ≤ n) (hm : 0 ≤ m) (h1 : a ∣ b) (h2 : n ∣ m) : gI a n ∣ gI b m :=
  dvd_gI hb hm (Int.dvd_trans (gI_left ha) h1) (Int.dvd_trans (gI_right hn) h2)
theorem lcs_all {n x : Int} (hn : 1 ≤ n) : ∀ (ss : List (Int × Int)) (l : Int), 1 ≤ l → (∀ c ∈ ss, 1 ≤ c.2) → gI l n ∣ x → (∀ c ∈ ss, gI c.2 n ∣ x) → gI (lcs ss l) n ∣ x
  | [], _, _, _, h, _ => h
  | c :: r, l, h, hs, h0, h1 => by
    have hc := hs c List.mem_cons_self
    have hp := lcmI_pos h hc
    refine lcs_all hn r _ hp (fun c hc => hs c (List.mem_cons_of_mem _ hc)) ?_ fun c hc => h1 c (List.mem_cons_of_mem _ hc)
    have hx := gI_pos (n := lcmI l c.2) (m := n) hp
    have hr := gI_right (n := lcmI l c.2) (m := n) (by omega)
    refine key h hc hx (gI_left (by omega)) ?_ ?_
    · exact Int.dvd_trans (gI_mono (by omega) (by omega) (by omega) (by omega) (Int.dvd_refl _) hr) h0
    · exact Int.dvd_trans (gI_mono (by omega) (by omega) (by omega) (by omega) (Int.dvd_refl _) hr) (h1 c List.mem_cons_self)
/-- a day that all of the row have has one in common with the next exactly if each of them has -/
theorem meet_iff {ss : List (Int × Int)} {c : Int} {p : Int × Int} (hs : ∀ c ∈ ss, 1 ≤ c.2) (hp : 1 ≤ p.2) (hc : ∀ r ∈ ss, r.2 ∣ c - r.1) : gI (lcs ss 1) p.2 ∣ p.1 - c ↔ ∀ r ∈ ss, gI r.2 p.2 ∣ p.1 - r.1 := by
  have hl := lcs_pos ss 1 (by omega) hs
  constructor
  · intro h r hr
    have h1 := hs r hr
    have a := Int.dvd_trans (gI_mono (by omega) (by omega) (by omega) (by omega) (lcs_mem ss 1 (by omega) hs r hr) (Int.dvd_refl p.2)) h
    have b := Int.dvd_trans (gI_left (m := p.2) (show 0 ≤ r.2 by omega)) (hc r hr)
    have := Int.dvd_add a b
    rwa [show p.1 - c + (c - r.1) = p.1 - r.1 by omega] at this
  · intro h
    have g1 : gI 1 p.2 = 1 := by
      have := gI_le (n := 1) (m := p.2) (by omega)
      have := gI_pos (n := 1) (m := p.2) (by omega)
      omega
    refine lcs_all hp ss 1 (by omega) hs (by rw [g1]; exact Int.one_dvd _) fun r hr => ?_
    have h1 := hs r hr
    have b := Int.dvd_trans (gI_left (m := p.2) (show 0 ≤ r.2 by omega)) (hc r hr)
    have := Int.dvd_sub (h r hr) b
    rwa [show p.1 - r.1 - (c - r.1) = p.1 - c by omega] at this
/-- a place behind so many turns -/
theorem crt {a b n m i t : Int} (hn : 1 ≤ n) (hm : 1 ≤ m) (hd : gI n m ∣ b - a) (hi : m / gI n m ∣ i * (n / gI n m) - 1) (ht : t = ((b - a) / gI n m * i) % (m / gI n m)) : m ∣ a + t * n - b := by
  have g := gI_pos (m := m) hn
  obtain ⟨y, ey⟩ := hd
  obtain ⟨N, eN⟩ := gI_left (n := n) (m := m) (by omega)
  obtain ⟨M, eM⟩ := gI_right (n := n) (m := m) (by omega)
  generalize gI n m = d at *
  have d1 : n / d = N := by rw [eN]; exact Int.mul_ediv_cancel_left _ (by omega)
  have d2 : m / d = M := by rw [eM]; exact Int.mul_ediv_cancel_left _ (by omega)
  have d3 : (b - a) / d = y := by rw [ey]; exact Int.mul_ediv_cancel_left _ (by omega)
  rw [d1, d2] at hi
  rw [d2, d3] at ht
  have h1 : M ∣ y * i - t := by
    rw [ht]
    exact ⟨y * i / M, by have := Int.emod_add_mul_ediv (y * i) M; omega⟩
  have h2 : M ∣ t * N - y := by
    have x1 : M ∣ (y * i - t) * N := Int.dvd_mul_of_dvd_left h1
    have x2 : M ∣ y * (i * N - 1) := Int.dvd_mul_of_dvd_right hi
    have := Int.dvd_sub x2 x1
    rwa [show y * (i * N - 1) - (y * i - t) * N = t * N - y by
      rw [Int.mul_sub, Int.sub_mul, Int.mul_assoc]; omega] at this
  have h3 : d * M ∣ d * (t * N - y) := Int.mul_dvd_mul_left d h2
  rw [← eM, Int.mul_sub, ← ey] at h3
  have : a + t * n - b = d * (t * N) - (b - a) := by rw [eN, Int.mul_left_comm]; omega
  rw [this]
  exact h3
/-! ### residues -/
def fsR (a n : Int) : List (Str × V) := [("place", .int a), ("length", .int n)]
def ResAt (D : Ad) (H : Hp) (p : Addr) (a n : Int) : Prop := ∃ dx, H p = some (.ins D.c_Residue dx (fsR a n))
theorem ResAt.same {D : Ad} {H H' : Hp} {p : Addr} {a n : Int} (s : ResAt D H p a n) (x : Same H H') : ResAt D H' p a n := let ⟨dx, e⟩ := s; ⟨dx, x _ _ e⟩
def spInit (D : Ad) : Sp := fun vs H Q E => ∃ (p dx : Addr) (a n : Int), vs = [.ref p, .int a, .int n] ∧ H p = some (.ins D.c_Residue dx []) ∧ n < 2 ^ 63 ∧
  (n < 1 → Wish D.c_OutOfRange [("value", .int n)] H E) ∧
  (1 ≤ n → ∀ H', (∀ q o, q ≠ p → H q = some o → H' q = some o) → H' p = some (.ins D.c_Residue dx (fsR (a % n) n)) → Q .non H')
theorem mk2 {D : Ad} {H : Hp} {a n : Int} {Q : VK} {E : XK} {x dx : Addr} (nx : H x = none) (nd : H dx = none) (ne : dx ≠ x) (hn : n < 2 ^ 63) (k1 : n < 1 → Wish D.c_OutOfRange [("value", .int n)] H E) (k2 : 1 ≤ n → ∀ H', Same H H' → ResAt D H' x (a % n) n → Q .non H') :
    spInit D [.ref x, .int a, .int n] (L2.upd (L2.upd H dx (.own x)) x (.ins D.c_Residue dx [])) Q E := by
  have old : ∀ q o, H q = some o → (L2.upd (L2.upd H dx (.own x)) x (.ins D.c_Residue dx [])) q = some o := fun q o e => by rw [upd_ne (ne_of_none e nx), upd_ne (ne_of_none e nd)]; exact e
  refine ⟨x, dx, a, n, rfl, upd_same, hn, fun h => fun d H' e s => k1 h d H' e fun q o z => s q o (old q o z), fun h H' s e => k2 h H' (fun q o z => s q o (ne_of_none z nx) (old q o z)) ⟨dx, e⟩⟩
abbrev fs_OutOfRange : List V → Option (List (Str × V)) := fun ws => match ws with | [v0] => some [("value", v0)] | _ => none
theorem sc_OutOfRange_init : FnScope ["self", "value"] ["self", "value"] (defScope s_OutOfRange_init) := ⟨rfl, rfl, rfl, by decide +kernel, rfl, by decide +kernel, by decide +kernel⟩
theorem ok_OutOfRange_init (T : Txt K mg D) : FnOk P w K mg base CX0 1 D.a_OutOfRange_init D.d_OutOfRange_init ["self", "value"] (spEx D.c_OutOfRange fs_OutOfRange) := by
  refine T.F_OutOfRange_init.ok sc_OutOfRange_init (fun vs H Q E h => ?_) (fun cdv A outer s H vs Q E hr h => ?_)
  · obtain ⟨a, ws, l, rfl, e, _⟩ := h
    match ws, e with
    | [_], _ => rfl
  · obtain ⟨a, ws, l, rfl, e, ha, k⟩ := h
    match ws, e with
    | [v0], e =>
      cases e
      refine ⟨_, (pss_one (ps_ost (pv 0) (pv 1))), ?_⟩
      walk_at "rd"
      exact init_ex1 (T_ox_OutOfRange T) T.e_OutOfRange_value ha fun d H1 hd hda ea ed x1 => k d H1 hd hda ea ed x1

abbrev fs_Disjoint : List V → Option (List (Str × V)) := fun ws => match ws with | [v0] => some [("divisor", v0)] | _ => none
theorem sc_Disjoint_init : FnScope ["self", "divisor"] ["self", "divisor"] (defScope s_Disjoint_init) := ⟨rfl, rfl, rfl, by decide +kernel, rfl, by decide +kernel, by decide +kernel⟩
theorem ok_Disjoint_init (T : Txt K mg D) : FnOk P w K mg base CX0 1 D.a_Disjoint_init D.d_Disjoint_init ["self", "divisor"] (spEx D.c_Disjoint fs_Disjoint) := by
  refine T.F_Disjoint_init.ok sc_Disjoint_init (fun vs H Q E h => ?_) (fun cdv A outer s H vs Q E hr h => ?_)
  · obtain ⟨a, ws, l, rfl, e, _⟩ := h
    match ws, e with
    | [_], _ => rfl
  · obtain ⟨a, ws, l, rfl, e, ha, k⟩ := h
    match ws, e with
    | [v0], e =>
      cases e
      refine ⟨_, (pss_one (ps_ost (pv 0) (pv 1))), ?_⟩
      walk_at "rd"
      exact init_ex1 (T_ox_Disjoint T) T.e_Disjoint_divisor ha fun d H1 hd hda ea ed x1 => k d H1 hd hda ea ed x1

theorem sc_Residue_init : FnScope ["self", "place", "length"] ["self", "place", "length"] (defScope s_Residue_init) := ⟨rfl, rfl, rfl, by decide +kernel, rfl, by decide +kernel, by decide +kernel⟩
theorem ok_Residue_init (T : Txt K mg D) : FnOk P w K mg base (L2.CX P w) 3 D.a_Residue_init D.d_Residue_init ["self", "place", "length"] (spInit D) := by
  refine T.F_Residue_init.okX sc_Residue_init (fun vs H Q E h => ?_) (fun cdv A outer s H vs Q E hr h => ?_)
  · obtain ⟨p, dx, a, n, rfl, _⟩ := h
    rfl
  · obtain ⟨p, dx, a, n, rfl, hp, hn, kE, kS⟩ := h
    refine ⟨_, (pss_cons (ps_if (pt_cmpR op_lt (pv 2) pe_int (nomark _))
      (pss_one (ps_raise rfl (takes_of rfl rfl rfl rfl) (pmk_oex (T_ox_OutOfRange T) T.m_OutOfRange_init T.xti_OutOfRange (ok_OutOfRange_init T) (hr.mono (by decide)) T.b_OutOfRange_init .nil (fun _ _ _ _ _ _ _ z => z.elim) (by rfl) T.g_OutOfRange (pa_cons (pv 2) pa_nil))))
      pss_nil)
      (pss_cons (ps_fld (pv 0) (pe_op op_mod (pv 1) (pv 2)) rfl)
      (pss_one (ps_fld (pv 0) (pv 2) rfl)))), ?_⟩
    walk_at "rd"
    walk_at "br"
    · walk_at "rd"
      exact mk_ex (by show 1 ≤ 1000; decide) rfl (kE (by omega))
    · walk_at "rd"
      refine ⟨p, _, dx, _, rfl, hp, T_cl_Residue T, T.no_Residue_place, (by show 0 < 1000; decide), ?_⟩
      walk_at "rd"
      refine ⟨p, _, dx, _, rfl, upd_same, T_cl_Residue T, T.no_Residue_length, (by show 1 < 1000; decide), ?_⟩
      refine kS (by omega) _ (fun q o hq e => by rw [upd_ne hq, upd_ne hq]; exact e) ?_
      rw [upd_same]
      rfl
theorem gI_step {r d : Int} (hr : 0 ≤ r) (hd : 0 < d) : gI d (r % d) = gI r d := by
  unfold gI
  have e : (r % d).toNat = r.toNat % d.toNat := Int.toNat_emod hr (by omega)
  rw [e, Nat.gcd_comm r.toNat, Nat.gcd_rec d.toNat r.toNat, Nat.gcd_comm]
theorem dvd_mod {n f a : Int} (h : n ∣ f * a - 1) : n ∣ f % n * a - 1 := by
  obtain ⟨k, e⟩ := h
  refine ⟨k - f / n * a, ?_⟩
  have q := Int.emod_add_mul_ediv f n
  have q2 : f % n = f - n * (f / n) := by omega
  rw [q2, Int.sub_mul, Int.mul_sub, ← Int.mul_assoc]
  omega
def spInv : Sp := fun vs H Q _ => ∃ (a n : Int), vs = [.int a, .int n] ∧ 1 ≤ a ∧ a < 2 ^ 63 ∧ 1 ≤ n ∧ n < 2 ^ 63 ∧ gI a n = 1 ∧ ∀ f H', Same H H' → n ∣ f * a - 1 → Q (.int f) H'
theorem sc__inverse : FnScope ["number", "length", "rest", "divisor", "factor", "later", "times"] ["number", "length"] (defScope s__inverse) := ⟨rfl, rfl, rfl, by decide +kernel, rfl, by decide +kernel, by decide +kernel⟩
theorem ok__inverse (T : Txt K mg D) : FnOk P w K mg base CX0 1 D.a__inverse D.d__inverse ["number", "length"] spInv := by
  refine T.F__inverse.ok sc__inverse (fun vs H Q E h => ?_) (fun cdv A outer s H vs Q E hr h => ?_)
  · obtain ⟨a, n, rfl, _⟩ := h
    rfl
  · obtain ⟨a, n, rfl, a1, a2, n1, n2, hg, k⟩ := h
    refine ⟨_, (pss_cons (ps_par (i := 2) (j := 3) (by rfl) sc__inverse.nd rfl rfl (by decide) rfl rfl (pa_cons (pv 0) (pa_cons (pv 1) pa_nil)) (by rfl))
      (pss_cons (ps_asg (pe_tup (pa_cons pe_int (pa_cons pe_int pa_nil))) (pg_tup (by rfl) (pgs_cons (pg_name (i := 4) sc__inverse.nd rfl (Or.inl rfl)) (pgs_cons (pg_name (i := 5) sc__inverse.nd rfl (Or.inl rfl)) pgs_nil))))
      (pss_cons (ps_while PassesOwn.never (pt_cmpR op_ne (pv 3) pe_int (nomark _))
      (pss_cons (ps_set (i := 6) sc__inverse.nd rfl (Or.inl rfl) (pe_op op_fdivW (pv 2) (pv 3)))
      (pss_cons (ps_par (i := 2) (j := 3) (by rfl) sc__inverse.nd rfl rfl (by decide) rfl rfl (pa_cons (pv 3) (pa_cons (pe_op op_sub (pv 2) (pe_op op_mul (pv 6) (pv 3))) pa_nil)) (by rfl))
      (pss_one (ps_par (i := 4) (j := 5) (by rfl) sc__inverse.nd rfl rfl (by decide) rfl rfl (pa_cons (pv 5) (pa_cons (pe_op op_sub (pv 4) (pe_op op_mul (pv 6) (pv 5))) pa_nil)) (by rfl))))))
      (pss_one (ps_ret (pe_op op_mod (pv 4) (pv 1))))))), ?_⟩
    walk_at "rd"
    intro t1 ht1
    walk_at "rd"
    refine while_by (fun σ H2 => Stop (∃ (r d f g : Int) (v : Option V), σ = [some (.int a), some (.int n), some (.int r), some (.int d), some (.int f), some (.int g), v] ∧ Same H H2 ∧ 0 ≤ r ∧ r < 2 ^ 63 ∧ 0 ≤ d ∧ d < 2 ^ 63 ∧ gI r d = 1 ∧ n ∣ f * a - r ∧ n ∣ g * a - d)) (fun σ _ => slotN 3 σ) (.go ⟨a, n, 1, 0, none, rfl, Same.add ht1, by omega, a2, by omega, n2, hg, ⟨0, by omega⟩, ⟨-1, by omega⟩⟩) ?_ ?_
    · intro σ H2 hm
      obtain ⟨r, d, f, g, v, rfl, x2, r1, r2, d1, d2, hrd, i1, i2⟩ := hm.out
      walk_at "rd"
      walk_at "br"
      · rename_i hz
        have hd : 0 < d := by omega
        have m0 := Int.emod_nonneg r (b := d) (by omega)
        have m1 := Int.emod_lt_of_pos r hd
        have q := Int.emod_add_mul_ediv r d
        have q0 : 0 ≤ r / d := Int.ediv_nonneg r1 (by omega)
        have q1 : r / d ≤ r := Int.ediv_le_self _ r1
        have em : r - r / d * d = r % d := by rw [Int.mul_comm]; omega
        walk_at "rd"
        refine ⟨.go ⟨d, r - r / d * d, g, f - r / d * g, _, rfl, x2, by omega, by omega, by rw [em]; exact m0, by rw [em]; omega, by rw [em, gI_step r1 hd]; exact hrd, i2, ?_⟩, ?_⟩
        · obtain ⟨u, eu⟩ := i1
          obtain ⟨y, ey⟩ := i2
          refine ⟨u - r / d * y, ?_⟩
          rw [Int.sub_mul, Int.mul_sub, ← eu, Int.mul_left_comm n, ← ey, Int.mul_sub, ← Int.mul_assoc]
          omega
        · show (r - r / d * d).toNat < d.toNat
          rw [em]
          omega
      · rename_i hz
        have hd : d = 0 := by omega
        subst hd
        have hr1 : r = 1 := by
          unfold gI at hrd
          simp at hrd
          omega
        subst hr1
        walk_at "rd"
        exact k _ _ x2 (dvd_mod i1)
    · intro σ H Q Q' m h
      unfold tTest tOp tVar tC rNe at *
      obtain ⟨v, e, c, t, et, q⟩ := h
      exact ⟨v, e, c, t, et, m _ _ q⟩
def spEq (D : Ad) : Sp := fun vs H Q _ => ∃ (p q : Addr) (a b n m : Int), vs = [.ref p, .ref q] ∧ ResAt D H p a n ∧ ResAt D H q b m ∧ Q (.bl (decide (a = b ∧ n = m))) H
theorem sc_Residue___eq__ : FnScope ["self", "other"] ["self", "other"] (defScope s_Residue___eq__) := ⟨rfl, rfl, rfl, by decide +kernel, rfl, by decide +kernel, by decide +kernel⟩
theorem ok_Residue___eq__ (T : Txt K mg D) : FnOk P w K mg base CX0 1 D.a_Residue___eq__ D.d_Residue___eq__ ["self", "other"] (spEq D) := by
  refine T.F_Residue___eq__.ok sc_Residue___eq__ (fun vs H Q E h => ?_) (fun cdv A outer s H vs Q E hr h => ?_)
  · obtain ⟨p, q, a, b, n, m, rfl, _⟩ := h
    rfl
  · obtain ⟨p, q, a, b, n, m, rfl, ⟨dx, hp⟩, ⟨dy, hq⟩, k⟩ := h
    refine ⟨_, (pss_one (ps_ret (pe_and (pe_callB call_isi (by rfl) T.n_isinstance (by decide +kernel) (pa_cons (pv 1) (pa_cons (pe_glob (v := .ref D.c_Residue) (by rfl) T.g_Residue rfl) pa_nil))) (pe_and (pe_cmpR op_eq (pe_fld (pv 0) rfl) (pe_fld (pv 1) rfl) (nomark _)) (pe_one (pe_cmpR op_eq (pe_fld (pv 0) rfl) (pe_fld (pv 1) rfl) (nomark _))))))), ?_⟩
    walk_at "rd"
    refine ⟨_, _, _, _, true, rfl, .own D.c_Residue, T_ty_Residue T hq, T.z_Residue, ?_⟩
    walk_at "rd"
    have kk : ∀ z : Bool, z = decide (a = b ∧ n = m) → Q (.bl z) H := fun z e => e ▸ k
    by_cases h : a = b
    · walk_at "rd"
      refine ifT (by simp [h]) ?_
      walk_at "rd"
      exact kk _ (by simp [h])
    · walk_at "rd"
      refine ifF (by simp [h]) ?_
      exact kk _ (by simp [h])
def spHas (D : Ad) : Sp := fun vs H Q _ => ∃ (p : Addr) (x a n : Int), vs = [.ref p, .int x] ∧ ResAt D H p a n ∧ 1 ≤ n ∧ n < 2 ^ 63 ∧ Q (.bl (decide ((x - a) % n = 0))) H
theorem sc_Residue___contains__ : FnScope ["self", "day"] ["self", "day"] (defScope s_Residue___contains__) := ⟨rfl, rfl, rfl, by decide +kernel, rfl, by decide +kernel, by decide +kernel⟩
theorem ok_Residue___contains__ (T : Txt K mg D) : FnOk P w K mg base CX0 1 D.a_Residue___contains__ D.d_Residue___contains__ ["self", "day"] (spHas D) := by
  refine T.F_Residue___contains__.ok sc_Residue___contains__ (fun vs H Q E h => ?_) (fun cdv A outer s H vs Q E hr h => ?_)
  · obtain ⟨p, x, a, n, rfl, _⟩ := h
    rfl
  · obtain ⟨p, x, a, n, rfl, ⟨dx, hp⟩, n1, n2, k⟩ := h
    refine ⟨_, (pss_one (ps_ret (pe_cmpR op_eq (pe_op op_mod (pe_op op_sub (pv 1) (pe_fld (pv 0) rfl)) (pe_fld (pv 0) rfl)) pe_int (nomark _)))), ?_⟩
    walk_at "rd"
    have kk : ∀ z : Bool, z = decide ((x - a) % n = 0) → Q (.bl z) H := fun z e => e ▸ k
    exact kk _ (by simp)
theorem gI_abs {n m : Int} (hn : 0 ≤ n) (hm : 0 ≤ m) : ((Nat.gcd n.natAbs m.natAbs : Nat) : Int) = gI n m := by
  unfold gI
  rw [show n.natAbs = n.toNat by omega, show m.natAbs = m.toNat by omega]
theorem gI_div {n m : Int} (hn : 1 ≤ n) (hm : 1 ≤ m) : gI (n / gI n m) (m / gI n m) = 1 := by
  have g := gI_pos (m := m) hn
  obtain ⟨N, eN⟩ := gI_left (n := n) (m := m) (by omega)
  obtain ⟨M, eM⟩ := gI_right (n := n) (m := m) (by omega)
  have p1 := ediv_pos' hn g (gI_left (by omega))
  have p2 := ediv_pos' hm g (gI_right (by omega))
  have hd : ∀ x, x ∣ n → x ∣ m → x ∣ gI n m := fun x => dvd_gI (by omega) (by omega)
  generalize gI n m = d at *
  have d1 : n / d = N := by rw [eN]; exact Int.mul_ediv_cancel_left _ (by omega)
  have d2 : m / d = M := by rw [eM]; exact Int.mul_ediv_cancel_left _ (by omega)
  rw [d1] at p1
  rw [d2] at p2
  rw [d1, d2]
  have a := gI_left (n := N) (m := M) (by omega)
  have b := gI_right (n := N) (m := M) (by omega)
  have c := gI_pos (n := N) (m := M) p1
  generalize gI N M = x at *
  have h := hd (d * x) (by rw [eN]; exact Int.mul_dvd_mul_left d a) (by rw [eM]; exact Int.mul_dvd_mul_left d b)
  have h2 : d * x ≤ d := Int.le_of_dvd (by omega) h
  rcases Int.lt_or_le 1 x with q | q
  · have := Int.mul_le_mul_of_nonneg_left (show (2 : Int) ≤ x by omega) (show 0 ≤ d by omega)
    omega
  · omega
theorem ediv_bd {z d M : Int} (hd : 1 ≤ d) (h1 : -M ≤ z) (h2 : z ≤ M) (h0 : 0 ≤ M) : -M ≤ z / d ∧ z / d ≤ M := by
  have e := Int.mul_le_mul_of_nonneg_left hd h0
  constructor
  · refine Int.le_ediv_of_mul_le (by omega) ?_
    rw [Int.neg_mul]
    omega
  · refine Int.ediv_le_of_le_mul (by omega) ?_
    omega
def spAnd (D : Ad) : Sp := fun vs H Q E => ∃ (p q : Addr) (a b n m : Int), vs = [.ref p, .ref q] ∧ ResAt D H p a n ∧ ResAt D H q b m ∧ 1 ≤ n ∧ 1 ≤ m ∧ lcmI n m < 2 ^ 62 ∧ (0 ≤ a ∧ a < n) ∧ (0 ≤ b ∧ b < m) ∧
  (¬ gI n m ∣ b - a → Wish D.c_Disjoint [("divisor", .int (gI n m))] H E) ∧
  (gI n m ∣ b - a → ∀ r H' c, Same H H' → H r = none → ResAt D H' r c (lcmI n m) → 0 ≤ c → c < lcmI n m → n ∣ c - a → m ∣ c - b → Q (.ref r) H')
theorem sc_Residue___and__ : FnScope ["self", "other", "divisor", "gap", "rest", "turns"] ["self", "other"] (defScope s_Residue___and__) := ⟨rfl, rfl, rfl, by decide +kernel, rfl, by decide +kernel, by decide +kernel⟩
theorem ok_Residue___and__ (T : Txt K mg D) : FnOk P w K mg base (L2.CX P w) 5 D.a_Residue___and__ D.d_Residue___and__ ["self", "other"] (spAnd D) := by
  have G_Residue_init := ok_Residue_init (P := P) (w := w) (base := base) T
  have G__inverse := ok__inverse (P := P) (w := w) (base := base) T
  refine T.F_Residue___and__.okX sc_Residue___and__ (fun vs H Q E h => ?_) (fun cdv A outer s H vs Q E hr h => ?_)
  · obtain ⟨p, q, a, b, n, m, rfl, _⟩ := h
    rfl
  · obtain ⟨p, q, a, b, n, m, rfl, ⟨dx, hp⟩, ⟨dy, hq⟩, hn, hm, hl, ⟨a0, a1⟩, ⟨b0, b1⟩, kE, kS⟩ := h
    refine ⟨_, (pss_cons (ps_set (i := 2) sc_Residue___and__.nd rfl (Or.inl rfl) (pe_callBfun cr_gcd (by rfl) T.g_gcd (pa_cons (pe_fld (pv 0) rfl) (pa_cons (pe_fld (pv 1) rfl) pa_nil))))
      (pss_cons (ps_set (i := 3) sc_Residue___and__.nd rfl (Or.inl rfl) (pe_op op_sub (pe_fld (pv 1) rfl) (pe_fld (pv 0) rfl)))
      (pss_cons (ps_if (pt_cmpR op_ne (pe_op op_mod (pv 3) (pv 2)) pe_int (nomark _))
      (pss_one (ps_raise rfl (takes_of rfl rfl rfl rfl) (pmk_oex (T_ox_Disjoint T) T.m_Disjoint_init T.xti_Disjoint (ok_Disjoint_init T) (hr.mono (by decide)) T.b_Disjoint_init .nil (fun _ _ _ _ _ _ _ z => z.elim) (by rfl) T.g_Disjoint (pa_cons (pv 2) pa_nil))))
      pss_nil)
      (pss_cons (ps_set (i := 4) sc_Residue___and__.nd rfl (Or.inl rfl) (pe_op op_fdivW (pe_fld (pv 1) rfl) (pv 2)))
      (pss_cons (ps_set (i := 5) sc_Residue___and__.nd rfl (Or.inl rfl) (pe_op op_mod (pe_op op_mul (pe_op op_fdivW (pv 3) (pv 2)) (pe_call G__inverse (hr.mono (by decide)) (by rfl) T.g__inverse T.F__inverse.kp T.b__inverse .nil pass0 (pa_cons (pe_op op_fdivW (pe_fld (pv 0) rfl) (pv 2)) (pa_cons (pv 4) pa_nil)))) (pv 4)))
      (pss_one (ps_ret (pe_make (T_mk_Residue T) G_Residue_init (hr.mono (by decide)) (by rfl) T.g_Residue T.b_Residue_init .nil (passes_call (takes_of rfl rfl rfl rfl) (fun _ _ _ _ z => z)) (pa_cons (pe_op op_add (pe_fld (pv 0) rfl) (pe_op op_mul (pv 5) (pe_fld (pv 0) rfl))) (pa_cons (pe_op op_mul (pe_fld (pv 0) rfl) (pv 4)) pa_nil)))))))))), ?_⟩
    have g1 := gI_pos (n := n) (m := m) hn
    have gn := gI_left (n := n) (m := m) (by omega)
    have gm := gI_right (n := n) (m := m) (by omega)
    have lp := lcmI_pos hn hm
    have ln := Int.le_of_dvd (by omega) (lcmI_left (n := n) (m := m))
    have lm := Int.le_of_dvd (by omega) (lcmI_right hn hm)
    have gln := gI_le (n := n) (m := m) hn
    have eg := gI_abs (n := n) (m := m) (by omega) (by omega)
    have dn := ediv_pos' hn g1 gn
    have dm := ediv_pos' hm g1 gm
    have en := Int.ediv_le_self (gI n m) (show 0 ≤ n by omega)
    have em := Int.ediv_le_self (gI n m) (show 0 ≤ m by omega)
    have bd := ediv_bd (M := 2 ^ 62) g1 (show -(2 ^ 62) ≤ b - a by omega) (by omega) (by decide)
    walk_at "rd"
    rw [eg]
    walk_at "br"
    · rename_i hb
      walk_at "rd"
      exact mk_ex (by show 1 ≤ 1000; decide) rfl (kE fun h => hb (Int.emod_eq_zero_of_dvd h))
    · rename_i hb
      have hd : gI n m ∣ b - a := Int.dvd_of_emod_eq_zero (by omega)
      walk_at "rd"
      refine ⟨by omega, by omega, by omega, gI_div hn hm, fun f H1 x1 hf => ?_⟩
      have hp1 := x1 _ _ hp
      have m0 := Int.emod_nonneg ((b - a) / gI n m * f) (b := m / gI n m) (by omega)
      have m1 := Int.emod_lt_of_pos ((b - a) / gI n m * f) (b := m / gI n m) (by omega)
      have c := crt hn hm hd hf rfl
      walk_at "rd"
      trace_state
      intro r dr nr nd ne
      generalize (b - a) / gI n m * f % (m / gI n m) = t at m0 m1 c
      refine mk2 nr nd ne (by show lcmI n m < _; omega) (fun (h : lcmI n m < 1) => by omega) fun _ H2 x2 s2 => ⟨rfl, ?_⟩
      have q := Int.emod_add_mul_ediv (a + t * n) (lcmI n m)
      refine kS hd r H2 ((a + t * n) % lcmI n m) (x1.trans x2) (none_back x1 nr) s2 (Int.emod_nonneg _ (by omega)) (Int.emod_lt_of_pos _ (by omega)) ?_ ?_
      · rw [show (a + t * n) % lcmI n m - a = t * n - lcmI n m * ((a + t * n) / lcmI n m) by omega]
        exact Int.dvd_sub (Int.dvd_mul_left _ _) (Int.dvd_mul_of_dvd_left lcmI_left)
      · rw [show (a + t * n) % lcmI n m - b = (a + t * n - b) - lcmI n m * ((a + t * n) / lcmI n m) by omega]
        exact Int.dvd_sub c (Int.dvd_mul_of_dvd_left (lcmI_right hn hm))
def spEvery (D : Ad) : Sp := fun vs H Q _ => vs = [] ∧ ∀ r H', Same H H' → H r = none → ResAt D H' r 0 1 → Q (.ref r) H'
theorem sc_Residue_every : FnScope [] [] (defScope s_Residue_every) := ⟨rfl, rfl, rfl, by decide +kernel, rfl, by decide +kernel, by decide +kernel⟩
theorem ok_Residue_every (T : Txt K mg D) : FnOk P w K mg base CX0 5 D.a_Residue_every D.d_Residue_every [] (spEvery D) := by
  have G_Residue_init := ok_Residue_init (P := P) (w := w) (base := base) T
  refine T.F_Residue_every.ok sc_Residue_every (fun vs H Q E h => ?_) (fun cdv A outer s H vs Q E hr h => ?_)
  · obtain ⟨rfl, _⟩ := h
    rfl
  · obtain ⟨rfl, k⟩ := h
    refine ⟨_, (pss_one (ps_ret (pe_make (T_mk_Residue T) G_Residue_init (hr.mono (by decide)) (by rfl) T.g_Residue T.b_Residue_init .nil passL (pa_cons pe_int (pa_cons pe_int pa_nil))))), ?_⟩
    walk_at "rd"
    intro r dr nr nd ne
    refine mk2 nr nd ne (by decide) (fun h => by omega) fun _ H2 x2 s2 => ⟨rfl, ?_⟩
    exact k r H2 x2 nr s2
abbrev RS := List (Addr × (Int × Int))
abbrev RS.vs (rs : RS) : List V := rs.map fun r => V.ref r.1
abbrev RS.ss (rs : RS) : List (Int × Int) := rs.map Prod.snd
def Rs (D : Ad) (H : Hp) (rs : RS) : Prop := ∀ r ∈ rs, ResAt D H r.1 r.2.1 r.2.2 ∧ 1 ≤ r.2.2 ∧ 0 ≤ r.2.1 ∧ r.2.1 < r.2.2
theorem Rs.same {D : Ad} {H H' : Hp} {rs : RS} (h : Rs D H rs) (x : Same H H') : Rs D H' rs := fun r m => ⟨(h r m).1.same x, (h r m).2⟩
theorem Rs.pos {D : Ad} {H : Hp} {rs : RS} (h : Rs D H rs) : ∀ c ∈ rs.ss, 1 ≤ c.2 := fun c m => by
  obtain ⟨r, hr, rfl⟩ := List.mem_map.mp m
  exact (h r hr).2.1
/-- a day that all of the row have -/
def Com (ss : List (Int × Int)) (c : Int) : Prop := ∀ q ∈ ss, q.2 ∣ c - q.1
theorem Com.next {ss : List (Int × Int)} {i : Nat} {p : Int × Int} {c d : Int} (hs : ∀ c ∈ ss, 1 ≤ c.2) (hp : ss[i]? = some p) (h : Com (ss.take i) c) (h1 : lcs (ss.take i) 1 ∣ d - c) (h2 : p.2 ∣ d - p.1) : Com (ss.take (i + 1)) d := fun q hq => by
  rw [XR.take_one hp] at hq
  rcases List.mem_append.mp hq with m | m
  · have a := Int.dvd_trans (lcs_mem (ss.take i) 1 (by omega) (fun c hc => hs c (List.mem_of_mem_take hc)) q m) h1
    have := Int.dvd_add a (h q m)
    rwa [show d - c + (c - q.1) = d - q.1 by omega] at this
  · rw [List.mem_singleton.mp m]
    exact h2
def spMeet (K : PySem.W.Frag) (D : Ad) : Sp := fun vs H Q E => ∃ (t : Addr) (rs : RS), vs = [.ref t] ∧ SqT K H t rs.vs ∧ Rs D H rs ∧ (∀ i, lcs (rs.ss.take i) 1 < 2 ^ 62) ∧
  (∀ i p c, rs.ss[i]? = some p → Com (rs.ss.take i) c → ¬ gI (lcs (rs.ss.take i) 1) p.2 ∣ p.1 - c → Wish D.c_Disjoint [("divisor", .int (gI (lcs (rs.ss.take i) 1) p.2))] H E) ∧
  (∀ r H' c, Same H H' → H r = none → ResAt D H' r c (lcs rs.ss 1) → 0 ≤ c → c < lcs rs.ss 1 → Com rs.ss c → Q (.ref r) H')
theorem sc_Residue_meet : FnScope ["residues", "common", "residue"] ["residues"] (defScope s_Residue_meet) := ⟨rfl, rfl, rfl, by decide +kernel, rfl, by decide +kernel, by decide +kernel⟩
theorem ok_Residue_meet (T : Txt K mg D) : FnR P w K mg base (L2.CX P w) 7 D.a_Residue_meet (XR.spStar (spMeet K D)) := by
  have G_Residue___and__ := ok_Residue___and__ (P := P) (w := w) (base := base) T
  have G_Residue_every := ok_Residue_every (P := P) (w := w) (base := base) T
  refine XR.okStar T.F_Residue_meet sc_Residue_meet (fun _ _ _ _ _ _ rest => by cases rest <;> rfl) (fun cdv A outer s H vs Q E hr h => ?_)
  obtain ⟨t, rs, rfl, hT, hR, hL, kE, kS⟩ := h
  refine ⟨_, (pss_cons (ps_set (i := 1) sc_Residue_meet.nd rfl (Or.inl rfl) (XR.pe_stat0 (pe_glob (v := .ref D.c_Residue) (by rfl) T.g_Residue rfl) (T_s_Residue_every T) G_Residue_every (hr.mono (by decide)) T.F_Residue_every.kp T.b_Residue_every (fun σ => XR.at_of_passes (σ := σ) pass0)))
      (pss_cons (ps_for (passes_of rfl) rfl (XR.pi_sq (pv 0)) (pg_name (i := 2) sc_Residue_meet.nd rfl (Or.inl rfl))
      (pss_one (ps_set (i := 1) sc_Residue_meet.nd rfl (Or.inl rfl) (pe_op (XR.op_ownC (T_o_Residue___and__ T) G_Residue___and__ (hr.mono (by decide)) T.b_Residue___and__ (passes_call (takes_of rfl rfl rfl rfl) (fun _ _ _ _ z => z))) (pv 1) (pv 2)))))
      (pss_one (ps_ret (pv 1))))), ?_⟩
  walk_at "rd"
  intro r0 H1 x1 n1 s1
  walk_at "rd"
  trace_state
  refine ⟨t, _, H, rfl, .inr hT, x1, fun J W => ?_⟩
  refine for_it W (fun i σ H2 => Stop (∃ (r : Addr) (c : Int) (v : Option V), σ = [some (.ref t), some (.ref r), v] ∧ Same H H2 ∧ H r = none ∧ ResAt D H2 r c (lcs (rs.ss.take i) 1) ∧ 0 ≤ c ∧ c < lcs (rs.ss.take i) 1 ∧ Com (rs.ss.take i) c)) (.go ⟨r0, 0, none, rfl, x1, n1, s1, by omega, by show (0 : Int) < 1; omega, fun q hq => absurd hq (by simp)⟩) (fun i σ H2 _ I => by obtain ⟨_, _, _, _, x, _⟩ := I.out; exact x) ?_ ?_
  · rintro i x σ H2 _ hi I ⟨rfl, hx⟩
    obtain ⟨r, c, v, rfl, x2, n2, S2, c0, c1, hc⟩ := I.out
    rw [List.getElem?_map] at hx
    obtain ⟨q, hq, rfl⟩ := Option.map_eq_some_iff.mp hx
    have hss : rs.ss[i]? = some q.2 := by rw [List.getElem?_map, hq]; rfl
    obtain ⟨S3, q1, q2, q3⟩ := hR q (List.mem_of_getElem? hq)
    have S4 := S3.same x2
    have lp := lcs_pos (rs.ss.take i) 1 (by omega) fun c hc => hR.pos c (List.mem_of_mem_take hc)
    have lt := lcs_take rs.ss 1 i _ hss
    obtain ⟨dx, hp⟩ := id S2
    obtain ⟨dy, hy⟩ := id S4
    walk_at "rd"
    refine ⟨r, q.1, _, _, _, _, rfl, rfl, hp, hy, r, q.1, c, q.2.1, _, q.2.2, rfl, S2, S4, lp, q1, lt ▸ hL (i + 1), ⟨c0, c1⟩, ⟨q2, q3⟩, fun h => ?_, fun h r2 H3 c2 x3 n3 s3 d0 d1 e1 e2 => ?_⟩
    · exact fun d H' e s => kE i _ c hss hc h d H' e (x2.trans s)
    · refine .go ⟨r2, c2, _, rfl, x2.trans x3, none_back x2 n3, lt ▸ s3, d0, lt ▸ d1, hc.next hR.pos hss e1 e2⟩
  · rintro σ H2 I
    obtain ⟨r, c, v, rfl, x2, n2, S2, c0, c1, hc⟩ := I.out
    rw [List.take_of_length_le (by simp)] at S2 c1 hc
    walk_at "rd"
    exact kS r _ c x2 n2 S2 c0 c1 hc
end
end Toy
set_option Elab.async false
set_option linter.all false
set_option maxRecDepth 100000
set_option maxHeartbeats 4000000
namespace Toy
open PySem L2 XR
local macro_rules | `(tactic| walk_at "ne") => `(tactic| first | assumption | (apply Ne.symm; assumption) | exact XR.ne_fresh (by assumption) (by walk_at "hp") | exact Ne.symm (XR.ne_fresh (by assumption) (by walk_at "hp")))
local macro_rules | `(tactic| walk_at "hp") => `(tactic| first | assumption | exact upd_same | (refine Eq.trans (upd_ne ?_) ?_; (walk_at "ne"); walk_at "hp"))
local macro_rules | `(tactic| walk_at "sq") => `(tactic| first | walk_at "hp" | exact SqL.of (by walk_at "hp") | exact SqT.of (by walk_at "hp") | exact XR.SqT.same (by assumption) (by assumption) | exact XR.SqL.same (by assumption) (by assumption))
local macro_rules | `(tactic| walk_at "br") => `(tactic| (refine ite2 ?_ ?_ <;> intro hbr <;> (try simp only [decide_eq_true_eq, decide_eq_false_iff_not, V.int.injEq, V.bl.injEq, V.str.injEq, Bool.not_eq_true, Bool.not_eq_eq_eq_not, Bool.not_true, Bool.not_false, ne_eq, Int.reduceToNat, Int.reducePow, Int.reduceMul, Int.reduceAdd, Int.reduceSub, reduceCtorEq, not_true_eq_false, not_false_eq_true, Int.not_lt, Int.not_le] at hbr)))
local macro_rules | `(tactic| walk_at "side") => `(tactic| first
  | exact ⟨by decide, by decide, by decide⟩
  | exact .inl ⟨by decide, by decide⟩
  | exact .inr ⟨by decide, by decide⟩
  | exact XR.divw (by first | decide | omega) (by first | decide | omega)
  | (show (_ : Int) = _; first | rfl | omega)
  | (show (0 : Int) < _; first | decide | assumption | omega)
  | exact .inl ⟨by omega, by omega⟩
  | exact .inr ⟨by omega, by omega⟩
  | exact .inl (XR.cmul_mod (by decide))
  | exact XR.log_lt (by omega) (by omega)
  | decide
  | (rw [sizeLine_eq]; simp; done)
  | (show 2 ≤ sizeLine; decide) | (show 3 ≤ sizeLine; decide) | (show 4 ≤ sizeLine; decide) | (show 5 ≤ sizeLine; decide) | (show 6 ≤ sizeLine; decide) | (show 7 ≤ sizeLine; decide) | (show 1 ≤ sizeLine; decide) | (show 8 ≤ sizeLine; decide) | (show 0 ≤ sizeLine; decide))
local macro_rules | `(tactic| walk_at "rd1") => `(tactic| first
  | refine ⟨_, rfl, ?_⟩
  | refine ⟨_, _, rfl, rfl, ?_⟩
  | refine ⟨_, _, _, _, rfl, rfl, (by walk_at "sq"), rfl, ?_⟩
  | refine ⟨_, _, _, _, rfl, rfl, (by walk_at "hp"), (by walk_at "hp"), (by walk_at "side"), ?_⟩
  | refine ⟨_, _, rfl, .inl (by walk_at "sq"), ?_⟩
  | refine ⟨_, _, rfl, .inl ⟨(by walk_at "sq"), ?_⟩⟩
  | refine ⟨_, _, rfl, .inr (by walk_at "sq"), ?_⟩
  | refine ⟨_, _, _, _, _, rfl, (by walk_at "hp"), (by walk_at "cls"), (by walk_at "noat"), rfl, ?_⟩
  | refine ⟨_, _, _, _, rfl, rfl, (by walk_at "sq"), (by first | assumption | exact XR.at0 | exact XR.at1), ?_⟩
  | refine ⟨rfl, ?_⟩
  | refine And.intro (by walk_at "side") ?_
  | refine .inl ⟨_, rfl, ?_⟩
  | refine And.intro ⟨_, (by walk_at "sq")⟩ ?_
  | refine ⟨_, _, rfl, (by walk_at "sq"), ?_⟩
  | refine ⟨_, _, rfl, ?_⟩
  | refine .inr ⟨_, rfl, (by walk_at "side"), ?_⟩
  | refine ⟨_, _, _, rfl, (by walk_at "hp"), ?_⟩
  | refine iteT ?_
  | refine iteF ?_)
local macro_rules | `(tactic| walk_at "rd") => `(tactic| repeat (walk_at "rd1"))
local macro_rules | `(tactic| walk_at "nn") => `(tactic| (simp only [Int.reduceToNat, Int.reducePow, Int.reduceMul, Int.reduceAdd, Int.reduceSub, Int.reduceNeg]))
local macro_rules | `(tactic| walk_at "dr") => `(tactic| repeat (first | refine And.intro (by first | assumption | walk_at "pre") ?_ | refine And.intro (by first | decide | omega) ?_))
local macro_rules | `(tactic| walk_at "cls") => `(tactic| first | exact T_cl_Residue (by assumption))
local macro_rules | `(tactic| walk_at "noat") => `(tactic| first | exact Txt.no_Residue_place (by assumption) | exact Txt.no_Residue_length (by assumption))
local macro_rules | `(tactic| walk_at "pre") => `(tactic| first | assumption | exact BoxAt.new (by walk_at "pre") (by assumption) | exact BoxAt.same (by walk_at "pre") (by assumption))
section
variable {P : Program} {w : World} {K : PySem.W.Frag} {mg : Str → Option Value} {base : Heap} {D : Ad}
theorem lcmI_one {n : Int} (hn : 1 ≤ n) : lcmI 1 n = n := by
  have a := gI_le (n := 1) (m := n) (by omega)
  have b := gI_pos (n := 1) (m := n) (by omega)
  unfold lcmI
  rw [show gI 1 n = 1 by omega]
  simp
theorem lcs_dvd {M : Int} : ∀ (ss : List (Int × Int)) (l : Int), 1 ≤ l → l ∣ M → (∀ c ∈ ss, 1 ≤ c.2 ∧ c.2 ∣ M) → lcs ss l ∣ M
  | [], _, _, h, _ => h
  | c :: r, l, h1, h, hs => lcs_dvd r _ (lcmI_pos h1 (hs c List.mem_cons_self).1) (lcmI_dvd h1 (hs c List.mem_cons_self).1 h (hs c List.mem_cons_self).2) fun x hx => hs x (List.mem_cons_of_mem _ hx)
structure PoolOk (ss : List (Int × Int)) : Prop where
  ps : ∀ c ∈ ss, 1 ≤ c.2 ∧ -(2 ^ 60) < c.1 ∧ c.1 < 2 ^ 60
  mm : ∃ M : Int, 1 ≤ M ∧ M < 2 ^ 61 ∧ ∀ c ∈ ss, c.2 ∣ M
theorem PoolOk.pos {ss : List (Int × Int)} (h : PoolOk ss) : ∀ c ∈ ss, 1 ≤ c.2 := fun c hc => (h.ps c hc).1
theorem PoolOk.sz {ss : List (Int × Int)} (h : PoolOk ss) {c : Int × Int} (hc : c ∈ ss) : 1 ≤ c.2 ∧ c.2 < 2 ^ 61 := by
  obtain ⟨M, m1, m2, m3⟩ := h.mm
  have := Int.le_of_dvd (by omega) (m3 c hc)
  exact ⟨h.pos c hc, by omega⟩
theorem PoolOk.lcs {ss : List (Int × Int)} (h : PoolOk ss) (i : Nat) : 1 ≤ lcs (ss.take i) 1 ∧ lcs (ss.take i) 1 < 2 ^ 61 := by
  obtain ⟨M, m1, m2, m3⟩ := h.mm
  have := Int.le_of_dvd (by omega) (lcs_dvd (M := M) (ss.take i) 1 (by omega) (Int.one_dvd _) fun c hc => ⟨h.pos c (List.mem_of_mem_take hc), m3 c (List.mem_of_mem_take hc)⟩)
  exact ⟨lcs_pos _ 1 (by omega) fun c hc => h.pos c (List.mem_of_mem_take hc), by omega⟩
def spLcm : Sp := fun vs H Q _ => ∃ (a b : Int), vs = [.int a, .int b] ∧ 1 ≤ a ∧ 1 ≤ b ∧ a < 2 ^ 62 ∧ b < 2 ^ 62 ∧ Q (.int (lcmI a b)) H
theorem sc__law_lcm : FnScope ["_law_first", "_law_second"] ["_law_first", "_law_second"] (defScope s__law_lcm) := ⟨rfl, rfl, rfl, by decide +kernel, rfl, by decide +kernel, by decide +kernel⟩
theorem ok__law_lcm (T : Txt K mg D) : FnOk P w K mg base CX0 3 D.a__law_lcm D.d__law_lcm ["_law_first", "_law_second"] spLcm := by
  have G__law_gcd := ok__law_gcd (P := P) (w := w) (base := base) T
  refine T.F__law_lcm.ok sc__law_lcm (fun vs H Q E h => ?_) (fun cdv A outer s H vs Q E hr h => ?_)
  · obtain ⟨a, b, rfl, _⟩ := h
    rfl
  · obtain ⟨a, b, rfl, a1, b1, a2, b2, k⟩ := h
    refine ⟨_, (pss_one (ps_ret (pe_op op_mul (pv 0) (pe_op op_fdivW (pv 1) (pe_call G__law_gcd (hr.mono (by decide)) (by rfl) T.g__law_gcd T.F__law_gcd.kp T.b__law_gcd .nil pass0 (pa_cons (pv 0) (pa_cons (pv 1) pa_nil))))))), ?_⟩
    have g1 : 1 ≤ ((Nat.gcd a.toNat b.toNat : Nat) : Int) := gI_pos a1
    have g2 : ((Nat.gcd a.toNat b.toNat : Nat) : Int) ≤ a := gI_le a1
    walk_at "rd"
    refine ⟨by omega, by omega, ?_⟩
    walk_at "rd"
    exact k
def DrawnF (b : Addr) (H H' : Hp) : Prop := BoxAt H' b ∧ ExB b H H' ∧ ∀ l, BoxFree H b l → BoxFree H' b l
def spFac : Sp := fun vs H Q _ => ∃ (b : Addr) (m : Int), vs = [.ref b, .int m] ∧ BoxAt H b ∧ 10 ≤ m ∧ m ≤ 10 ^ 15 ∧ ∀ f H', 1 ≤ f → f ≤ m → DrawnF b H H' → Q (.int f) H'
theorem sc__law_factor : FnScope ["_law_box_here", "_law_most", "_law_way"] ["_law_box_here", "_law_most"] (defScope s__law_factor) := ⟨rfl, rfl, rfl, by decide +kernel, rfl, by decide +kernel, by decide +kernel⟩
theorem ok__law_factor (T : Txt K mg D) : FnOk P w K mg base CX0 3 D.a__law_factor D.d__law_factor ["_law_box_here", "_law_most"] spFac := by
  have G__law_draw := ok__law_draw (P := P) (w := w) (base := base) T
  refine T.F__law_factor.ok sc__law_factor (fun vs H Q E h => ?_) (fun cdv A outer s H vs Q E hr h => ?_)
  · obtain ⟨b, m, rfl, _⟩ := h
    rfl
  · obtain ⟨b, m, rfl, B, m1, m2, k⟩ := h
    refine ⟨_, (pss_cons (ps_set (i := 2) sc__law_factor.nd rfl (Or.inl rfl) (pe_call G__law_draw (hr.mono (by decide)) (by rfl) T.g__law_draw T.F__law_draw.kp T.b__law_draw .nil pass0 (pa_cons (pv 0) (pa_cons pe_int pa_nil))))
      (pss_cons (ps_if (pt_cmpR op_eq (pv 2) pe_int (nomark _))
      (pss_one (ps_ret (pe_op op_add pe_int (pe_call G__law_draw (hr.mono (by decide)) (by rfl) T.g__law_draw T.F__law_draw.kp T.b__law_draw .nil pass0 (pa_cons (pv 0) (pa_cons pe_int pa_nil))))))
      pss_nil)
      (pss_cons (ps_if (pt_cmpR op_eq (pv 2) pe_int (nomark _))
      (pss_one (ps_ret (pe_op op_add pe_int (pe_call G__law_draw (hr.mono (by decide)) (by rfl) T.g__law_draw T.F__law_draw.kp T.b__law_draw .nil pass0 (pa_cons (pv 0) (pa_cons (pv 1) pa_nil))))))
      pss_nil)
      (pss_one (ps_ret pe_int))))), ?_⟩
    walk_at "rd"
    walk_at "dr"
    intro r1 H1 p1 q1 B1 x1 f1
    walk_at "rd"
    walk_at "br"
    · walk_at "rd"
      walk_at "dr"
      intro r2 H2 p2 q2 B2 x2 f2
      walk_at "rd"
      exact k _ _ (by omega) (by omega) ⟨B2, x1.trans x2, fun l h => f2 l (f1 l h)⟩
    · walk_at "rd"
      walk_at "br"
      · walk_at "rd"
        walk_at "dr"
        intro r2 H2 p2 q2 B2 x2 f2
        walk_at "rd"
        exact k _ _ (by omega) (by omega) ⟨B2, x1.trans x2, fun l h => f2 l (f1 l h)⟩
      · walk_at "rd"
        exact k _ _ (by omega) (by omega) ⟨B1, x1, f1⟩
def spPool (K : PySem.W.Frag) : Sp := fun vs H Q _ => ∃ (b : Addr) (n m : Int), vs = [.ref b, .int n, .int m] ∧ Stop (∃ G, Same G H ∧ G b = none ∧ BoxAt H b ∧ 0 ≤ n ∧ n ≤ 4 ∧ 10 ≤ m ∧ m ≤ 10 ^ 15 ∧ m * 40 ^ n.toNat < 2 ^ 61 ∧
  ∀ l G' H' ss, StB b G H G' H' → Dp K G' (.ref l) (.list (pDs ss)) → BoxAt H' b → (ss.length : Int) = n → PoolOk ss → Q (.ref l) H')
theorem five {s d : Int} (h0 : 0 ≤ d) (h1 : d < 5) (hs : 0 ≤ s) : -(2 * s) ≤ s * (d - 2) ∧ s * (d - 2) ≤ 2 * s := by
  have : d - 2 = -2 ∨ d - 2 = -1 ∨ d - 2 = 0 ∨ d - 2 = 1 ∨ d - 2 = 2 := by omega
  rcases this with e | e | e | e | e <;> rw [e] <;> omega
theorem sc__law_pool : FnScope ["_law_box_here", "_law_count", "_law_most", "_law_factor_here", "_law_top", "_law_reach", "_law_common", "_law_loose", "_law_off", "_law_pool_here", "_law_k", "_law_size", "_law_spot"] ["_law_box_here", "_law_count", "_law_most"] (defScope s__law_pool) := ⟨rfl, rfl, rfl, by decide +kernel, rfl, by decide +kernel, by decide +kernel⟩
theorem ok__law_pool (T : Txt K mg D) : FnOk P w K mg base CX0 5 D.a__law_pool D.d__law_pool ["_law_box_here", "_law_count", "_law_most"] (spPool K) := by
  have G__law_draw := ok__law_draw (P := P) (w := w) (base := base) T
  have G__law_factor := ok__law_factor (P := P) (w := w) (base := base) T
  refine T.F__law_pool.ok sc__law_pool (fun vs H Q E h => ?_) (fun cdv A outer s H vs Q E hr h => ?_)
  · obtain ⟨b, n, m, rfl, _⟩ := h
    rfl
  · obtain ⟨b, n, m, rfl, st⟩ := h
    refine ⟨_, (pss_cons (ps_set (i := 3) sc__law_pool.nd rfl (Or.inl rfl) (pe_call G__law_factor (hr.mono (by decide)) (by rfl) T.g__law_factor T.F__law_factor.kp T.b__law_factor .nil pass0 (pa_cons (pv 0) (pa_cons (pv 2) pa_nil))))
      (pss_cons (ps_set (i := 4) sc__law_pool.nd rfl (Or.inl rfl) (pe_ix ix_list (pe_lst (pa_cons pe_int (pa_cons pe_int pa_nil))) (pe_call G__law_draw (hr.mono (by decide)) (by rfl) T.g__law_draw T.F__law_draw.kp T.b__law_draw .nil pass0 (pa_cons (pv 0) (pa_cons pe_int pa_nil))) (fun _ _ => rfl)))
      (pss_cons (ps_set (i := 5) sc__law_pool.nd rfl (Or.inl rfl) (pe_ix ix_list (pe_lst (pa_cons pe_int (pa_cons pe_int (pa_cons (pe_op op_pow pe_int pe_int) (pa_cons (pe_op op_pow pe_int pe_int) pa_nil))))) (pe_call G__law_draw (hr.mono (by decide)) (by rfl) T.g__law_draw T.F__law_draw.kp T.b__law_draw .nil pass0 (pa_cons (pv 0) (pa_cons pe_int pa_nil))) (fun _ _ => rfl)))
      (pss_cons (ps_set (i := 6) sc__law_pool.nd rfl (Or.inl rfl) (pe_op op_sub (pe_call G__law_draw (hr.mono (by decide)) (by rfl) T.g__law_draw T.F__law_draw.kp T.b__law_draw .nil pass0 (pa_cons (pv 0) (pa_cons (pe_op op_add (pe_op op_mul pe_int (pv 5)) pe_int) pa_nil))) (pv 5)))
      (pss_cons (ps_set (i := 7) sc__law_pool.nd rfl (Or.inl rfl) (pe_call G__law_draw (hr.mono (by decide)) (by rfl) T.g__law_draw T.F__law_draw.kp T.b__law_draw .nil pass0 (pa_cons (pv 0) (pa_cons pe_int pa_nil))))
      (pss_cons (ps_set (i := 8) sc__law_pool.nd rfl (Or.inl rfl) (pe_call G__law_draw (hr.mono (by decide)) (by rfl) T.g__law_draw T.F__law_draw.kp T.b__law_draw .nil pass0 (pa_cons (pv 0) (pa_cons pe_int pa_nil))))
      (pss_cons (ps_set (i := 9) sc__law_pool.nd rfl (Or.inl rfl) (pe_lst pa_nil))
      (pss_cons (ps_for PassesOwn.never rfl (pi_range1 (by rfl) T.n_range (pa_cons (pv 1) pa_nil)) (pg_name (i := 10) sc__law_pool.nd rfl (Or.inl rfl))
      (pss_cons (ps_set (i := 11) sc__law_pool.nd rfl (Or.inl rfl) (pe_op op_mul (pv 3) (pe_op op_add pe_int (pe_call G__law_draw (hr.mono (by decide)) (by rfl) T.g__law_draw T.F__law_draw.kp T.b__law_draw .nil pass0 (pa_cons (pv 0) (pa_cons (pv 4) pa_nil))))))
      (pss_cons (ps_set (i := 12) sc__law_pool.nd rfl (Or.inl rfl) (pv 6))
      (Evl.pss_cut (ps_if (pt_cmpR op_gt (pv 7) pe_int (nomark _))
      (pss_one (ps_set (i := 12) sc__law_pool.nd rfl (Or.inl rfl) (pe_call G__law_draw (hr.mono (by decide)) (by rfl) T.g__law_draw T.F__law_draw.kp T.b__law_draw .nil pass0 (pa_cons (pv 0) (pa_cons (pv 11) pa_nil)))))
      pss_nil)
      (Evl.pss_cut (ps_if (PW.pt (pw_and (pt_cmpR op_eq (pv 7) pe_int (nomark _)) (pw_and1 (pt_cmpR op_eq (pv 10) (pv 8) (nomark _)))))
      (pss_one (ps_set (i := 12) sc__law_pool.nd rfl (Or.inl rfl) (pe_op op_add (pv 12) pe_int)))
      pss_nil)
      (pss_one (ps_expr (pe_bm PySem.F.plainAttrs_list PySem.F.slot_list_append PySem.F.type_list_append mt_append (pv 9) (pa_cons (pe_tup (pa_cons (pe_op op_add (pv 12) (pe_op op_mul (pv 11) (pe_op op_sub (pe_call G__law_draw (hr.mono (by decide)) (by rfl) T.g__law_draw T.F__law_draw.kp T.b__law_draw .nil pass0 (pa_cons (pv 0) (pa_cons pe_int pa_nil))) pe_int))) (pa_cons (pv 11) pa_nil))) pa_nil)))))))))
      (pss_one (ps_ret (pv 9))))))))))), ?_⟩
    obtain ⟨G, v, gb, B, n0, n1, m0, m1, hM, k⟩ := st.out
    walk_at "rd"
    refine ⟨by omega, by omega, ?_⟩
    rintro f H1 f0 f1 ⟨B1, x1, _⟩
    walk_at "rd"
    intro la hla
    walk_at "rd"
    walk_at "dr"
    intro r2 H2 p2 q2 B2 x2 _
    obtain ⟨top, ea, t1, t2⟩ := ints_at (P := fun z => 0 < z ∧ z ≤ 40) [12, 40] p2 q2 (by decide)
    refine ⟨_, _, _, _, rfl, rfl, SqL.of (x2 la _ (BoxAt.ne B1 hla) upd_same), ea, ?_⟩
    walk_at "rd"
    intro lb hlb
    walk_at "rd"
    walk_at "dr"
    intro r3 H3 p3 q3 B3 x3 _
    obtain ⟨reach, eb, r0, r1⟩ := ints_at (P := fun z => 0 < z ∧ z ≤ 10 ^ 17) [9, 400, 10 ^ 9, 10 ^ 17] p3 q3 (by decide)
    refine ⟨_, _, _, _, rfl, rfl, SqL.of (x3 lb _ (BoxAt.ne B2 hlb) upd_same), eb, ?_⟩
    walk_at "rd"
    walk_at "dr"
    intro com H4 p4 q4 B4 x4 _
    walk_at "rd"
    walk_at "dr"
    intro loose H5 p5 q5 B5 x5 _
    walk_at "rd"
    walk_at "dr"
    intro off H6 p6 q6 B6 x6 _
    walk_at "rd"
    intro l hl
    have s6 : StB b G H G H6 := (((((StB.refl v gb).draw x1).mut hla).draw x2).mut hlb).draw (((x3.trans x4).trans x5).trans x6)
    have nl : l ≠ b := BoxAt.ne B6 hl
    walk_at "rd"
    refine ⟨by omega, by omega, ?_⟩
    refine for_range (fun i σ H' => Stop (∃ (v1 v2 v3 : Option V) (ss : List (Int × Int)) (G' : Hp) (acc : List V), σ = [some (.ref b), some (.int n), some (.int m), some (.int f), some (.int top), some (.int reach), some (.int (com - reach)), some (.int loose), some (.int off), some (.ref l), v1, v2, v3] ∧ GrowB K b G H6 l (pDs ss) G' H' acc ∧ BoxFree H' b l ∧ ss.length = i ∧
        (∀ c ∈ ss, 1 ≤ c.2 ∧ -(2 ^ 60) < c.1 ∧ c.1 < 2 ^ 60) ∧ ∃ M : Int, 1 ≤ M ∧ f ∣ M ∧ M ≤ f * 40 ^ i ∧ ∀ c ∈ ss, c.2 ∣ M))
      (.go ⟨none, none, none, [], G, [], rfl, GrowB.start (StB.refl s6.vw gb) hl nl, BoxFree.of B6 hl, rfl, by simp, f, f0, Int.dvd_refl _, by simp, by simp⟩) ?_ ?_
    · intro i σ H7 hi hm
      obtain ⟨v1, v2, v3, ss, G7, acc, rfl, g, F7, hlen, ok, M, M1, fM, M2, M3⟩ := hm.out
      have B7 := F7.at
      walk_at "rd"
      walk_at "dr"
      intro x H8 p8 q8 B8 x8 f8
      have sz0 : f * 1 ≤ f * (1 + x) := Int.mul_le_mul_of_nonneg_left (by omega) (by omega)
      have sz1 : f * (1 + x) ≤ f * 40 := Int.mul_le_mul_of_nonneg_left (by omega) (by omega)
      have szd : f * (1 + x) ∣ M * (1 + x) := Int.mul_dvd_mul_right _ fM
      have szM : M * (1 + x) ≤ f * 40 ^ i * 40 := Int.le_trans (Int.mul_le_mul_of_nonneg_left (show 1 + x ≤ 40 by omega) (by omega)) (Int.mul_le_mul_of_nonneg_right M2 (by decide))
      have szP : M * 1 ≤ M * (1 + x) := Int.mul_le_mul_of_nonneg_left (by omega) (by omega)
      have szQ : M ∣ M * (1 + x) := ⟨_, rfl⟩
      walk_at "rd"
      refine ⟨fun σ' H' => Stop (∃ spot, σ' = [some (.ref b), some (.int n), some (.int m), some (.int f), some (.int top), some (.int reach), some (.int (com - reach)), some (.int loose), some (.int off), some (.ref l), some (.int (0 + (i : Int))), some (.int (f * (1 + x))), some (.int spot)] ∧ -(10 ^ 17) ≤ spot ∧ spot ≤ 10 ^ 17 ∧ DrawnF b H8 H'), ?_, fun σ9 H9 hm => ?_⟩
      · walk_at "rd"
        walk_at "br"
        · walk_at "rd"
          walk_at "dr"
          intro r9 H9 p9 q9 B9 x9 f9
          exact .go ⟨r9, rfl, by omega, by omega, B9, x9, f9⟩
        · exact .go ⟨_, rfl, by omega, by omega, B8, ExB.refl, fun l h => h⟩
      obtain ⟨spot, rfl, s0, s1, B9, x9, f9⟩ := hm.out
      walk_at "rd"
      refine ⟨fun σ' H' => Stop (∃ spot, σ' = [some (.ref b), some (.int n), some (.int m), some (.int f), some (.int top), some (.int reach), some (.int (com - reach)), some (.int loose), some (.int off), some (.ref l), some (.int (0 + (i : Int))), some (.int (f * (1 + x))), some (.int spot)] ∧ -(10 ^ 17) ≤ spot ∧ spot ≤ 10 ^ 17 + 1 ∧ H' = H9), ?_, fun σ10 H10 hm => ?_⟩
      · walk_at "rd"
        walk_at "br"
        · walk_at "rd"
          walk_at "br"
          · walk_at "rd"
            exact .go ⟨_, rfl, by omega, by omega, rfl⟩
          · exact .go ⟨_, rfl, by omega, by omega, rfl⟩
        · exact .go ⟨_, rfl, by omega, by omega, rfl⟩
      obtain ⟨spot, rfl, s0, s1, rfl⟩ := hm.out
      have g9 := g.draw (x8.trans x9)
      have F9 := f9 l (f8 l F7)
      walk_at "rd"
      refine ⟨.inl ⟨rfl, _, SqL.of g9.el⟩, ?_⟩
      walk_at "rd"
      walk_at "dr"
      intro d H11 p11 q11 B11 x11 f11
      have g11 := g9.draw x11
      have F11 := f11 l F9
      have bd := five p11 q11 (show 0 ≤ (f * (1 + x)) by omega)
      walk_at "rd"
      intro tp htp
      have g12 := g11.new (o := .tup [.int (spot + (f * (1 + x)) * (d - 2)), .int (f * (1 + x))]) htp (BoxAt.ne B11 htp)
      have F12 := F11.new (o := .tup [.int (spot + (f * (1 + x)) * (d - 2)), .int (f * (1 + x))]) htp
      walk_at "rd"
      refine ⟨l, acc, .ref tp, rfl, rfl, g12.el, by rw [g12.len, List.length_map, sizeLine_eq]; omega, ?_⟩
      have g13 := g12.add (Dp.mk_pair (SqT.of upd_same))
      refine .go ⟨_, _, _, ss ++ [(spot + (f * (1 + x)) * (d - 2), (f * (1 + x)))], _, _, rfl, by rw [pDs, List.map_append]; exact g13, F12.put, by rw [List.length_append, hlen]; rfl, fun c hc => ?_, M * (1 + x), by omega, Int.dvd_trans fM szQ, by rw [Int.pow_succ, ← Int.mul_assoc]; exact szM, fun c hc => ?_⟩
      · rcases List.mem_append.mp hc with z | z
        · exact ok c z
        · rw [List.mem_singleton.mp z]
          exact ⟨by omega, by omega, by omega⟩
      · rcases List.mem_append.mp hc with z | z
        · exact Int.dvd_trans (M3 c z) szQ
        · rw [List.mem_singleton.mp z]
          exact szd
    · intro σ H7 hm
      obtain ⟨v1, v2, v3, ss, G7, acc, rfl, g, F7, hlen, ok, M, M1, fM, M2, M3⟩ := hm.out
      walk_at "rd"
      obtain ⟨s7, dp⟩ := (g.base s6).freeze
      refine k l _ H7 ss s7 dp F7.at (by omega) ⟨ok, M, M1, ?_, M3⟩
      have e : f * 40 ^ n.toNat ≤ m * 40 ^ n.toNat := Int.mul_le_mul_of_nonneg_right f1 (Int.le_of_lt (Int.pow_pos (by decide)))
      omega
end
end Toy
set_option Elab.async false
set_option linter.all false
set_option maxRecDepth 100000
set_option maxHeartbeats 4000000
namespace Toy
open PySem L2 XR
local macro_rules | `(tactic| walk_at "ne") => `(tactic| first | assumption | (apply Ne.symm; assumption) | exact XR.ne_fresh (by assumption) (by walk_at "hp") | exact Ne.symm (XR.ne_fresh (by assumption) (by walk_at "hp")))
local macro_rules | `(tactic| walk_at "hp") => `(tactic| first | assumption | exact upd_same | (refine Eq.trans (upd_ne ?_) ?_; (walk_at "ne"); walk_at "hp"))
local macro_rules | `(tactic| walk_at "sq") => `(tactic| first | walk_at "hp" | exact SqL.of (by walk_at "hp") | exact SqT.of (by walk_at "hp") | exact XR.SqT.same (by assumption) (by assumption) | exact XR.SqL.same (by assumption) (by assumption))
local macro_rules | `(tactic| walk_at "br") => `(tactic| (refine ite2 ?_ ?_ <;> intro hbr <;> (try simp only [decide_eq_true_eq, decide_eq_false_iff_not, V.int.injEq, V.bl.injEq, V.str.injEq, Bool.not_eq_true, Bool.not_eq_eq_eq_not, Bool.not_true, Bool.not_false, ne_eq, Int.reduceToNat, Int.reducePow, Int.reduceMul, Int.reduceAdd, Int.reduceSub, reduceCtorEq, not_true_eq_false, not_false_eq_true, Int.not_lt, Int.not_le] at hbr)))
local macro_rules | `(tactic| walk_at "side") => `(tactic| first
  | exact ⟨by decide, by decide, by decide⟩
  | exact .inl ⟨by decide, by decide⟩
  | exact .inr ⟨by decide, by decide⟩
  | exact XR.divw (by first | decide | omega) (by first | decide | omega)
  | (show (_ : Int) = _; first | rfl | omega)
  | (show (0 : Int) < _; first | decide | assumption | omega)
  | exact .inl ⟨by omega, by omega⟩
  | exact .inr ⟨by omega, by omega⟩
  | exact .inl (XR.cmul_mod (by decide))
  | exact XR.log_lt (by omega) (by omega)
  | decide
  | (rw [sizeLine_eq]; simp; done)
  | (show 2 ≤ sizeLine; decide) | (show 3 ≤ sizeLine; decide) | (show 4 ≤ sizeLine; decide) | (show 5 ≤ sizeLine; decide) | (show 6 ≤ sizeLine; decide) | (show 7 ≤ sizeLine; decide) | (show 1 ≤ sizeLine; decide) | (show 8 ≤ sizeLine; decide) | (show 0 ≤ sizeLine; decide))
local macro_rules | `(tactic| walk_at "rd1") => `(tactic| first
  | refine ⟨_, rfl, ?_⟩
  | refine ⟨_, _, rfl, rfl, ?_⟩
  | refine ⟨_, _, _, _, rfl, rfl, (by walk_at "sq"), rfl, ?_⟩
  | refine ⟨_, _, _, _, rfl, rfl, (by walk_at "hp"), (by walk_at "hp"), (by walk_at "side"), ?_⟩
  | refine ⟨_, _, rfl, .inl (by walk_at "sq"), ?_⟩
  | refine ⟨_, _, rfl, .inl ⟨(by walk_at "sq"), ?_⟩⟩
  | refine ⟨_, _, rfl, .inr (by walk_at "sq"), ?_⟩
  | refine ⟨_, _, _, _, _, rfl, (by walk_at "hp"), (by walk_at "cls"), (by walk_at "noat"), rfl, ?_⟩
  | refine ⟨_, _, _, _, rfl, rfl, (by walk_at "sq"), (by first | assumption | exact XR.at0 | exact XR.at1), ?_⟩
  | refine ⟨rfl, ?_⟩
  | refine And.intro (by walk_at "side") ?_
  | refine .inl ⟨_, rfl, ?_⟩
  | refine And.intro ⟨_, (by walk_at "sq")⟩ ?_
  | refine ⟨_, _, rfl, (by walk_at "sq"), ?_⟩
  | refine ⟨_, _, rfl, ?_⟩
  | refine .inr ⟨_, rfl, (by walk_at "side"), ?_⟩
  | refine ⟨_, _, _, rfl, (by walk_at "hp"), ?_⟩
  | refine iteT ?_
  | refine iteF ?_)
local macro_rules | `(tactic| walk_at "rd") => `(tactic| repeat (walk_at "rd1"))
local macro_rules | `(tactic| walk_at "nn") => `(tactic| (simp only [Int.reduceToNat, Int.reducePow, Int.reduceMul, Int.reduceAdd, Int.reduceSub, Int.reduceNeg]))
local macro_rules | `(tactic| walk_at "dr") => `(tactic| repeat (first | refine And.intro (by first | assumption | walk_at "pre") ?_ | refine And.intro (by first | decide | omega) ?_))
local macro_rules | `(tactic| walk_at "cls") => `(tactic| first | exact T_cl_Residue (by assumption))
local macro_rules | `(tactic| walk_at "noat") => `(tactic| first | exact Txt.no_Residue_place (by assumption) | exact Txt.no_Residue_length (by assumption))
local macro_rules | `(tactic| walk_at "pre") => `(tactic| first | assumption | exact BoxAt.new (by walk_at "pre") (by assumption) | exact BoxAt.same (by walk_at "pre") (by assumption))
section
variable {P : Program} {w : World} {K : PySem.W.Frag} {mg : Str → Option Value} {base : Heap} {D : Ad}
def Yes (H : Hp) (Q : VK) : Prop := ∀ H', Same H H' → Q (.bl true) H'
theorem Yes.at {H H' : Hp} {Q : VK} {z : Bool} (k : Yes H Q) (e : z = true) (x : Same H H') : Q (.bl z) H' := e ▸ k H' x
def spIs (D : Ad) : Sp := fun vs H Q _ => ∃ (p : Addr) (a n : Int), vs = [.ref p, .int a, .int n] ∧ ResAt D H p (a % n) n ∧ 1 ≤ n ∧ n < 2 ^ 62 ∧ Yes H Q
theorem sc__law_is : FnScope ["_law_residue", "_law_spot", "_law_size"] ["_law_residue", "_law_spot", "_law_size"] (defScope s__law_is) := ⟨rfl, rfl, rfl, by decide +kernel, rfl, by decide +kernel, by decide +kernel⟩
theorem ok__law_is (T : Txt K mg D) : FnOk P w K mg base CX0 3 D.a__law_is D.d__law_is ["_law_residue", "_law_spot", "_law_size"] (spIs D) := by
  have G__law_is_number := ok__law_is_number (P := P) (w := w) (base := base) T
  refine T.F__law_is.ok sc__law_is (fun vs H Q E h => ?_) (fun cdv A outer s H vs Q E hr h => ?_)
  · obtain ⟨p, a, n, rfl, _⟩ := h
    rfl
  · obtain ⟨p, a, n, rfl, ⟨dx, hp⟩, n1, n2, k⟩ := h
    refine ⟨_, (pss_cons (ps_if (pt_not (pt_val (pe_callB call_isi (by rfl) T.n_isinstance (by decide +kernel) (pa_cons (pv 0) (pa_cons (pe_glob (v := .ref D.c_Residue) (by rfl) T.g_Residue rfl) pa_nil)))))
      (pss_one (ps_ret pe_bl))
      pss_nil)
      (pss_cons (ps_if (PW.pt (pw_or (pt_not (pt_val (pe_call G__law_is_number (hr.mono (by decide)) (by rfl) T.g__law_is_number T.F__law_is_number.kp T.b__law_is_number .nil pass0 (pa_cons (pe_fld (pv 0) rfl) pa_nil)))) (pw_or1 (pt_not (pt_val (pe_call G__law_is_number (hr.mono (by decide)) (by rfl) T.g__law_is_number T.F__law_is_number.kp T.b__law_is_number .nil pass0 (pa_cons (pe_fld (pv 0) rfl) pa_nil)))))))
      (pss_one (ps_ret pe_bl))
      pss_nil)
      (pss_one (ps_ret (pe_and (pe_cmpR op_eq (pe_fld (pv 0) rfl) (pe_op op_mod (pe_callTy call_int1 (by rfl) T.n_int (by decide +kernel) (pa_cons (pv 1) pa_nil)) (pv 2)) (nomark _)) (pe_one (pe_cmpR op_eq (pe_fld (pv 0) rfl) (pv 2) (nomark _)))))))), ?_⟩
    walk_at "rd"
    refine ⟨_, _, _, _, true, rfl, .own D.c_Residue, T_ty_Residue T hp, T.z_Residue, ?_⟩
    walk_at "rd"
    refine ifT (by simp) ?_
    walk_at "rd"
    exact k.at (by simp) (Same.refl _)
def Lst (K : PySem.W.Frag) (G : Hp) (l : Addr) (ss : List (Int × Int)) : Prop := ∃ xs, SqL K G l xs ∧ DpAll K G xs (pDs ss)
theorem Lst.of {K : PySem.W.Frag} {G : Hp} {l : Addr} {ss : List (Int × Int)} (h : Dp K G (.ref l) (.list (pDs ss))) : Lst K G l ss := by
  obtain ⟨l', xs, e, hx, hd⟩ := Dp.lst_inv h
  cases e
  exact ⟨xs, hx, hd⟩
def spHolds (K : PySem.W.Frag) (D : Ad) : Sp := fun vs H Q _ => ∃ (p l : Addr) (c : Int) (ss : List (Int × Int)) (G : Hp), vs = [.ref p, .ref l] ∧ ResAt D H p c (lcs ss 1) ∧ 0 ≤ c ∧ c < lcs ss 1 ∧ Com ss c ∧ Lst K G l ss ∧ Same G H ∧ PoolOk ss ∧ Yes H Q
theorem sc__law_holds : FnScope ["_law_residue", "_law_pool_here", "_law_least", "_law_one"] ["_law_residue", "_law_pool_here"] (defScope s__law_holds) := ⟨rfl, rfl, rfl, by decide +kernel, rfl, by decide +kernel, by decide +kernel⟩
theorem ok__law_holds (T : Txt K mg D) : FnOk P w K mg base CX0 5 D.a__law_holds D.d__law_holds ["_law_residue", "_law_pool_here"] (spHolds K D) := by
  have G__law_lcm := ok__law_lcm (P := P) (w := w) (base := base) T
  have G__law_is_number := ok__law_is_number (P := P) (w := w) (base := base) T
  refine T.F__law_holds.ok sc__law_holds (fun vs H Q E h => ?_) (fun cdv A outer s H vs Q E hr h => ?_)
  · obtain ⟨p, l, c, ss, G, rfl, _⟩ := h
    rfl
  · obtain ⟨p, l, c, ss, G, rfl, ⟨dx, hp⟩, c0, c1, hc, ⟨xs, hx, hd⟩, v, O, k⟩ := h
    refine ⟨_, (pss_cons (ps_if (pt_not (pt_val (pe_callB call_isi (by rfl) T.n_isinstance (by decide +kernel) (pa_cons (pv 0) (pa_cons (pe_glob (v := .ref D.c_Residue) (by rfl) T.g_Residue rfl) pa_nil)))))
      (pss_one (ps_ret pe_bl))
      pss_nil)
      (pss_cons (ps_if (PW.pt (pw_or (pt_not (pt_val (pe_call G__law_is_number (hr.mono (by decide)) (by rfl) T.g__law_is_number T.F__law_is_number.kp T.b__law_is_number .nil pass0 (pa_cons (pe_fld (pv 0) rfl) pa_nil)))) (pw_or1 (pt_not (pt_val (pe_call G__law_is_number (hr.mono (by decide)) (by rfl) T.g__law_is_number T.F__law_is_number.kp T.b__law_is_number .nil pass0 (pa_cons (pe_fld (pv 0) rfl) pa_nil)))))))
      (pss_one (ps_ret pe_bl))
      pss_nil)
      (pss_cons (ps_set (i := 2) sc__law_holds.nd rfl (Or.inl rfl) pe_int)
      (pss_cons (ps_for PassesOwn.never rfl (XR.pi_sq (pv 1)) (pg_name (i := 3) sc__law_holds.nd rfl (Or.inl rfl))
      (pss_cons (ps_set (i := 2) sc__law_holds.nd rfl (Or.inl rfl) (pe_call G__law_lcm (hr.mono (by decide)) (by rfl) T.g__law_lcm T.F__law_lcm.kp T.b__law_lcm .nil pass0 (pa_cons (pv 2) (pa_cons (pe_ix ix_tup (pv 3) pe_int (fun _ _ => rfl)) pa_nil))))
      (pss_one (ps_if (pt_cmpR op_ne (pe_op op_mod (pe_callTy call_int1 (by rfl) T.n_int (by decide +kernel) (pa_cons (pe_op op_sub (pe_fld (pv 0) rfl) (pe_ix ix_tup (pv 3) pe_int (fun _ _ => rfl))) pa_nil)) (pe_ix ix_tup (pv 3) pe_int (fun _ _ => rfl))) pe_int (nomark _))
      (pss_one (ps_ret pe_bl))
      pss_nil))))
      (pss_one (ps_ret (pe_and (pe_cmpR op_eq (pe_fld (pv 0) rfl) (pv 2) (nomark _)) (pe_one (pe_chain op_le op_lt pe_int (pe_fld (pv 0) rfl) (pv 2)))))))))), ?_⟩
    have hlen := XR.DpAll.length hd
    rw [List.length_map] at hlen
    have hL := O.lcs ss.length
    rw [List.take_length] at hL
    walk_at "rd"
    refine ⟨_, _, _, _, true, rfl, .own D.c_Residue, T_ty_Residue T hp, T.z_Residue, ?_⟩
    walk_at "rd"
    refine ⟨l, xs, G, rfl, .inl hx, v, fun J W => ?_⟩
    refine for_it W (fun i σ H2 => Stop (∃ v1, σ = [some (.ref p), some (.ref l), some (.int (lcs (ss.take i) 1)), v1] ∧ H2 = H)) (.go ⟨none, rfl, rfl⟩) (fun i σ H2 _ I => by obtain ⟨_, _, e⟩ := I.out; rw [e]; exact v) ?_ ?_
    · rintro i x σ H2 _ hi I ⟨rfl, hxi⟩
      obtain ⟨v1, rfl, rfl⟩ := I.out
      obtain ⟨q, t, hq, rfl, st, _⟩ := pairs_get hd hxi
      have st' := SqT.same st v
      have hm := List.mem_of_getElem? hq
      obtain ⟨q1, q2⟩ := O.sz hm
      obtain ⟨_, q3, q4⟩ := O.ps q hm
      have hL1 := O.lcs i
      have ec := lcs_take ss 1 i q hq
      have em : (c - q.1) % q.2 = 0 := Int.emod_eq_zero_of_dvd (hc q hm)
      walk_at "rd"
      refine ⟨by omega, by omega, ?_⟩
      walk_at "rd"
      refine ifF (by simp [em]) ?_
      walk_at "rd"
      exact .go ⟨_, by rw [ec]; rfl, rfl⟩
    · rintro σ H2 I
      obtain ⟨v1, rfl, rfl⟩ := I.out
      rw [List.take_of_length_le (by omega)]
      walk_at "rd"
      refine ifT (by simp) ?_
      walk_at "rd"
      refine ifT (by simp; omega) ?_
      walk_at "rd"
      exact k.at (by simp; omega) (Same.refl _)
def spApart (K : PySem.W.Frag) : Sp := fun vs H Q _ => ∃ (p q : Addr) (c d : Int × Int), vs = [.ref p, .ref q] ∧ SqT K H p [.int c.1, .int c.2] ∧ SqT K H q [.int d.1, .int d.2] ∧ 1 ≤ c.2 ∧ 1 ≤ d.2 ∧ Q (.bl (decide (¬ gI c.2 d.2 ∣ c.1 - d.1))) H
theorem sc__law_apart : FnScope ["_law_one", "_law_other"] ["_law_one", "_law_other"] (defScope s__law_apart) := ⟨rfl, rfl, rfl, by decide +kernel, rfl, by decide +kernel, by decide +kernel⟩
theorem ok__law_apart (T : Txt K mg D) : FnOk P w K mg base CX0 3 D.a__law_apart D.d__law_apart ["_law_one", "_law_other"] (spApart K) := by
  have G__law_gcd := ok__law_gcd (P := P) (w := w) (base := base) T
  refine T.F__law_apart.ok sc__law_apart (fun vs H Q E h => ?_) (fun cdv A outer s H vs Q E hr h => ?_)
  · obtain ⟨p, q, c, d, rfl, _⟩ := h
    rfl
  · obtain ⟨p, q, c, d, rfl, hp, hq, c1, d1, k⟩ := h
    refine ⟨_, (pss_one (ps_ret (pe_cmpR op_ne (pe_op op_mod (pe_callTy call_int1 (by rfl) T.n_int (by decide +kernel) (pa_cons (pe_op op_sub (pe_ix ix_tup (pv 0) pe_int (fun _ _ => rfl)) (pe_ix ix_tup (pv 1) pe_int (fun _ _ => rfl))) pa_nil)) (pe_call G__law_gcd (hr.mono (by decide)) (by rfl) T.g__law_gcd T.F__law_gcd.kp T.b__law_gcd .nil pass0 (pa_cons (pe_ix ix_tup (pv 0) pe_int (fun _ _ => rfl)) (pa_cons (pe_ix ix_tup (pv 1) pe_int (fun _ _ => rfl)) pa_nil)))) pe_int (nomark _)))), ?_⟩
    have g1 : 1 ≤ ((Nat.gcd c.2.toNat d.2.toNat : Nat) : Int) := gI_pos c1
    walk_at "rd"
    refine ⟨by omega, by omega, ?_⟩
    walk_at "rd"
    have kk : ∀ z : Bool, z = decide (¬ gI c.2 d.2 ∣ c.1 - d.1) → Q (.bl z) H := fun z e => e ▸ k
    refine kk _ ?_
    rw [show ((Nat.gcd c.2.toNat d.2.toNat : Nat) : Int) = gI c.2 d.2 from rfl]
    by_cases h : gI c.2 d.2 ∣ c.1 - d.1
    · simp [h, Int.emod_eq_zero_of_dvd h]
    · have := fun e => h (Int.dvd_of_emod_eq_zero e)
      simp [h]
      exact this
inductive Told2 (K : PySem.W.Frag) (D : Ad) (H : Hp) (t : Addr) (a b n m : Int) : Prop
  | dis (h : ¬ gI n m ∣ b - a) (e : SqT K H t [.non, .bl true, .int (gI n m)])
  | met (r : Addr) (c : Int) (h : gI n m ∣ b - a) (e : SqT K H t [.ref r, .bl true, .int 0]) (s : ResAt D H r c (lcmI n m)) (c0 : 0 ≤ c) (c1 : c < lcmI n m) (d1 : n ∣ c - a) (d2 : m ∣ c - b)
def spMeet2 (K : PySem.W.Frag) (D : Ad) : Sp := fun vs H Q _ => ∃ (p q : Addr) (a b n m : Int), vs = [.ref p, .ref q] ∧ ResAt D H p a n ∧ ResAt D H q b m ∧ 1 ≤ n ∧ 1 ≤ m ∧ lcmI n m < 2 ^ 62 ∧ (0 ≤ a ∧ a < n) ∧ (0 ≤ b ∧ b < m) ∧
  ∀ t H', Same H H' → Told2 K D H' t a b n m → Q (.ref t) H'
theorem sc__law_meet : FnScope ["_law_first", "_law_second", "e"] ["_law_first", "_law_second"] (defScope s__law_meet) := ⟨rfl, rfl, rfl, by decide +kernel, rfl, by decide +kernel, by decide +kernel⟩
theorem ok__law_meet (T : Txt K mg D) : FnOk P w K mg base CX0 7 D.a__law_meet D.d__law_meet ["_law_first", "_law_second"] (spMeet2 K D) := by
  have G_Residue___and__ := ok_Residue___and__ (P := P) (w := w) (base := base) T
  refine T.F__law_meet.ok sc__law_meet (fun vs H Q E h => ?_) (fun cdv A outer s H vs Q E hr h => ?_)
  · obtain ⟨p, q, a, b, n, m, rfl, _⟩ := h
    rfl
  · obtain ⟨p, q, a, b, n, m, rfl, S1, S2, n1, m1, hl, ha, hb, k⟩ := h
    refine ⟨_, (pss_one (ps_try_as (i := 2) (Wout := fun _ _ _ _ => False) rfl rfl sc__law_meet.nd rfl rfl ⟨rfl, by decide, Or.inl T.g_ImpossibleError⟩ takes0 (fun W pn xe tk _ => (pss_one (ps_ret (pe_tup (pa_cons (XR.pe_opCS (T_o_Residue___and__ T) G_Residue___and__ (hr.mono (by decide)) T.b_Residue___and__ (fun σ => passAt tk σ) (pv 0) (pv 1)) (pa_cons pe_bl (pa_cons pe_int pa_nil))))))) (fun a oe cls d pn hz hf => XR.cong_ts (by exact (pss_cons (ps_if (PW.pt (pw_or (pt_not (pt_val (pe_callB (id := "isinstance") (XR.call_isAs hz hf) (by rfl) T.n_isinstance (by decide +kernel) (pa_cons (pv 2) (pa_cons (pe_glob (v := .ref D.c_Disjoint) (by rfl) T.g_Disjoint rfl) pa_nil))))) (pw_or1 (pt_not (pt_val (pe_callB (id := "isinstance") (XR.call_isAs hz hf) (by rfl) T.n_isinstance (by decide +kernel) (pa_cons (pv 2) (pa_cons (pe_glob (v := .ref D.c_ArchiveError) (by rfl) T.g_ArchiveError rfl) pa_nil))))))))
      (pss_one (ps_ret (pe_tup (pa_cons pe_non (pa_cons pe_bl (pa_cons pe_int pa_nil))))))
      pss_nil)
      (pss_one (ps_ret (pe_tup (pa_cons pe_non (pa_cons (pe_not (pe_callB (id := "isinstance") (XR.call_isATs hz hf) (by rfl) T.n_isinstance (by decide +kernel) (pa_cons (pv 2) (pa_cons (pe_tup (pa_cons (pe_glob (v := .ref D.c_UnknownError) (by rfl) T.g_UnknownError rfl) (pa_cons (pe_glob (v := .ref D.c_TextError) (by rfl) T.g_TextError rfl) (pa_cons (pe_glob (v := .ref D.c_OutOfRange) (by rfl) T.g_OutOfRange rfl) pa_nil)))) pa_nil)))) (pa_cons (XR.pe_pfs hz hf (pv 2)) pa_nil)))))))) (by rfl)))), ?_⟩
    obtain ⟨dx, hp⟩ := id S1
    obtain ⟨dy, hq⟩ := id S2
    walk_at "rd"
    refine ⟨p, q, _, _, _, _, rfl, rfl, hp, hq, p, q, a, b, n, m, rfl, S1, S2, n1, m1, hl, ha, hb, fun h => ?_, fun h r H1 c x1 nr s1 c0 c1 d1 d2 => ?_⟩
    · intro d H1 hd x1
      refine ⟨true, T.m_di, fun _ ea hea => ?_, fun h => by cases h⟩
      walk_at "rd"
      refine .inl ⟨_, d, _, _, _, true, rfl, rfl, hd, T_as_Disjoint T, rfl, .own _, T.z_D, ?_⟩
      walk_at "rd"
      refine .inl ⟨_, d, _, _, _, true, rfl, rfl, hd, T_as_Disjoint T, rfl, .own _, T.z_A, ?_⟩
      walk_at "rd"
      intro tp htp
      walk_at "rd"
      refine .inl ⟨_, d, tp, _, _, _, false, rfl, rfl, by walk_at "hp", T_as_Disjoint T, rfl, upd_same, .cons (.own _) (.cons (.own _) (.cons (.own _) .nil)), XR.kitAny_cons T.z_U (XR.kitAny_cons T.z_T (XR.kitAny_cons T.z_O (by rfl))), ?_⟩
      walk_at "rd"
      refine ⟨_, d, _, _, rfl, rfl, rfl, by walk_at "hp", T_xf_Disjoint T, T.e_Disjoint_divisor, rfl, ?_⟩
      walk_at "rd"
      intro t ht
      exact k t _ (Same.new (Same.new x1 htp) ht) (.dis h (SqT.of upd_same))
    · walk_at "rd"
      intro t ht
      exact k t _ (Same.new x1 ht) (.met r c h (SqT.of upd_same) (s1.same (Same.add ht)) c0 c1 d1 d2)
def spDisj (K : PySem.W.Frag) : Sp := fun vs H Q _ => ∃ (t : Addr) (d : Int), vs = [.ref t, .int d] ∧ SqT K H t [.non, .bl true, .int d] ∧ Yes H Q
theorem sc__law_is_disjoint : FnScope ["_law_told", "_law_divisor"] ["_law_told", "_law_divisor"] (defScope s__law_is_disjoint) := ⟨rfl, rfl, rfl, by decide +kernel, rfl, by decide +kernel, by decide +kernel⟩
theorem ok__law_is_disjoint (T : Txt K mg D) : FnOk P w K mg base CX0 3 D.a__law_is_disjoint D.d__law_is_disjoint ["_law_told", "_law_divisor"] (spDisj K) := by
  have G__law_is_number := ok__law_is_number (P := P) (w := w) (base := base) T
  refine T.F__law_is_disjoint.ok sc__law_is_disjoint (fun vs H Q E h => ?_) (fun cdv A outer s H vs Q E hr h => ?_)
  · obtain ⟨t, d, rfl, _⟩ := h
    rfl
  · obtain ⟨t, d, rfl, ht, k⟩ := h
    refine ⟨_, (pss_one (ps_ret (pe_and (pe_cmpR op_isN (pe_ix ix_tup (pv 0) pe_int (fun _ _ => rfl)) pe_non (nomark _)) (pe_and (pe_ix ix_tup (pv 0) pe_int (fun _ _ => rfl)) (pe_and (pe_call G__law_is_number (hr.mono (by decide)) (by rfl) T.g__law_is_number T.F__law_is_number.kp T.b__law_is_number .nil pass0 (pa_cons (pe_ix ix_tup (pv 0) pe_int (fun _ _ => rfl)) pa_nil)) (pe_one (pe_cmpR op_eq (pe_ix ix_tup (pv 0) pe_int (fun _ _ => rfl)) (pv 1) (nomark _)))))))), ?_⟩
    have e2 : atI [V.non, .bl true, .int d] 2 = some (.int d) := atI_nat (j := 2) rfl
    walk_at "rd"
    exact k.at (by simp) (Same.refl _)
end
end Toy
set_option Elab.async false
set_option linter.all false
set_option maxRecDepth 100000
set_option maxHeartbeats 4000000
namespace Toy
open PySem L2 XR
local macro_rules | `(tactic| walk_at "ne") => `(tactic| first | assumption | (apply Ne.symm; assumption) | exact XR.ne_fresh (by assumption) (by walk_at "hp") | exact Ne.symm (XR.ne_fresh (by assumption) (by walk_at "hp")))
local macro_rules | `(tactic| walk_at "hp") => `(tactic| first | assumption | exact upd_same | (refine Eq.trans (upd_ne ?_) ?_; (walk_at "ne"); walk_at "hp"))
local macro_rules | `(tactic| walk_at "sq") => `(tactic| first | walk_at "hp" | exact SqL.of (by walk_at "hp") | exact SqT.of (by walk_at "hp") | exact XR.SqT.same (by assumption) (by assumption) | exact XR.SqL.same (by assumption) (by assumption))
local macro_rules | `(tactic| walk_at "br") => `(tactic| (refine ite2 ?_ ?_ <;> intro hbr <;> (try simp only [decide_eq_true_eq, decide_eq_false_iff_not, V.int.injEq, V.bl.injEq, V.str.injEq, Bool.not_eq_true, Bool.not_eq_eq_eq_not, Bool.not_true, Bool.not_false, ne_eq, Int.reduceToNat, Int.reducePow, Int.reduceMul, Int.reduceAdd, Int.reduceSub, reduceCtorEq, not_true_eq_false, not_false_eq_true, Int.not_lt, Int.not_le] at hbr)))
local macro_rules | `(tactic| walk_at "side") => `(tactic| first
  | exact ⟨by decide, by decide, by decide⟩
  | exact .inl ⟨by decide, by decide⟩
  | exact .inr ⟨by decide, by decide⟩
  | exact XR.divw (by first | decide | omega) (by first | decide | omega)
  | (show (_ : Int) = _; first | rfl | omega)
  | (show (0 : Int) < _; first | decide | assumption | omega)
  | exact .inl ⟨by omega, by omega⟩
  | exact .inr ⟨by omega, by omega⟩
  | exact .inl (XR.cmul_mod (by decide))
  | exact XR.log_lt (by omega) (by omega)
  | decide
  | (rw [sizeLine_eq]; simp; done)
  | (show 2 ≤ sizeLine; decide) | (show 3 ≤ sizeLine; decide) | (show 4 ≤ sizeLine; decide) | (show 5 ≤ sizeLine; decide) | (show 6 ≤ sizeLine; decide) | (show 7 ≤ sizeLine; decide) | (show 1 ≤ sizeLine; decide) | (show 8 ≤ sizeLine; decide) | (show 0 ≤ sizeLine; decide))
local macro_rules | `(tactic| walk_at "rd1") => `(tactic| first
  | refine ⟨_, rfl, ?_⟩
  | refine ⟨_, _, rfl, rfl, ?_⟩
  | refine ⟨_, _, _, _, rfl, rfl, (by walk_at "sq"), rfl, ?_⟩
  | refine ⟨_, _, _, _, rfl, rfl, (by walk_at "hp"), (by walk_at "hp"), (by walk_at "side"), ?_⟩
  | refine ⟨_, _, rfl, .inl (by walk_at "sq"), ?_⟩
  | refine ⟨_, _, rfl, .inl ⟨(by walk_at "sq"), ?_⟩⟩
  | refine ⟨_, _, rfl, .inr (by walk_at "sq"), ?_⟩
  | refine ⟨_, _, _, _, _, rfl, (by walk_at "hp"), (by walk_at "cls"), (by walk_at "noat"), rfl, ?_⟩
  | refine ⟨_, _, _, _, rfl, rfl, (by walk_at "sq"), (by first | assumption | exact XR.at0 | exact XR.at1), ?_⟩
  | refine ⟨rfl, ?_⟩
  | refine And.intro (by walk_at "side") ?_
  | refine .inl ⟨_, rfl, ?_⟩
  | refine And.intro ⟨_, (by walk_at "sq")⟩ ?_
  | refine ⟨_, _, rfl, (by walk_at "sq"), ?_⟩
  | refine ⟨_, _, rfl, ?_⟩
  | refine .inr ⟨_, rfl, (by walk_at "side"), ?_⟩
  | refine ⟨_, _, _, rfl, (by walk_at "hp"), ?_⟩
  | refine iteT ?_
  | refine iteF ?_)
local macro_rules | `(tactic| walk_at "rd") => `(tactic| repeat (walk_at "rd1"))
local macro_rules | `(tactic| walk_at "nn") => `(tactic| (simp only [Int.reduceToNat, Int.reducePow, Int.reduceMul, Int.reduceAdd, Int.reduceSub, Int.reduceNeg]))
local macro_rules | `(tactic| walk_at "dr") => `(tactic| repeat (first | refine And.intro (by first | assumption | walk_at "pre") ?_ | refine And.intro (by first | decide | omega) ?_))
local macro_rules | `(tactic| walk_at "cls") => `(tactic| first | exact T_cl_Residue (by assumption))
local macro_rules | `(tactic| walk_at "noat") => `(tactic| first | exact Txt.no_Residue_place (by assumption) | exact Txt.no_Residue_length (by assumption))
local macro_rules | `(tactic| walk_at "pre") => `(tactic| first | assumption | exact BoxAt.new (by walk_at "pre") (by assumption) | exact BoxAt.same (by walk_at "pre") (by assumption))
section
variable {P : Program} {w : World} {K : PySem.W.Frag} {mg : Str → Option Value} {base : Heap} {D : Ad}
def spJoin (K : PySem.W.Frag) (D : Ad) : Sp := fun vs H Q E => ∃ (l : Addr) (rs : RS), vs = [.ref l] ∧ SqL K H l rs.vs ∧ rs.length ≤ 4 ∧ Rs D H rs ∧ (∀ i, lcs (rs.ss.take i) 1 < 2 ^ 62) ∧
  (∀ i p c, rs.ss[i]? = some p → Com (rs.ss.take i) c → ¬ gI (lcs (rs.ss.take i) 1) p.2 ∣ p.1 - c → Wish D.c_Disjoint [("divisor", .int (gI (lcs (rs.ss.take i) 1) p.2))] H E) ∧
  (∀ r H' c, Same H H' → H r = none → ResAt D H' r c (lcs rs.ss 1) → 0 ≤ c → c < lcs rs.ss 1 → Com rs.ss c → Q (.ref r) H')
theorem sc__law_joined : FnScope ["_law_ones"] ["_law_ones"] (defScope s__law_joined) := ⟨rfl, rfl, rfl, by decide +kernel, rfl, by decide +kernel, by decide +kernel⟩
theorem ok__law_joined (T : Txt K mg D) : FnOk P w K mg base (L2.CX P w) 9 D.a__law_joined D.d__law_joined ["_law_ones"] (spJoin K D) := by
  have G_Residue_meet := ok_Residue_meet (P := P) (w := w) (base := base) T
  refine T.F__law_joined.okX sc__law_joined (fun vs H Q E h => ?_) (fun cdv A outer s H vs Q E hr h => ?_)
  · obtain ⟨l, rs, rfl, _⟩ := h
    rfl
  · obtain ⟨l, rs, rfl, hl, h4, hR, hL, kE, kS⟩ := h
    refine ⟨_, (pss_cons (ps_if (pt_cmpR op_eq (pe_callB call_len_seq (by rfl) T.n_len (by decide +kernel) (pa_cons (pv 0) pa_nil)) pe_int (nomark _))
      (pss_one (ps_ret (XR.pe_statR0 (pe_glob (v := .ref D.c_Residue) (by rfl) T.g_Residue rfl) (T_s_Residue_meet T) G_Residue_meet (hr.mono (by decide)) T.F_Residue_meet.kp (fun σ => XR.at_of_passes (σ := σ) (passes_call (takes_of rfl rfl rfl rfl) (fun _ _ _ _ z => z))))))
      pss_nil)
      (pss_cons (ps_if (pt_cmpR op_eq (pe_callB call_len_seq (by rfl) T.n_len (by decide +kernel) (pa_cons (pv 0) pa_nil)) pe_int (nomark _))
      (pss_one (ps_ret (XR.pe_statR (pe_glob (v := .ref D.c_Residue) (by rfl) T.g_Residue rfl) (T_s_Residue_meet T) G_Residue_meet (hr.mono (by decide)) T.F_Residue_meet.kp (fun σ => XR.at_of_passes (σ := σ) (passes_call (takes_of rfl rfl rfl rfl) (fun _ _ _ _ z => z))) (pa_cons (pe_ix ix_list (pv 0) pe_int (fun _ _ => rfl)) pa_nil))))
      pss_nil)
      (pss_cons (ps_if (pt_cmpR op_eq (pe_callB call_len_seq (by rfl) T.n_len (by decide +kernel) (pa_cons (pv 0) pa_nil)) pe_int (nomark _))
      (pss_one (ps_ret (XR.pe_statR (pe_glob (v := .ref D.c_Residue) (by rfl) T.g_Residue rfl) (T_s_Residue_meet T) G_Residue_meet (hr.mono (by decide)) T.F_Residue_meet.kp (fun σ => XR.at_of_passes (σ := σ) (passes_call (takes_of rfl rfl rfl rfl) (fun _ _ _ _ z => z))) (pa_cons (pe_ix ix_list (pv 0) pe_int (fun _ _ => rfl)) (pa_cons (pe_ix ix_list (pv 0) pe_int (fun _ _ => rfl)) pa_nil)))))
      pss_nil)
      (pss_cons (ps_if (pt_cmpR op_eq (pe_callB call_len_seq (by rfl) T.n_len (by decide +kernel) (pa_cons (pv 0) pa_nil)) pe_int (nomark _))
      (pss_one (ps_ret (XR.pe_statR (pe_glob (v := .ref D.c_Residue) (by rfl) T.g_Residue rfl) (T_s_Residue_meet T) G_Residue_meet (hr.mono (by decide)) T.F_Residue_meet.kp (fun σ => XR.at_of_passes (σ := σ) (passes_call (takes_of rfl rfl rfl rfl) (fun _ _ _ _ z => z))) (pa_cons (pe_ix ix_list (pv 0) pe_int (fun _ _ => rfl)) (pa_cons (pe_ix ix_list (pv 0) pe_int (fun _ _ => rfl)) (pa_cons (pe_ix ix_list (pv 0) pe_int (fun _ _ => rfl)) pa_nil))))))
      pss_nil)
      (pss_one (ps_ret (XR.pe_statR (pe_glob (v := .ref D.c_Residue) (by rfl) T.g_Residue rfl) (T_s_Residue_meet T) G_Residue_meet (hr.mono (by decide)) T.F_Residue_meet.kp (fun σ => XR.at_of_passes (σ := σ) (passes_call (takes_of rfl rfl rfl rfl) (fun _ _ _ _ z => z))) (pa_cons (pe_ix ix_list (pv 0) pe_int (fun _ _ => rfl)) (pa_cons (pe_ix ix_list (pv 0) pe_int (fun _ _ => rfl)) (pa_cons (pe_ix ix_list (pv 0) pe_int (fun _ _ => rfl)) (pa_cons (pe_ix ix_list (pv 0) pe_int (fun _ _ => rfl)) pa_nil))))))))))), ?_⟩
    have kk : Stop (XR.spStar (spMeet K D) rs.vs H Q E) := .go ⟨by rw [List.length_map, sizeLine_eq]; omega, fun p hp => ⟨p, rs, rfl, SqT.of upd_same, hR.same (Same.add hp), hL, fun i q c h1 h2 h3 d H' e s => kE i q c h1 h2 h3 d H' e ((Same.add hp).trans s), fun r H' c x n s c0 c1 hc => kS r H' c ((Same.add hp).trans x) (none_back (Same.add hp) n) s c0 c1 hc⟩⟩
    clear kE kS hR hL
    generalize hw : RS.vs rs = ws at hl
    rcases rs with _ | ⟨r1, _ | ⟨r2, _ | ⟨r3, _ | ⟨r4, _ | ⟨r5, rs⟩⟩⟩⟩⟩
    · simp only [RS.vs, List.map] at hw kk
      have hlen : ws.length = 0 := by rw [← hw]; rfl
      clear hw
      walk_at "rd"
      refine ifT (by simp [hlen]) ?_
      walk_at "rd"
      exact kk.out.2
    · simp only [RS.vs, List.map] at hw kk
      have hlen : ws.length = 1 := by rw [← hw]; rfl
      have e0 : atI ws 0 = some (.ref r1.1) := by rw [← hw]; exact atI_nat (j := 0) rfl
      clear hw
      walk_at "rd"
      refine ifF (by simp [hlen]) ?_
      walk_at "rd"
      refine ifT (by simp [hlen]) ?_
      walk_at "rd"
      exact kk.out.2
    · simp only [RS.vs, List.map] at hw kk
      have hlen : ws.length = 2 := by rw [← hw]; rfl
      have e0 : atI ws 0 = some (.ref r1.1) := by rw [← hw]; exact atI_nat (j := 0) rfl
      have e1 : atI ws 1 = some (.ref r2.1) := by rw [← hw]; exact atI_nat (j := 1) rfl
      clear hw
      walk_at "rd"
      refine ifF (by simp [hlen]) ?_
      walk_at "rd"
      refine ifF (by simp [hlen]) ?_
      walk_at "rd"
      refine ifT (by simp [hlen]) ?_
      walk_at "rd"
      exact kk.out.2
    · simp only [RS.vs, List.map] at hw kk
      have hlen : ws.length = 3 := by rw [← hw]; rfl
      have e0 : atI ws 0 = some (.ref r1.1) := by rw [← hw]; exact atI_nat (j := 0) rfl
      have e1 : atI ws 1 = some (.ref r2.1) := by rw [← hw]; exact atI_nat (j := 1) rfl
      have e2 : atI ws 2 = some (.ref r3.1) := by rw [← hw]; exact atI_nat (j := 2) rfl
      clear hw
      walk_at "rd"
      refine ifF (by simp [hlen]) ?_
      walk_at "rd"
      refine ifF (by simp [hlen]) ?_
      walk_at "rd"
      refine ifF (by simp [hlen]) ?_
      walk_at "rd"
      refine ifT (by simp [hlen]) ?_
      walk_at "rd"
      exact kk.out.2
    · simp only [RS.vs, List.map] at hw kk
      have hlen : ws.length = 4 := by rw [← hw]; rfl
      have e0 : atI ws 0 = some (.ref r1.1) := by rw [← hw]; exact atI_nat (j := 0) rfl
      have e1 : atI ws 1 = some (.ref r2.1) := by rw [← hw]; exact atI_nat (j := 1) rfl
      have e2 : atI ws 2 = some (.ref r3.1) := by rw [← hw]; exact atI_nat (j := 2) rfl
      have e3 : atI ws 3 = some (.ref r4.1) := by rw [← hw]; exact atI_nat (j := 3) rfl
      clear hw
      walk_at "rd"
      refine ifF (by simp [hlen]) ?_
      walk_at "rd"
      refine ifF (by simp [hlen]) ?_
      walk_at "rd"
      refine ifF (by simp [hlen]) ?_
      walk_at "rd"
      refine ifF (by simp [hlen]) ?_
      walk_at "rd"
      exact kk.out.2
    · exact absurd h4 (by simp)
end
end Toy
set_option Elab.async false
set_option linter.all false
set_option maxRecDepth 100000
set_option maxHeartbeats 4000000
namespace Toy
open PySem L2 XR
local macro_rules | `(tactic| walk_at "ne") => `(tactic| first | assumption | (apply Ne.symm; assumption) | exact XR.ne_fresh (by assumption) (by walk_at "hp") | exact Ne.symm (XR.ne_fresh (by assumption) (by walk_at "hp")))
local macro_rules | `(tactic| walk_at "hp") => `(tactic| first | assumption | exact upd_same | (refine Eq.trans (upd_ne ?_) ?_; (walk_at "ne"); walk_at "hp"))
local macro_rules | `(tactic| walk_at "sq") => `(tactic| first | walk_at "hp" | exact SqL.of (by walk_at "hp") | exact SqT.of (by walk_at "hp") | exact XR.SqT.same (by assumption) (by assumption) | exact XR.SqL.same (by assumption) (by assumption))
local macro_rules | `(tactic| walk_at "br") => `(tactic| (refine ite2 ?_ ?_ <;> intro hbr <;> (try simp only [decide_eq_true_eq, decide_eq_false_iff_not, V.int.injEq, V.bl.injEq, V.str.injEq, Bool.not_eq_true, Bool.not_eq_eq_eq_not, Bool.not_true, Bool.not_false, ne_eq, Int.reduceToNat, Int.reducePow, Int.reduceMul, Int.reduceAdd, Int.reduceSub, reduceCtorEq, not_true_eq_false, not_false_eq_true, Int.not_lt, Int.not_le] at hbr)))
local macro_rules | `(tactic| walk_at "side") => `(tactic| first
  | exact ⟨by decide, by decide, by decide⟩
  | exact .inl ⟨by decide, by decide⟩
  | exact .inr ⟨by decide, by decide⟩
  | exact XR.divw (by first | decide | omega) (by first | decide | omega)
  | (show (_ : Int) = _; first | rfl | omega)
  | (show (0 : Int) < _; first | decide | assumption | omega)
  | exact .inl ⟨by omega, by omega⟩
  | exact .inr ⟨by omega, by omega⟩
  | exact .inl (XR.cmul_mod (by decide))
  | exact XR.log_lt (by omega) (by omega)
  | decide
  | (rw [sizeLine_eq]; simp; done)
  | (show 2 ≤ sizeLine; decide) | (show 3 ≤ sizeLine; decide) | (show 4 ≤ sizeLine; decide) | (show 5 ≤ sizeLine; decide) | (show 6 ≤ sizeLine; decide) | (show 7 ≤ sizeLine; decide) | (show 1 ≤ sizeLine; decide) | (show 8 ≤ sizeLine; decide) | (show 0 ≤ sizeLine; decide))
local macro_rules | `(tactic| walk_at "rd1") => `(tactic| first
  | refine ⟨_, rfl, ?_⟩
  | refine ⟨_, _, rfl, rfl, ?_⟩
  | refine ⟨_, _, _, _, rfl, rfl, (by walk_at "sq"), rfl, ?_⟩
  | refine ⟨_, _, _, _, rfl, rfl, (by walk_at "hp"), (by walk_at "hp"), (by walk_at "side"), ?_⟩
  | refine ⟨_, _, rfl, .inl (by walk_at "sq"), ?_⟩
  | refine ⟨_, _, rfl, .inl ⟨(by walk_at "sq"), ?_⟩⟩
  | refine ⟨_, _, rfl, .inr (by walk_at "sq"), ?_⟩
  | refine ⟨_, _, _, _, _, rfl, (by walk_at "hp"), (by walk_at "cls"), (by walk_at "noat"), rfl, ?_⟩
  | refine ⟨_, _, _, _, rfl, rfl, (by walk_at "sq"), (by first | assumption | exact XR.at0 | exact XR.at1), ?_⟩
  | refine ⟨rfl, ?_⟩
  | refine And.intro (by walk_at "side") ?_
  | refine .inl ⟨_, rfl, ?_⟩
  | refine And.intro ⟨_, (by walk_at "sq")⟩ ?_
  | refine ⟨_, _, rfl, (by walk_at "sq"), ?_⟩
  | refine ⟨_, _, rfl, ?_⟩
  | refine .inr ⟨_, rfl, (by walk_at "side"), ?_⟩
  | refine ⟨_, _, _, rfl, (by walk_at "hp"), ?_⟩
  | refine iteT ?_
  | refine iteF ?_)
local macro_rules | `(tactic| walk_at "rd") => `(tactic| repeat (walk_at "rd1"))
local macro_rules | `(tactic| walk_at "nn") => `(tactic| (simp only [Int.reduceToNat, Int.reducePow, Int.reduceMul, Int.reduceAdd, Int.reduceSub, Int.reduceNeg]))
local macro_rules | `(tactic| walk_at "dr") => `(tactic| repeat (first | refine And.intro (by first | assumption | walk_at "pre") ?_ | refine And.intro (by first | decide | omega) ?_))
local macro_rules | `(tactic| walk_at "cls") => `(tactic| first | exact T_cl_Residue (by assumption))
local macro_rules | `(tactic| walk_at "noat") => `(tactic| first | exact Txt.no_Residue_place (by assumption) | exact Txt.no_Residue_length (by assumption))
local macro_rules | `(tactic| walk_at "pre") => `(tactic| first | assumption | exact BoxAt.new (by walk_at "pre") (by assumption) | exact BoxAt.same (by walk_at "pre") (by assumption))
section
variable {P : Program} {w : World} {K : PySem.W.Frag} {mg : Str → Option Value} {base : Heap} {D : Ad}
inductive Told (K : PySem.W.Frag) (D : Ad) (ss : List (Int × Int)) (H : Hp) (t : Addr) : Prop
  | dis (i : Nat) (p : Int × Int) (c : Int) (h1 : ss[i]? = some p) (h2 : Com (ss.take i) c) (h3 : ¬ gI (lcs (ss.take i) 1) p.2 ∣ p.1 - c) (h4 : SqT K H t [.non, .bl true, .int (gI (lcs (ss.take i) 1) p.2)])
  | met (r : Addr) (c : Int) (h1 : SqT K H t [.ref r, .bl true, .int 0]) (h2 : ResAt D H r c (lcs ss 1)) (h3 : 0 ≤ c) (h4 : c < lcs ss 1) (h5 : Com ss c)
def spRow (K : PySem.W.Frag) (D : Ad) : Sp := fun vs H Q _ => ∃ (l : Addr) (rs : RS), vs = [.ref l] ∧ SqL K H l rs.vs ∧ rs.length ≤ 4 ∧ Rs D H rs ∧ (∀ i, lcs (rs.ss.take i) 1 < 2 ^ 62) ∧ ∀ t H', Same H H' → Told K D rs.ss H' t → Q (.ref t) H'
theorem sc__law_row : FnScope ["_law_ones", "e"] ["_law_ones"] (defScope s__law_row) := ⟨rfl, rfl, rfl, by decide +kernel, rfl, by decide +kernel, by decide +kernel⟩
theorem ok__law_row (T : Txt K mg D) : FnOk P w K mg base CX0 11 D.a__law_row D.d__law_row ["_law_ones"] (spRow K D) := by
  have G__law_joined := ok__law_joined (P := P) (w := w) (base := base) T
  refine T.F__law_row.ok sc__law_row (fun vs H Q E h => ?_) (fun cdv A outer s H vs Q E hr h => ?_)
  · obtain ⟨l, rs, rfl, _⟩ := h
    rfl
  · obtain ⟨l, rs, rfl, hl, h4, hR, hL, k⟩ := h
    refine ⟨_, (pss_one (ps_try_as (i := 1) (Wout := fun _ _ _ _ => False) rfl rfl sc__law_row.nd rfl rfl ⟨rfl, by decide, Or.inl T.g_ImpossibleError⟩ takes0 (fun W pn xe tk _ => (pss_one (ps_ret (pe_tup (pa_cons (pe_callS G__law_joined (hr.mono (by decide)) (by rfl) T.g__law_joined T.F__law_joined.kp T.b__law_joined (fun σ => passAt tk σ) (pa_cons (pv 0) pa_nil)) (pa_cons pe_bl (pa_cons pe_int pa_nil))))))) (fun a oe cls d pn hz hf => XR.cong_ts (by exact (pss_cons (ps_if (PW.pt (pw_or (pt_not (pt_val (pe_callB (id := "isinstance") (XR.call_isAs hz hf) (by rfl) T.n_isinstance (by decide +kernel) (pa_cons (pv 1) (pa_cons (pe_glob (v := .ref D.c_Disjoint) (by rfl) T.g_Disjoint rfl) pa_nil))))) (pw_or1 (pt_not (pt_val (pe_callB (id := "isinstance") (XR.call_isAs hz hf) (by rfl) T.n_isinstance (by decide +kernel) (pa_cons (pv 1) (pa_cons (pe_glob (v := .ref D.c_ArchiveError) (by rfl) T.g_ArchiveError rfl) pa_nil))))))))
      (pss_one (ps_ret (pe_tup (pa_cons pe_non (pa_cons pe_bl (pa_cons pe_int pa_nil))))))
      pss_nil)
      (pss_one (ps_ret (pe_tup (pa_cons pe_non (pa_cons (pe_not (pe_callB (id := "isinstance") (XR.call_isATs hz hf) (by rfl) T.n_isinstance (by decide +kernel) (pa_cons (pv 1) (pa_cons (pe_tup (pa_cons (pe_glob (v := .ref D.c_UnknownError) (by rfl) T.g_UnknownError rfl) (pa_cons (pe_glob (v := .ref D.c_TextError) (by rfl) T.g_TextError rfl) (pa_cons (pe_glob (v := .ref D.c_OutOfRange) (by rfl) T.g_OutOfRange rfl) pa_nil)))) pa_nil)))) (pa_cons (XR.pe_pfs hz hf (pv 1)) pa_nil)))))))) (by rfl)))), ?_⟩
    walk_at "rd"
    trace_state
    refine ⟨h4, hR, hL, fun i q c h1 h2 h3 => ?_, fun r H1 c x1 nr s1 c0 c1 hc => ?_⟩
    · intro d H1 hd x1
      refine ⟨true, T.m_di, fun _ ea hea => ?_, fun h => by cases h⟩
      walk_at "rd"
      refine .inl ⟨_, d, _, _, _, true, rfl, rfl, hd, T_as_Disjoint T, rfl, .own _, T.z_D, ?_⟩
      walk_at "rd"
      refine .inl ⟨_, d, _, _, _, true, rfl, rfl, hd, T_as_Disjoint T, rfl, .own _, T.z_A, ?_⟩
      walk_at "rd"
      intro tp htp
      walk_at "rd"
      refine .inl ⟨_, d, tp, _, _, _, false, rfl, rfl, by walk_at "hp", T_as_Disjoint T, rfl, upd_same, .cons (.own _) (.cons (.own _) (.cons (.own _) .nil)), XR.kitAny_cons T.z_U (XR.kitAny_cons T.z_T (XR.kitAny_cons T.z_O (by rfl))), ?_⟩
      walk_at "rd"
      refine ⟨_, d, _, _, rfl, rfl, rfl, by walk_at "hp", T_xf_Disjoint T, T.e_Disjoint_divisor, rfl, ?_⟩
      walk_at "rd"
      intro t ht
      exact k t _ (Same.new (Same.new x1 htp) ht) (.dis i q c h1 h2 h3 (SqT.of upd_same))
    · walk_at "rd"
      intro t ht
      exact k t _ (Same.new x1 ht) (.met r c (SqT.of upd_same) (s1.same (Same.add ht)) c0 c1 hc)
end
end Toy
set_option Elab.async false
set_option linter.all false
set_option maxRecDepth 100000
set_option maxHeartbeats 4000000
namespace Toy
open PySem L2 XR
local macro_rules | `(tactic| walk_at "ne") => `(tactic| first | assumption | (apply Ne.symm; assumption) | exact XR.ne_fresh (by assumption) (by walk_at "hp") | exact Ne.symm (XR.ne_fresh (by assumption) (by walk_at "hp")))
local macro_rules | `(tactic| walk_at "hp") => `(tactic| first | assumption | exact upd_same | (refine Eq.trans (upd_ne ?_) ?_; (walk_at "ne"); walk_at "hp"))
local macro_rules | `(tactic| walk_at "sq") => `(tactic| first | walk_at "hp" | exact SqL.of (by walk_at "hp") | exact SqT.of (by walk_at "hp") | exact XR.SqT.same (by assumption) (by assumption) | exact XR.SqL.same (by assumption) (by assumption))
local macro_rules | `(tactic| walk_at "br") => `(tactic| (refine ite2 ?_ ?_ <;> intro hbr <;> (try simp only [decide_eq_true_eq, decide_eq_false_iff_not, V.int.injEq, V.bl.injEq, V.str.injEq, Bool.not_eq_true, Bool.not_eq_eq_eq_not, Bool.not_true, Bool.not_false, ne_eq, Int.reduceToNat, Int.reducePow, Int.reduceMul, Int.reduceAdd, Int.reduceSub, reduceCtorEq, not_true_eq_false, not_false_eq_true, Int.not_lt, Int.not_le] at hbr)))
local macro_rules | `(tactic| walk_at "side") => `(tactic| first
  | exact ⟨by decide, by decide, by decide⟩
  | exact .inl ⟨by decide, by decide⟩
  | exact .inr ⟨by decide, by decide⟩
  | exact XR.divw (by first | decide | omega) (by first | decide | omega)
  | (show (_ : Int) = _; first | rfl | omega)
  | (show (0 : Int) < _; first | decide | assumption | omega)
  | exact .inl ⟨by omega, by omega⟩
  | exact .inr ⟨by omega, by omega⟩
  | exact .inl (XR.cmul_mod (by decide))
  | exact XR.log_lt (by omega) (by omega)
  | decide
  | (rw [sizeLine_eq]; simp; done)
  | (show 2 ≤ sizeLine; decide) | (show 3 ≤ sizeLine; decide) | (show 4 ≤ sizeLine; decide) | (show 5 ≤ sizeLine; decide) | (show 6 ≤ sizeLine; decide) | (show 7 ≤ sizeLine; decide) | (show 1 ≤ sizeLine; decide) | (show 8 ≤ sizeLine; decide) | (show 0 ≤ sizeLine; decide))
local macro_rules | `(tactic| walk_at "rd1") => `(tactic| first
  | refine ⟨_, rfl, ?_⟩
  | refine ⟨_, _, rfl, rfl, ?_⟩
  | refine ⟨_, _, _, _, rfl, rfl, (by walk_at "sq"), rfl, ?_⟩
  | refine ⟨_, _, _, _, rfl, rfl, (by walk_at "hp"), (by walk_at "hp"), (by walk_at "side"), ?_⟩
  | refine ⟨_, _, rfl, .inl (by walk_at "sq"), ?_⟩
  | refine ⟨_, _, rfl, .inl ⟨(by walk_at "sq"), ?_⟩⟩
  | refine ⟨_, _, rfl, .inr (by walk_at "sq"), ?_⟩
  | refine ⟨_, _, _, _, _, rfl, (by walk_at "hp"), (by walk_at "cls"), (by walk_at "noat"), rfl, ?_⟩
  | refine ⟨_, _, _, _, rfl, rfl, (by walk_at "sq"), (by first | assumption | exact XR.at0 | exact XR.at1), ?_⟩
  | refine ⟨rfl, ?_⟩
  | refine And.intro (by walk_at "side") ?_
  | refine .inl ⟨_, rfl, ?_⟩
  | refine And.intro ⟨_, (by walk_at "sq")⟩ ?_
  | refine ⟨_, _, rfl, (by walk_at "sq"), ?_⟩
  | refine ⟨_, _, rfl, ?_⟩
  | refine .inr ⟨_, rfl, (by walk_at "side"), ?_⟩
  | refine ⟨_, _, _, rfl, (by walk_at "hp"), ?_⟩
  | refine iteT ?_
  | refine iteF ?_)
local macro_rules | `(tactic| walk_at "rd") => `(tactic| repeat (walk_at "rd1"))
local macro_rules | `(tactic| walk_at "nn") => `(tactic| (simp only [Int.reduceToNat, Int.reducePow, Int.reduceMul, Int.reduceAdd, Int.reduceSub, Int.reduceNeg]))
local macro_rules | `(tactic| walk_at "dr") => `(tactic| repeat (first | refine And.intro (by first | assumption | walk_at "pre") ?_ | refine And.intro (by first | decide | omega) ?_))
local macro_rules | `(tactic| walk_at "cls") => `(tactic| first | exact T_cl_Residue (by assumption))
local macro_rules | `(tactic| walk_at "noat") => `(tactic| first | exact Txt.no_Residue_place (by assumption) | exact Txt.no_Residue_length (by assumption))
local macro_rules | `(tactic| walk_at "pre") => `(tactic| first | assumption | exact BoxAt.new (by walk_at "pre") (by assumption) | exact BoxAt.same (by walk_at "pre") (by assumption))
section
variable {P : Program} {w : World} {K : PySem.W.Frag} {mg : Str → Option Value} {base : Heap} {D : Ad}
theorem dvd_red {g a b n : Int} (h : g ∣ n) : g ∣ b - a % n ↔ g ∣ b - a := by
  have q := Int.emod_add_mul_ediv a n
  have e : b - a % n = (b - a) + n * (a / n) := by omega
  have hg : g ∣ n * (a / n) := Int.dvd_mul_of_dvd_left h
  rw [e]
  constructor
  · intro z
    have := Int.dvd_sub z hg
    rwa [show b - a + n * (a / n) - n * (a / n) = b - a by omega] at this
  · intro z
    exact Int.dvd_add z hg
theorem dvd_neg' {g a b : Int} (h : g ∣ a - b) : g ∣ b - a := by
  have := Int.dvd_neg.mpr h
  rwa [show -(a - b) = b - a by omega] at this
theorem uniq {L c d : Int} (c0 : 0 ≤ c) (c1 : c < L) (d0 : 0 ≤ d) (d1 : d < L) (h : L ∣ c - d) : c = d := by
  obtain ⟨k, e⟩ := h
  rcases (show k ≤ -1 ∨ k = 0 ∨ 1 ≤ k by omega) with z | z | z
  · have := Int.mul_le_mul_of_nonneg_left z (show 0 ≤ L by omega)
    omega
  · subst z
    omega
  · have := Int.mul_le_mul_of_nonneg_left z (show 0 ≤ L by omega)
    omega
theorem both {n m c a b x : Int} (hn : 1 ≤ n) (hm : 1 ≤ m) (d1 : n ∣ c - a) (d2 : m ∣ c - b) : (x - c) % lcmI n m = 0 ↔ (x - a) % n = 0 ∧ (x - b) % m = 0 := by
  constructor
  · intro h
    have h := Int.dvd_of_emod_eq_zero h
    have h1 := Int.dvd_add (Int.dvd_trans lcmI_left h) d1
    have h2 := Int.dvd_add (Int.dvd_trans (lcmI_right hn hm) h) d2
    rw [show x - c + (c - a) = x - a by omega] at h1
    rw [show x - c + (c - b) = x - b by omega] at h2
    exact ⟨Int.emod_eq_zero_of_dvd h1, Int.emod_eq_zero_of_dvd h2⟩
  · rintro ⟨h1, h2⟩
    have h1 := Int.dvd_sub (Int.dvd_of_emod_eq_zero h1) d1
    have h2 := Int.dvd_sub (Int.dvd_of_emod_eq_zero h2) d2
    rw [show x - a - (c - a) = x - c by omega] at h1
    rw [show x - b - (c - b) = x - c by omega] at h2
    exact Int.emod_eq_zero_of_dvd (lcmI_dvd hn hm h1 h2)
theorem lcs_two {x y : Int × Int} (h : 1 ≤ x.2) : lcs [x, y] 1 = lcmI x.2 y.2 := by
  show lcmI (lcmI 1 x.2) y.2 = _
  rw [lcmI_one h]
theorem com_two {x y : Int × Int} {c : Int} (h1 : x.2 ∣ c - x.1) (h2 : y.2 ∣ c - y.1) : Com [x, y] c := fun q hq => by
  rcases List.mem_cons.mp hq with rfl | hq
  · exact h1
  · rw [List.mem_singleton.mp hq]
    exact h2
def spWalk (K : PySem.W.Frag) (D : Ad) : Sp := fun vs H Q _ => ∃ (p l : Addr) (bg c : Int) (x y : Int × Int) (G : Hp), vs = [.ref p, .ref l, .int bg] ∧ ResAt D H p c (lcmI x.2 y.2) ∧ x.2 ∣ c - x.1 ∧ y.2 ∣ c - y.1 ∧ Lst K G l [x, y] ∧ Same G H ∧ PoolOk [x, y] ∧ Yes H Q
theorem sc__law_walk : FnScope ["_law_residue", "_law_pool_here", "_law_begin", "_law_period", "_law_k", "_law_day", "_law_due"] ["_law_residue", "_law_pool_here", "_law_begin"] (defScope s__law_walk) := ⟨rfl, rfl, rfl, by decide +kernel, rfl, by decide +kernel, by decide +kernel⟩
theorem ok__law_walk (T : Txt K mg D) : FnOk P w K mg base CX0 5 D.a__law_walk D.d__law_walk ["_law_residue", "_law_pool_here", "_law_begin"] (spWalk K D) := by
  have G_Residue___contains__ := ok_Residue___contains__ (P := P) (w := w) (base := base) T
  have G__law_lcm := ok__law_lcm (P := P) (w := w) (base := base) T
  refine T.F__law_walk.ok sc__law_walk (fun vs H Q E h => ?_) (fun cdv A outer s H vs Q E hr h => ?_)
  · obtain ⟨p, l, bg, c, x, y, G, rfl, _⟩ := h
    rfl
  · obtain ⟨p, l, bg, c, x, y, G, rfl, ⟨dx, hp⟩, d1, d2, ⟨xs, hx, hd⟩, v, O, k⟩ := h
    refine ⟨_, (pss_cons (ps_set (i := 3) sc__law_walk.nd rfl (Or.inl rfl) (pe_call G__law_lcm (hr.mono (by decide)) (by rfl) T.g__law_lcm T.F__law_lcm.kp T.b__law_lcm .nil pass0 (pa_cons (pe_ix ix_tup (pe_ix ix_list (pv 1) pe_int (fun _ _ => rfl)) pe_int (fun _ _ => rfl)) (pa_cons (pe_ix ix_tup (pe_ix ix_list (pv 1) pe_int (fun _ _ => rfl)) pe_int (fun _ _ => rfl)) pa_nil))))
      (pss_cons (ps_if (pt_cmpR op_gt (pv 3) pe_int (nomark _))
      (pss_one (ps_ret pe_bl))
      pss_nil)
      (pss_cons (ps_for PassesOwn.never rfl (pi_range1 (by rfl) T.n_range (pa_cons (pv 3) pa_nil)) (pg_name (i := 4) sc__law_walk.nd rfl (Or.inl rfl))
      (pss_cons (ps_set (i := 5) sc__law_walk.nd rfl (Or.inl rfl) (pe_op op_add (pv 2) (pv 4)))
      (pss_cons (ps_set (i := 6) sc__law_walk.nd rfl (Or.inl rfl) (pe_and (pe_cmpR op_eq (pe_op op_mod (pe_callTy call_int1 (by rfl) T.n_int (by decide +kernel) (pa_cons (pe_op op_sub (pv 5) (pe_ix ix_tup (pe_ix ix_list (pv 1) pe_int (fun _ _ => rfl)) pe_int (fun _ _ => rfl))) pa_nil)) (pe_ix ix_tup (pe_ix ix_list (pv 1) pe_int (fun _ _ => rfl)) pe_int (fun _ _ => rfl))) pe_int (nomark _)) (pe_one (pe_cmpR op_eq (pe_op op_mod (pe_callTy call_int1 (by rfl) T.n_int (by decide +kernel) (pa_cons (pe_op op_sub (pv 5) (pe_ix ix_tup (pe_ix ix_list (pv 1) pe_int (fun _ _ => rfl)) pe_int (fun _ _ => rfl))) pa_nil)) (pe_ix ix_tup (pe_ix ix_list (pv 1) pe_int (fun _ _ => rfl)) pe_int (fun _ _ => rfl))) pe_int (nomark _)))))
      (pss_one (ps_if (pt_cmpR op_ne (pe_cmpR (XR.op_in_own (T_o_Residue___contains__ T) G_Residue___contains__ (hr.mono (by decide)) T.b_Residue___contains__ pass0) (pv 5) (pv 0) rfl) (pv 6) (nomark _))
      (pss_one (ps_ret pe_bl))
      pss_nil)))))
      (pss_one (ps_ret pe_bl))))), ?_⟩
    obtain ⟨p0, e0, s0, _⟩ := pairs_at (i := 0) hd rfl
    obtain ⟨p1, e1, s1, _⟩ := pairs_at (i := 1) hd rfl
    have hx' := SqL.same hx v
    have s0' := SqT.same s0 v
    have s1' := SqT.same s1 v
    have a0 : atI xs 0 = some (.ref p0) := atI_nat (j := 0) e0
    have a1 : atI xs 1 = some (.ref p1) := atI_nat (j := 1) e1
    obtain ⟨x1, x2⟩ := O.sz (c := x) (by simp)
    obtain ⟨y1, y2⟩ := O.sz (c := y) (by simp)
    have L := O.lcs 2
    rw [List.take_of_length_le (by simp), lcs_two x1] at L
    walk_at "rd"
    refine ⟨by omega, by omega, ?_⟩
    walk_at "rd"
    walk_at "br"
    · walk_at "rd"
      exact k.at rfl (Same.refl _)
    · walk_at "rd"
      refine ⟨by omega, by omega, ?_⟩
      refine for_range (fun i σ H' => Stop (∃ (v1 v2 v3 : Option V), σ = [some (.ref p), some (.ref l), some (.int bg), some (.int (lcmI x.2 y.2)), v1, v2, v3] ∧ H' = H)) (.go ⟨none, none, none, rfl, rfl⟩) ?_ ?_
      · intro i σ H2 hi hm
        obtain ⟨v1, v2, v3, rfl, rfl⟩ := hm.out
        have bo := both (x := bg + (0 + (i : Int))) x1 y1 d1 d2
        walk_at "rd"
        by_cases ha : (bg + (0 + (i : Int)) - x.1) % x.2 = 0
        · refine ifT (by simpa using ha) ?_
          walk_at "rd"
          refine ⟨p, _, c, _, rfl, ⟨dx, hp⟩, by omega, by omega, ?_⟩
          walk_at "rd"
          refine ifF ?_ ?_
          · have ha' : (bg + (i : Int) - x.1) % x.2 = 0 := by simpa using ha
            simp only [Int.zero_add] at bo
            simp
            exact ⟨fun e => (bo.mp e).2, fun e => bo.mpr ⟨ha', e⟩⟩
          · exact .go ⟨_, _, _, rfl, rfl⟩
        · refine ifF (by simpa using ha) ?_
          walk_at "rd"
          refine ⟨p, _, c, _, rfl, ⟨dx, hp⟩, by omega, by omega, ?_⟩
          walk_at "rd"
          refine ifF ?_ ?_
          · have ha' : ¬(bg + (i : Int) - x.1) % x.2 = 0 := by simpa using ha
            simp only [Int.zero_add] at bo
            simp
            exact fun e => ha' (bo.mp e).1
          · exact .go ⟨_, _, _, rfl, rfl⟩
      · intro σ H2 hm
        obtain ⟨v1, v2, v3, rfl, rfl⟩ := hm.out
        walk_at "rd"
        exact k.at rfl (Same.refl _)
def spPair (K : PySem.W.Frag) : Sp := fun vs H Q _ => ∃ (l : Addr) (bg : Int) (x y : Int × Int) (G : Hp), vs = [.ref l, .int bg] ∧ Lst K G l [x, y] ∧ Same G H ∧ PoolOk [x, y] ∧ Yes H Q
theorem sc__law_pair : FnScope ["_law_pool_here", "_law_begin", "_law_first", "_law_second", "_law_told", "_law_back", "_law_divisor", "_law_own"] ["_law_pool_here", "_law_begin"] (defScope s__law_pair) := ⟨rfl, rfl, rfl, by decide +kernel, rfl, by decide +kernel, by decide +kernel⟩
theorem ok__law_pair (T : Txt K mg D) : FnOk P w K mg base CX0 9 D.a__law_pair D.d__law_pair ["_law_pool_here", "_law_begin"] (spPair K) := by
  have G__law_is := ok__law_is (P := P) (w := w) (base := base) T
  have G_Residue___eq__ := ok_Residue___eq__ (P := P) (w := w) (base := base) T
  have G__law_meet := ok__law_meet (P := P) (w := w) (base := base) T
  have G__law_apart := ok__law_apart (P := P) (w := w) (base := base) T
  have G__law_is_disjoint := ok__law_is_disjoint (P := P) (w := w) (base := base) T
  have G__law_gcd := ok__law_gcd (P := P) (w := w) (base := base) T
  have G__law_holds := ok__law_holds (P := P) (w := w) (base := base) T
  have G__law_walk := ok__law_walk (P := P) (w := w) (base := base) T
  have G_Residue_init := ok_Residue_init (P := P) (w := w) (base := base) T
  refine T.F__law_pair.ok sc__law_pair (fun vs H Q E h => ?_) (fun cdv A outer s H vs Q E hr h => ?_)
  · obtain ⟨l, bg, x, y, G, rfl, _⟩ := h
    rfl
  · obtain ⟨l, bg, x, y, G, rfl, ⟨xs, hx, hd⟩, v, O, k⟩ := h
    refine ⟨_, (pss_cons (ps_set (i := 2) sc__law_pair.nd rfl (Or.inl rfl) (pe_make (T_mk_Residue T) G_Residue_init (hr.mono (by decide)) (by rfl) T.g_Residue T.b_Residue_init .nil passL (pa_cons (pe_ix ix_tup (pe_ix ix_list (pv 0) pe_int (fun _ _ => rfl)) pe_int (fun _ _ => rfl)) (pa_cons (pe_ix ix_tup (pe_ix ix_list (pv 0) pe_int (fun _ _ => rfl)) pe_int (fun _ _ => rfl)) pa_nil))))
      (pss_cons (ps_set (i := 3) sc__law_pair.nd rfl (Or.inl rfl) (pe_make (T_mk_Residue T) G_Residue_init (hr.mono (by decide)) (by rfl) T.g_Residue T.b_Residue_init .nil passL (pa_cons (pe_ix ix_tup (pe_ix ix_list (pv 0) pe_int (fun _ _ => rfl)) pe_int (fun _ _ => rfl)) (pa_cons (pe_ix ix_tup (pe_ix ix_list (pv 0) pe_int (fun _ _ => rfl)) pe_int (fun _ _ => rfl)) pa_nil))))
      (pss_cons (ps_set (i := 4) sc__law_pair.nd rfl (Or.inl rfl) (pe_call G__law_meet (hr.mono (by decide)) (by rfl) T.g__law_meet T.F__law_meet.kp T.b__law_meet .nil pass0 (pa_cons (pv 2) (pa_cons (pv 3) pa_nil))))
      (pss_cons (ps_set (i := 5) sc__law_pair.nd rfl (Or.inl rfl) (pe_call G__law_meet (hr.mono (by decide)) (by rfl) T.g__law_meet T.F__law_meet.kp T.b__law_meet .nil pass0 (pa_cons (pv 3) (pa_cons (pv 2) pa_nil))))
      (Evl.pss_cut (ps_if (pt_val (pe_call G__law_apart (hr.mono (by decide)) (by rfl) T.g__law_apart T.F__law_apart.kp T.b__law_apart .nil pass0 (pa_cons (pe_ix ix_list (pv 0) pe_int (fun _ _ => rfl)) (pa_cons (pe_ix ix_list (pv 0) pe_int (fun _ _ => rfl)) pa_nil))))
      (pss_cons (ps_set (i := 6) sc__law_pair.nd rfl (Or.inl rfl) (pe_call G__law_gcd (hr.mono (by decide)) (by rfl) T.g__law_gcd T.F__law_gcd.kp T.b__law_gcd .nil pass0 (pa_cons (pe_ix ix_tup (pe_ix ix_list (pv 0) pe_int (fun _ _ => rfl)) pe_int (fun _ _ => rfl)) (pa_cons (pe_ix ix_tup (pe_ix ix_list (pv 0) pe_int (fun _ _ => rfl)) pe_int (fun _ _ => rfl)) pa_nil))))
      (pss_one (ps_if (PW.pt (pw_or (pt_not (pt_val (pe_call G__law_is_disjoint (hr.mono (by decide)) (by rfl) T.g__law_is_disjoint T.F__law_is_disjoint.kp T.b__law_is_disjoint .nil pass0 (pa_cons (pv 4) (pa_cons (pv 6) pa_nil))))) (pw_or1 (pt_not (pt_val (pe_call G__law_is_disjoint (hr.mono (by decide)) (by rfl) T.g__law_is_disjoint T.F__law_is_disjoint.kp T.b__law_is_disjoint .nil pass0 (pa_cons (pv 5) (pa_cons (pv 6) pa_nil))))))))
      (pss_one (ps_ret pe_bl))
      pss_nil)))
      (pss_cons (ps_if (PW.pt (pw_or (pt_not (pt_val (pe_call G__law_holds (hr.mono (by decide)) (by rfl) T.g__law_holds T.F__law_holds.kp T.b__law_holds .nil pass0 (pa_cons (pe_ix ix_tup (pv 4) pe_int (fun _ _ => rfl)) (pa_cons (pv 0) pa_nil))))) (pw_or1 (pt_not (pt_val (pe_call G__law_walk (hr.mono (by decide)) (by rfl) T.g__law_walk T.F__law_walk.kp T.b__law_walk .nil pass0 (pa_cons (pe_ix ix_tup (pv 4) pe_int (fun _ _ => rfl)) (pa_cons (pv 0) (pa_cons (pv 1) pa_nil)))))))))
      (pss_one (ps_ret pe_bl))
      pss_nil)
      (pss_one (ps_if (PW.pt (pw_or (pt_not (pt_val (pe_call G__law_holds (hr.mono (by decide)) (by rfl) T.g__law_holds T.F__law_holds.kp T.b__law_holds .nil pass0 (pa_cons (pe_ix ix_tup (pv 5) pe_int (fun _ _ => rfl)) (pa_cons (pv 0) pa_nil))))) (pw_or1 (pt_not (pt_cmpR (XR.op_eq_own (T_o_Residue___eq__ T) G_Residue___eq__ (hr.mono (by decide)) T.b_Residue___eq__ pass0) (pe_ix ix_tup (pv 4) pe_int (fun _ _ => rfl)) (pe_ix ix_tup (pv 5) pe_int (fun _ _ => rfl)) (nomark _))))))
      (pss_one (ps_ret pe_bl))
      pss_nil))))
      (pss_cons (ps_set (i := 7) sc__law_pair.nd rfl (Or.inl rfl) (pe_call G__law_meet (hr.mono (by decide)) (by rfl) T.g__law_meet T.F__law_meet.kp T.b__law_meet .nil pass0 (pa_cons (pv 2) (pa_cons (pv 2) pa_nil))))
      (pss_cons (ps_if (PW.pt (pw_or (pt_not (pt_val (pe_callB call_isi (by rfl) T.n_isinstance (by decide +kernel) (pa_cons (pe_ix ix_tup (pv 7) pe_int (fun _ _ => rfl)) (pa_cons (pe_glob (v := .ref D.c_Residue) (by rfl) T.g_Residue rfl) pa_nil))))) (pw_or1 (pt_not (pt_cmpR (XR.op_eq_own (T_o_Residue___eq__ T) G_Residue___eq__ (hr.mono (by decide)) T.b_Residue___eq__ pass0) (pe_ix ix_tup (pv 7) pe_int (fun _ _ => rfl)) (pv 2) (nomark _))))))
      (pss_one (ps_ret pe_bl))
      pss_nil)
      (pss_one (ps_ret (pe_and (pe_call G__law_is (hr.mono (by decide)) (by rfl) T.g__law_is T.F__law_is.kp T.b__law_is .nil pass0 (pa_cons (pv 2) (pa_cons (pe_ix ix_tup (pe_ix ix_list (pv 0) pe_int (fun _ _ => rfl)) pe_int (fun _ _ => rfl)) (pa_cons (pe_ix ix_tup (pe_ix ix_list (pv 0) pe_int (fun _ _ => rfl)) pe_int (fun _ _ => rfl)) pa_nil)))) (pe_one (pe_call G__law_is (hr.mono (by decide)) (by rfl) T.g__law_is T.F__law_is.kp T.b__law_is .nil pass0 (pa_cons (pv 3) (pa_cons (pe_ix ix_tup (pe_ix ix_list (pv 0) pe_int (fun _ _ => rfl)) pe_int (fun _ _ => rfl)) (pa_cons (pe_ix ix_tup (pe_ix ix_list (pv 0) pe_int (fun _ _ => rfl)) pe_int (fun _ _ => rfl)) pa_nil))))))))))))))), ?_⟩
    obtain ⟨p0, e0, s0, _⟩ := pairs_at (i := 0) hd rfl
    obtain ⟨p1, e1, s1, _⟩ := pairs_at (i := 1) hd rfl
    have hx' := SqL.same hx v
    have s0' := SqT.same s0 v
    have s1' := SqT.same s1 v
    have a0 : atI xs 0 = some (.ref p0) := atI_nat (j := 0) e0
    have a1 : atI xs 1 = some (.ref p1) := atI_nat (j := 1) e1
    obtain ⟨n1, n2⟩ := O.sz (c := x) (by simp)
    obtain ⟨m1, m2⟩ := O.sz (c := y) (by simp)
    have L := O.lcs 2
    rw [List.take_of_length_le (by simp), lcs_two n1] at L
    walk_at "rd"
    intro r1 dr nr nd ne
    refine mk2 nr nd ne (by omega) (fun h => by omega) fun _ H1 h1 S1 => ⟨rfl, ?_⟩
    have hx1 := SqL.same hx' h1
    have s01 := SqT.same s0' h1
    have s11 := SqT.same s1' h1
    walk_at "rd"
    intro r2 dr2 nr2 nd2 ne2
    refine mk2 nr2 nd2 ne2 (by omega) (fun h => by omega) fun _ H2 h2 S2 => ⟨rfl, ?_⟩
    have S12 := S1.same h2
    have ha : 0 ≤ x.1 % x.2 ∧ x.1 % x.2 < x.2 := ⟨Int.emod_nonneg _ (by omega), Int.emod_lt_of_pos _ (by omega)⟩
    have hb : 0 ≤ y.1 % y.2 ∧ y.1 % y.2 < y.2 := ⟨Int.emod_nonneg _ (by omega), Int.emod_lt_of_pos _ (by omega)⟩
    walk_at "rd"
    refine ⟨r1, r2, _, _, _, _, rfl, S12, S2, n1, m1, by omega, ha, hb, fun t1 H3 h3 o1 => ?_⟩
    walk_at "rd"
    refine ⟨r2, r1, _, _, _, _, rfl, S2.same h3, S12.same h3, m1, n1, by rw [lcmI_comm m1 n1]; omega, hb, ha, fun t2 H4 h4 o2 => ?_⟩
    have h14 := (h2.trans h3).trans h4
    have hx4 := SqL.same hx1 h14
    have s04 := SqT.same s01 h14
    have s14 := SqT.same s11 h14
    have v4 := (v.trans h1).trans h14
    have S24 := (S2.same h3).same h4
    have S14 := S1.same h14
    have ee : gI x.2 y.2 ∣ y.1 % y.2 - x.1 % x.2 ↔ gI x.2 y.2 ∣ x.1 - y.1 := by
      rw [dvd_red (gI_left (by omega))]
      constructor
      · intro z
        have := dvd_neg' z
        rwa [dvd_red (gI_right (by omega))] at this
      · intro z
        refine dvd_neg' ?_
        rwa [dvd_red (gI_right (by omega))]
    have e2 : gI y.2 x.2 ∣ x.1 % x.2 - y.1 % y.2 ↔ gI x.2 y.2 ∣ x.1 - y.1 := by
      rw [gI_comm, dvd_red (gI_right (by omega))]
      constructor
      · intro z
        have := dvd_neg' z
        rw [dvd_red (gI_left (by omega))] at this
        exact dvd_neg' this
      · intro z
        refine dvd_neg' ?_
        rw [dvd_red (gI_left (by omega))]
        exact dvd_neg' z
    walk_at "rd"
    refine ⟨fun σ' H' => Stop (∃ (v : Option V), σ' = [some (.ref l), some (.int bg), some (.ref r1), some (.ref r2), some (.ref t1), some (.ref t2), v, none] ∧ Same H4 H'), ?_, fun σ5 H5 hm => ?_⟩
    · walk_at "rd"
      refine ⟨p0, p1, x, y, rfl, s04, s14, n1, m1, ?_⟩
      walk_at "rd"
      by_cases hg : gI x.2 y.2 ∣ x.1 - y.1
      · refine ifF (by simp [hg]) ?_
        cases o1 with
        | dis h => exact absurd (ee.mpr hg) h
        | met q1 c1 _ t1s R1 c10 c11 d1 d1' =>
        cases o2 with
        | dis h => exact absurd (e2.mpr hg) h
        | met q2 c2 _ t2s R2 c20 c21 d2 d2' =>
        have t1s4 := SqT.same t1s h4
        have R14 := R1.same h4
        rw [dvd_red (Int.dvd_refl _)] at d1 d1' d2 d2'
        have k1 := com_two d1 d1'
        have k2 := com_two d2' d2
        rw [lcmI_comm m1 n1] at R2 c21
        obtain ⟨dq1, hq1⟩ := id R14
        obtain ⟨dq2, hq2⟩ := id R2
        walk_at "rd"
        refine ⟨q1, l, c1, [x, y], G, rfl, by rw [lcs_two n1]; exact R14, c10, by rw [lcs_two n1]; exact c11, k1, ⟨xs, hx, hd⟩, v4, O, fun H6 h6 => ?_⟩
        have t1s6 := SqT.same t1s4 h6
        have t2s6 := SqT.same t2s h6
        have hx6 := SqL.same hx4 h6
        walk_at "rd"
        refine ⟨q1, l, bg, c1, x, y, G, rfl, R14.same h6, d1, d1', ⟨xs, hx, hd⟩, v4.trans h6, O, fun H7 h7 => ?_⟩
        have t1s7 := SqT.same t1s6 h7
        have t2s7 := SqT.same t2s6 h7
        walk_at "rd"
        refine ⟨q2, l, c2, [x, y], G, rfl, by rw [lcs_two n1]; exact (R2.same h6).same h7, c20, by rw [lcs_two n1]; exact c21, k2, ⟨xs, hx, hd⟩, (v4.trans h6).trans h7, O, fun H8 h8 => ?_⟩
        have t1s8 := SqT.same t1s7 h8
        have t2s8 := SqT.same t2s7 h8
        have h48 := (h6.trans h7).trans h8
        walk_at "rd"
        refine ⟨q1, q2, _, _, _, _, rfl, rfl, h48 _ _ hq1, h48 _ _ hq2, q1, q2, _, _, _, _, rfl, R14.same h48, R2.same h48, ?_⟩
        have eu : c1 = c2 := by
          refine uniq c10 c11 c20 c21 (lcmI_dvd n1 m1 ?_ ?_)
          · have := Int.dvd_sub d1 d2'
            rwa [show c1 - x.1 - (c2 - x.1) = c1 - c2 by omega] at this
          · have := Int.dvd_sub d1' d2
            rwa [show c1 - y.1 - (c2 - y.1) = c1 - c2 by omega] at this
        subst eu
        walk_at "rd"
        refine ifF (by simp) ?_
        exact .go ⟨_, rfl, h48⟩
      · refine ifT (by simp [hg]) ?_
        cases o1 with
        | met q1 c1 h => exact absurd (ee.mp h) hg
        | dis _ t1s =>
        cases o2 with
        | met q1 c1 h => exact absurd (e2.mp h) hg
        | dis _ t2s =>
        rw [gI_comm] at t2s
        have t1s4 := SqT.same t1s h4
        walk_at "rd"
        refine ⟨by omega, by omega, ?_⟩
        walk_at "rd"
        intro H6 h6
        have t2s6 := SqT.same t2s h6
        walk_at "rd"
        intro H7 h7
        walk_at "rd"
        exact .go ⟨_, rfl, h6.trans h7⟩
    · obtain ⟨v9, rfl, h5⟩ := hm.out
      have S15 := S14.same h5
      have g0 : lcmI x.2 x.2 = x.2 := by
        have g := gI_right (n := x.2) (m := x.2) (by omega)
        have := dvd_gI (n := x.2) (m := x.2) (k := x.2) (by omega) (by omega) (Int.dvd_refl _) (Int.dvd_refl _)
        have a := Int.le_of_dvd (by omega) g
        have b := Int.le_of_dvd (by have := gI_pos (m := x.2) n1; omega) this
        have e := lcmI_eq (n := x.2) (m := x.2) (by omega)
        rw [show gI x.2 x.2 = x.2 by omega] at e
        exact Int.eq_of_mul_eq_mul_right (by omega) e
      walk_at "rd"
      refine ⟨r1, r1, _, _, _, _, rfl, S15, S15, n1, n1, by omega, ha, ha, fun t3 H6 h6 o3 => ?_⟩
      cases o3 with
      | dis h => exact absurd (by rw [Int.sub_self]; exact Int.dvd_zero _) h
      | met q3 c3 _ t3s R3 c30 c31 d3 _ =>
      rw [g0] at R3 c31
      have eu : c3 = x.1 % x.2 := uniq c30 c31 ha.1 ha.2 d3
      subst eu
      obtain ⟨dq3, hq3⟩ := id R3
      have S16 := S15.same h6
      obtain ⟨dq1, hq1⟩ := id S16
      walk_at "rd"
      refine ⟨_, _, _, _, true, rfl, .own D.c_Residue, T_ty_Residue T hq3, T.z_Residue, ?_⟩
      walk_at "rd"
      refine ⟨q3, r1, _, _, _, _, rfl, rfl, hq3, hq1, q3, r1, _, _, _, _, rfl, R3, S16, ?_⟩
      walk_at "rd"
      refine ifF (by simp) ?_
      have h46 := h5.trans h6
      have hx6 := SqL.same hx4 h46
      have s06 := SqT.same s04 h46
      have s16 := SqT.same s14 h46
      have S26 := S24.same h46
      walk_at "rd"
      refine ⟨by omega, fun H7 h7 => ?_⟩
      have S27 := S26.same h7
      have hx7 := SqL.same hx6 h7
      have s07 := SqT.same s06 h7
      have s17 := SqT.same s16 h7
      walk_at "rd"
      refine ⟨by omega, fun H8 h8 => ?_⟩
      walk_at "rd"
      exact k _ (((((h1.trans h2).trans h3).trans h4).trans h46).trans (h7.trans h8))
end
end Toy
set_option Elab.async false
set_option linter.all false
set_option maxRecDepth 100000
set_option maxHeartbeats 4000000
namespace Toy
open PySem L2 XR
local macro_rules | `(tactic| walk_at "ne") => `(tactic| first | assumption | (apply Ne.symm; assumption) | exact XR.ne_fresh (by assumption) (by walk_at "hp") | exact Ne.symm (XR.ne_fresh (by assumption) (by walk_at "hp")))
local macro_rules | `(tactic| walk_at "hp") => `(tactic| first | assumption | exact upd_same | (refine Eq.trans (upd_ne ?_) ?_; (walk_at "ne"); walk_at "hp"))
local macro_rules | `(tactic| walk_at "sq") => `(tactic| first | walk_at "hp" | exact SqL.of (by walk_at "hp") | exact SqT.of (by walk_at "hp") | exact XR.SqT.same (by assumption) (by assumption) | exact XR.SqL.same (by assumption) (by assumption))
local macro_rules | `(tactic| walk_at "br") => `(tactic| (refine ite2 ?_ ?_ <;> intro hbr <;> (try simp only [decide_eq_true_eq, decide_eq_false_iff_not, V.int.injEq, V.bl.injEq, V.str.injEq, Bool.not_eq_true, Bool.not_eq_eq_eq_not, Bool.not_true, Bool.not_false, ne_eq, Int.reduceToNat, Int.reducePow, Int.reduceMul, Int.reduceAdd, Int.reduceSub, reduceCtorEq, not_true_eq_false, not_false_eq_true, Int.not_lt, Int.not_le] at hbr)))
local macro_rules | `(tactic| walk_at "side") => `(tactic| first
  | exact ⟨by decide, by decide, by decide⟩
  | exact .inl ⟨by decide, by decide⟩
  | exact .inr ⟨by decide, by decide⟩
  | exact XR.divw (by first | decide | omega) (by first | decide | omega)
  | (show (_ : Int) = _; first | rfl | omega)
  | (show (0 : Int) < _; first | decide | assumption | omega)
  | exact .inl ⟨by omega, by omega⟩
  | exact .inr ⟨by omega, by omega⟩
  | exact .inl (XR.cmul_mod (by decide))
  | exact XR.log_lt (by omega) (by omega)
  | decide
  | (rw [sizeLine_eq]; simp; done)
  | (show 2 ≤ sizeLine; decide) | (show 3 ≤ sizeLine; decide) | (show 4 ≤ sizeLine; decide) | (show 5 ≤ sizeLine; decide) | (show 6 ≤ sizeLine; decide) | (show 7 ≤ sizeLine; decide) | (show 1 ≤ sizeLine; decide) | (show 8 ≤ sizeLine; decide) | (show 0 ≤ sizeLine; decide))
local macro_rules | `(tactic| walk_at "rd1") => `(tactic| first
  | refine ⟨_, rfl, ?_⟩
  | refine ⟨_, _, rfl, rfl, ?_⟩
  | refine ⟨_, _, _, _, rfl, rfl, (by walk_at "sq"), rfl, ?_⟩
  | refine ⟨_, _, _, _, rfl, rfl, (by walk_at "hp"), (by walk_at "hp"), (by walk_at "side"), ?_⟩
  | refine ⟨_, _, rfl, .inl (by walk_at "sq"), ?_⟩
  | refine ⟨_, _, rfl, .inl ⟨(by walk_at "sq"), ?_⟩⟩
  | refine ⟨_, _, rfl, .inr (by walk_at "sq"), ?_⟩
  | refine ⟨_, _, _, _, _, rfl, (by walk_at "hp"), (by walk_at "cls"), (by walk_at "noat"), rfl, ?_⟩
  | refine ⟨_, _, _, _, rfl, rfl, (by walk_at "sq"), (by first | assumption | exact XR.at0 | exact XR.at1), ?_⟩
  | refine ⟨rfl, ?_⟩
  | refine And.intro (by walk_at "side") ?_
  | refine .inl ⟨_, rfl, ?_⟩
  | refine And.intro ⟨_, (by walk_at "sq")⟩ ?_
  | refine ⟨_, _, rfl, (by walk_at "sq"), ?_⟩
  | refine ⟨_, _, rfl, ?_⟩
  | refine .inr ⟨_, rfl, (by walk_at "side"), ?_⟩
  | refine ⟨_, _, _, rfl, (by walk_at "hp"), ?_⟩
  | refine iteT ?_
  | refine iteF ?_)
local macro_rules | `(tactic| walk_at "rd") => `(tactic| repeat (walk_at "rd1"))
local macro_rules | `(tactic| walk_at "nn") => `(tactic| (simp only [Int.reduceToNat, Int.reducePow, Int.reduceMul, Int.reduceAdd, Int.reduceSub, Int.reduceNeg]))
local macro_rules | `(tactic| walk_at "dr") => `(tactic| repeat (first | refine And.intro (by first | assumption | walk_at "pre") ?_ | refine And.intro (by first | decide | omega) ?_))
local macro_rules | `(tactic| walk_at "cls") => `(tactic| first | exact T_cl_Residue (by assumption))
local macro_rules | `(tactic| walk_at "noat") => `(tactic| first | exact Txt.no_Residue_place (by assumption) | exact Txt.no_Residue_length (by assumption))
local macro_rules | `(tactic| walk_at "pre") => `(tactic| first | assumption | exact BoxAt.new (by walk_at "pre") (by assumption) | exact BoxAt.same (by walk_at "pre") (by assumption))
section
variable {P : Program} {w : World} {K : PySem.W.Frag} {mg : Str → Option Value} {base : Heap} {D : Ad}
theorem ResAt.put {D : Ad} {H : Hp} {p l : Addr} {a n : Int} {xs : List V} {o : HO} (h : ResAt D H p a n) (e : H l = some (.lst xs)) : ResAt D (L2.upd H l o) p a n := by
  obtain ⟨dx, hp⟩ := h
  have ne : p ≠ l := fun z => by rw [z, e] at hp; cases hp
  exact ⟨dx, by rw [upd_ne ne]; exact hp⟩
theorem lcs_red : ∀ (ss : List (Int × Int)) (l : Int), lcs (ss.map fun c => (c.1 % c.2, c.2)) l = lcs ss l
  | [], _ => rfl
  | c :: r, l => lcs_red r _
theorem com_red {ss : List (Int × Int)} {c : Int} (h : Com (ss.map fun c => (c.1 % c.2, c.2)) c) : Com ss c := fun q hq => by
  have := h (q.1 % q.2, q.2) (List.mem_map.mpr ⟨q, hq, rfl⟩)
  exact (dvd_red (Int.dvd_refl _)).mp this
theorem Told.red {K : PySem.W.Frag} {D : Ad} {ss : List (Int × Int)} {H : Hp} {t : Addr} (O : PoolOk ss) (h : Told K D (ss.map fun c => (c.1 % c.2, c.2)) H t) : Told K D ss H t := by
  cases h with
  | dis i p c h1 h2 h3 h4 =>
    rw [List.getElem?_map] at h1
    obtain ⟨q, hq, rfl⟩ := Option.map_eq_some_iff.mp h1
    rw [← List.map_take] at h2 h3 h4
    rw [lcs_red] at h3 h4
    refine .dis i q c hq (com_red h2) (fun z => h3 ?_) h4
    have q1 := O.pos q (List.mem_of_getElem? hq)
    refine dvd_neg' ((dvd_red (gI_right (by show 0 ≤ q.2; omega))).mpr (dvd_neg' z))
  | met r c h1 h2 h3 h4 h5 =>
    rw [lcs_red] at h2 h4
    exact .met r c h1 h2 h3 h4 (com_red h5)
theorem apart_com {ss : List (Int × Int)} {c : Int} {p q : Int × Int} (hs : ∀ c ∈ ss, 1 ≤ c.2) (h : Com ss c) (hp : p ∈ ss) (hq : q ∈ ss) : gI p.2 q.2 ∣ p.1 - q.1 := by
  have p1 := hs p hp
  have q1 := hs q hq
  have a := Int.dvd_trans (gI_left (n := p.2) (m := q.2) (by omega)) (h p hp)
  have b := Int.dvd_trans (gI_right (n := p.2) (m := q.2) (by omega)) (h q hq)
  have := Int.dvd_sub b a
  rwa [show c - q.1 - (c - p.1) = p.1 - q.1 by omega] at this
def spChain (K : PySem.W.Frag) : Sp := fun vs H Q _ => ∃ (l : Addr) (ss : List (Int × Int)) (G : Hp), vs = [.ref l] ∧ Lst K G l ss ∧ Same G H ∧ PoolOk ss ∧ ss.length ≤ 4 ∧ Yes H Q
theorem sc__law_chain : FnScope ["_law_pool_here", "_law_ones", "_law_told", "_law_least", "_law_k", "_law_one", "_law_j"] ["_law_pool_here"] (defScope s__law_chain) := ⟨rfl, rfl, rfl, by decide +kernel, rfl, by decide +kernel, by decide +kernel⟩
theorem ok__law_chain (T : Txt K mg D) : FnOk P w K mg base CX0 13 D.a__law_chain D.d__law_chain ["_law_pool_here"] (spChain K) := by
  have G__law_is := ok__law_is (P := P) (w := w) (base := base) T
  have G__law_holds := ok__law_holds (P := P) (w := w) (base := base) T
  have G__law_lcm := ok__law_lcm (P := P) (w := w) (base := base) T
  have G__law_apart := ok__law_apart (P := P) (w := w) (base := base) T
  have G__law_is_disjoint := ok__law_is_disjoint (P := P) (w := w) (base := base) T
  have G__law_gcd := ok__law_gcd (P := P) (w := w) (base := base) T
  have G__law_row := ok__law_row (P := P) (w := w) (base := base) T
  have G_Residue_init := ok_Residue_init (P := P) (w := w) (base := base) T
  refine T.F__law_chain.ok sc__law_chain (fun vs H Q E h => ?_) (fun cdv A outer s H vs Q E hr h => ?_)
  · obtain ⟨l, ss, G, rfl, _⟩ := h
    rfl
  · obtain ⟨l, ss, G, rfl, ⟨xs, hx, hd⟩, v, O, h4, k⟩ := h
    refine ⟨_, (pss_cons (ps_setLc (i := 1) (own := [("_law_one", 5)]) (g := gName 5) (tt := tYes) (by rfl) sc__law_chain.nd rfl rfl (sw_true rfl rfl rfl (by decide +kernel)) (XR.pi_sq (pv 0)) (blkOk_by (own := [("_law_one", 5)]) (N := ["_law_pool_here", "_law_ones", "_law_told", "_law_least", "_law_k", "_law_one", "_law_j"]) (sc := defScope s__law_chain) (by decide +kernel)) (fun _ _ _ _ _ => (pg_name (i := 5) sc__law_chain.nd rfl (Or.inl rfl))) (fun _ _ _ _ _ => pts_nil) (fun _ _ _ _ _ => (pe_make (T_mk_Residue T) G_Residue_init (hr.mono (by decide)) (by rfl) T.g_Residue T.b_Residue_init .nil passL (pa_cons (pe_ix XR.ix_tupb (pv 5) pe_int (fun _ _ => rfl)) (pa_cons (pe_ix XR.ix_tupb (pv 5) pe_int (fun _ _ => rfl)) pa_nil)))))
      (pss_cons (ps_set (i := 2) sc__law_chain.nd rfl (Or.inl rfl) (pe_call G__law_row (hr.mono (by decide)) (by rfl) T.g__law_row T.F__law_row.kp T.b__law_row .nil pass0 (pa_cons (pe_callTy call_list_of (by rfl) T.n_list (by decide +kernel) (pa_cons (pv 1) pa_nil)) pa_nil)))
      (pss_cons (ps_set (i := 3) sc__law_chain.nd rfl (Or.inl rfl) pe_int)
      (pss_cons (ps_for PassesOwn.never rfl (pi_range1 (by rfl) T.n_range (pa_cons (pe_callB call_len_seq (by rfl) T.n_len (by decide +kernel) (pa_cons (pv 0) pa_nil)) pa_nil)) (pg_name (i := 4) sc__law_chain.nd rfl (Or.inr rfl))
      (pss_cons (ps_if (pt_val (pe_callB (cr_any rfl) (by rfl) T.n_any (by decide +kernel) (pa_cons (pe_lc (own := [("_law_j", 6)]) (g := gName 6) (tt := tYes) (by rfl) sc__law_chain.nd (pi_range1 (by rfl) T.n_range (pa_cons (pv 4) pa_nil)) (blkOk_by (own := [("_law_j", 6)]) (N := ["_law_pool_here", "_law_ones", "_law_told", "_law_least", "_law_k", "_law_one", "_law_j"]) (sc := defScope s__law_chain) (by decide +kernel)) (fun _ _ _ _ _ => (pg_name (i := 6) sc__law_chain.nd rfl (Or.inl rfl))) (fun _ _ _ _ _ => pts_nil) (fun _ _ _ _ _ => (pe_call G__law_apart (hr.mono (by decide)) (by rfl) T.g__law_apart T.F__law_apart.kp T.b__law_apart .nil pass0 (pa_cons (pe_ix XR.ix_listb (pv 0) (pv 6) (fun _ _ => rfl)) (pa_cons (pe_ix XR.ix_listb (pv 0) (pv 4) (fun _ _ => rfl)) pa_nil))))) pa_nil)))
      (pss_one (ps_ret (pe_call G__law_is_disjoint (hr.mono (by decide)) (by rfl) T.g__law_is_disjoint T.F__law_is_disjoint.kp T.b__law_is_disjoint .nil pass0 (pa_cons (pv 2) (pa_cons (pe_call G__law_gcd (hr.mono (by decide)) (by rfl) T.g__law_gcd T.F__law_gcd.kp T.b__law_gcd .nil pass0 (pa_cons (pv 3) (pa_cons (pe_ix ix_tup (pe_ix ix_list (pv 0) (pv 4) (fun _ _ => rfl)) pe_int (fun _ _ => rfl)) pa_nil))) pa_nil)))))
      pss_nil)
      (pss_one (ps_set (i := 3) sc__law_chain.nd rfl (Or.inl rfl) (pe_call G__law_lcm (hr.mono (by decide)) (by rfl) T.g__law_lcm T.F__law_lcm.kp T.b__law_lcm .nil pass0 (pa_cons (pv 3) (pa_cons (pe_ix ix_tup (pe_ix ix_list (pv 0) (pv 4) (fun _ _ => rfl)) pe_int (fun _ _ => rfl)) pa_nil)))))))
      (pss_cons (ps_if (pt_not (pt_val (pe_call G__law_holds (hr.mono (by decide)) (by rfl) T.g__law_holds T.F__law_holds.kp T.b__law_holds .nil pass0 (pa_cons (pe_ix ix_tup (pv 2) pe_int (fun _ _ => rfl)) (pa_cons (pv 0) pa_nil)))))
      (pss_one (ps_ret pe_bl))
      pss_nil)
      (pss_cons (ps_for PassesOwn.never rfl (pi_range1 (by rfl) T.n_range (pa_cons (pe_callB call_len_seq (by rfl) T.n_len (by decide +kernel) (pa_cons (pv 0) pa_nil)) pa_nil)) (pg_name (i := 4) sc__law_chain.nd rfl (Or.inr rfl))
      (pss_one (ps_if (pt_not (pt_val (pe_call G__law_is (hr.mono (by decide)) (by rfl) T.g__law_is T.F__law_is.kp T.b__law_is .nil pass0 (pa_cons (pe_ix ix_list (pv 1) (pv 4) (fun _ _ => rfl)) (pa_cons (pe_ix ix_tup (pe_ix ix_list (pv 0) (pv 4) (fun _ _ => rfl)) pe_int (fun _ _ => rfl)) (pa_cons (pe_ix ix_tup (pe_ix ix_list (pv 0) (pv 4) (fun _ _ => rfl)) pe_int (fun _ _ => rfl)) pa_nil))))))
      (pss_one (ps_ret pe_bl))
      pss_nil)))
      (pss_one (ps_ret pe_bl)))))))), ?_⟩
    have hlen := XR.DpAll.length hd
    rw [List.length_map] at hlen
    walk_at "rd"
    refine ⟨l, xs, G, rfl, .inl hx, v, fun J W l2 hl2 => ?_⟩
    refine lc_it W (fun i H' => Stop (∃ rs : RS, Same H H' ∧ rs.ss = (ss.take i).map (fun c => (c.1 % c.2, c.2)) ∧ Rs D H' rs ∧ H' l2 = some (.lst rs.vs))) (.go ⟨[], Same.add hl2, rfl, fun r h => absurd h (by simp), upd_same⟩) (fun i H' _ I => by obtain ⟨_, x, _⟩ := I.out; exact v.trans x) ?_ ?_
    · rintro i x H1 _ hi I ⟨rfl, hxi⟩
      obtain ⟨rs, x1, ers, R, el⟩ := I.out
      obtain ⟨c, t, hc, rfl, st, _⟩ := pairs_get hd hxi
      have st' := SqT.same st (v.trans x1)
      obtain ⟨c1, c2⟩ := O.sz (List.mem_of_getElem? hc)
      walk_at "rd"
      intro r dr nr nd ne
      refine mk2 nr nd ne (by omega) (fun h => by omega) fun _ H2 h2 S2 => ⟨rfl, ?_⟩
      have el2 := h2 _ _ el
      have hlr : rs.length = min i ss.length := by
        have := congrArg List.length ers
        simpa using this
      refine ⟨rs.vs, el2, by rw [List.length_map, sizeLine_eq]; omega, .go ⟨rs ++ [(r, (c.1 % c.2, c.2))], fun q o e => by rw [upd_ne (ne_of_none e hl2)]; exact h2 _ _ (x1 _ _ e), ?_, fun q hq => ?_, by rw [show RS.vs (rs ++ [(r, (c.1 % c.2, c.2))]) = rs.vs ++ [.ref r] from List.map_append]; exact upd_same⟩⟩
      · rw [XR.take_one hc, List.map_append, ← ers, RS.ss, List.map_append]
        rfl
      · rcases List.mem_append.mp hq with z | z
        · exact ⟨((R q z).1.same h2).put el2, (R q z).2⟩
        · rw [List.mem_singleton.mp z]
          exact ⟨S2.put el2, c1, Int.emod_nonneg _ (by omega), Int.emod_lt_of_pos _ (by omega)⟩
    · intro H1 I
      obtain ⟨rs, x1, ers, R, el⟩ := I.out
      rw [List.take_of_length_le (by omega)] at ers
      have hlr : rs.length = ss.length := by
        have := congrArg List.length ers
        simpa using this
      have hL : ∀ i, lcs (rs.ss.take i) 1 < 2 ^ 62 := fun i => by
        rw [ers, ← List.map_take, lcs_red]
        have := O.lcs i
        omega
      walk_at "rd"
      intro l3 hl3
      have R3 := R.same (Same.add (o := .lst rs.vs) hl3)
      refine ⟨l3, rs, rfl, SqL.of upd_same, by omega, R3, hL, fun t H3 h3 told => ?_⟩
      rw [ers] at told
      have told := told.red O
      have x3 : Same H1 H3 := (Same.add hl3).trans h3
      have v3 := (v.trans x1).trans x3
      have hx3 := SqL.same hx v3
      have el3 := x3 _ _ el
      have R3 := R.same x3
      have key : ∃ (B : Nat) (c : Int), Com (ss.take B) c ∧ ((B = ss.length ∧ ∃ r, SqT K H3 t [.ref r, .bl true, .int 0] ∧ ResAt D H3 r c (lcs ss 1) ∧ 0 ≤ c ∧ c < lcs ss 1) ∨ (∃ p, ss[B]? = some p ∧ ¬ (∀ q ∈ ss.take B, gI q.2 p.2 ∣ p.1 - q.1) ∧ SqT K H3 t [.non, .bl true, .int (gI (lcs (ss.take B) 1) p.2)])) := by
        cases told with
        | dis i p c h1 h2 h3 h4 => exact ⟨i, c, h2, .inr ⟨p, h1, fun z => h3 ((meet_iff (fun c hc => O.pos c (List.mem_of_mem_take hc)) (O.pos p (List.mem_of_getElem? h1)) h2).mpr z), h4⟩⟩
        | met r c h1 h2 h3 h4 h5 => exact ⟨ss.length, c, by rw [List.take_length]; exact h5, .inl ⟨rfl, r, h1, h2, h3, h4⟩⟩
      clear told
      obtain ⟨B, c, hB, alt⟩ := key
      have hBl : B ≤ ss.length := by
        rcases alt with ⟨e, _⟩ | ⟨p, hp, _⟩
        · omega
        · have := (List.getElem?_eq_some_iff.mp hp).1
          omega
      walk_at "rd"
      refine ⟨by omega, by omega, ?_⟩
      refine for_range (fun i σ H' => Stop (∃ (v4 : Option V), σ = [some (.ref l), some (.ref l2), some (.ref t), some (.int (lcs (ss.take i) 1)), v4, none, none] ∧ i ≤ B ∧ Same H3 H')) (.go ⟨none, rfl, Nat.zero_le _, Same.refl _⟩) ?_ ?_
      · intro i σ H4 hi hm
        obtain ⟨v4, rfl, iB, x4⟩ := hm.out
        have hi2 : i < ss.length := by omega
        obtain ⟨p, hp⟩ : ∃ p, ss[i]? = some p := ⟨ss[i], List.getElem?_eq_getElem hi2⟩
        obtain ⟨pa, ep, sp, _⟩ := pairs_at (i := i) hd hp
        have hx4 := SqL.same hx3 x4
        have sp4 := SqT.same sp (v3.trans x4)
        have ap : atI xs (0 + (i : Int)) = some (.ref pa) := by rw [Int.zero_add]; exact atI_nat (j := i) ep
        obtain ⟨p1, p2⟩ := O.sz (List.mem_of_getElem? hp)
        walk_at "rd"
        refine ⟨by omega, by omega, ?_⟩
        intro l4 hl4
        refine lc_range (fun j H' => Stop (H' l4 = some (.lst (((ss.take j).map fun q => decide (¬ gI q.2 p.2 ∣ q.1 - p.1)).map V.bl)) ∧ Same H4 H')) (.go ⟨upd_same, Same.add hl4⟩) ?_ ?_
        · intro j H5 hj hm
          obtain ⟨e5, x5⟩ := hm.out
          have hj2 : j < ss.length := by omega
          obtain ⟨q, hq⟩ : ∃ q, ss[j]? = some q := ⟨ss[j], List.getElem?_eq_getElem hj2⟩
          obtain ⟨qa, eq, sq, _⟩ := pairs_at (i := j) hd hq
          have hx5 := SqL.same hx4 x5
          have sq5 := SqT.same sq ((v3.trans x4).trans x5)
          have sp5 := SqT.same sp4 x5
          have aq : atI xs (0 + (j : Int)) = some (.ref qa) := by rw [Int.zero_add]; exact atI_nat (j := j) eq
          obtain ⟨q1, q2⟩ := O.sz (List.mem_of_getElem? hq)
          walk_at "rd"
          refine ⟨qa, pa, q, p, rfl, sq5, sp5, q1, p1, ?_⟩
          refine ⟨_, e5, by rw [List.length_map, List.length_map, List.length_take, sizeLine_eq]; omega, .go ⟨by rw [XR.take_one hq, List.map_append, List.map_append]; exact upd_same, fun q o e => by rw [upd_ne (ne_of_none e hl4)]; exact x5 _ _ e⟩⟩
        · intro H5 hm
          obtain ⟨e5, x5⟩ := hm.out
          have hx5 := SqL.same hx4 x5
          have sp5 := SqT.same sp4 x5
          have hLi := O.lcs i
          rw [show ((0 : Int) + (i : Int)).toNat = i by omega] at e5
          refine ⟨l4, _, rfl, SqL.of e5, ?_⟩
          rcases Nat.lt_or_ge i B with hiB | hiB
          · have mB : ∀ q j, j < B → ss[j]? = some q → q ∈ ss.take B := fun q j h e => List.mem_of_getElem? (i := j) (by rw [List.getElem?_take_of_lt h]; exact e)
            have any0 : (((ss.take i).map fun q => decide (¬ gI q.2 p.2 ∣ q.1 - p.1)).any id) = false := by
              rw [List.any_eq_false]
              intro z hz
              obtain ⟨q, hq, rfl⟩ := List.mem_map.mp hz
              obtain ⟨j, hj⟩ := List.mem_iff_getElem?.mp hq
              have hji : j < i := by
                have := (List.getElem?_eq_some_iff.mp hj).1
                rw [List.length_take] at this
                omega
              rw [List.getElem?_take_of_lt hji] at hj
              have := apart_com (fun c hc => O.pos c (List.mem_of_mem_take hc)) hB (mB q j (by omega) hj) (mB p i hiB hp)
              simp [this]
            walk_at "rd"
            refine ifF any0 ?_
            walk_at "rd"
            refine ⟨by omega, by omega, ?_⟩
            walk_at "rd"
            exact .go ⟨_, by rw [lcs_take ss 1 i p hp]; rfl, by omega, x4.trans x5⟩
          · have hiB : B = i := by omega
            subst hiB
            rcases alt with ⟨e, _⟩ | ⟨p', hp', nn, ht⟩
            · omega
            rw [hp] at hp'
            cases hp'
            have any1 : (((ss.take B).map fun q => decide (¬ gI q.2 p.2 ∣ q.1 - p.1)).any id) = true := by
              rcases Bool.eq_false_or_eq_true (((ss.take B).map fun q => decide (¬ gI q.2 p.2 ∣ q.1 - p.1)).any id) with z | z
              · exact z
              · rw [List.any_eq_false] at z
                refine absurd (fun q hq => ?_) nn
                have := z _ (List.mem_map.mpr ⟨q, hq, rfl⟩)
                simp at this
                exact dvd_neg' this
            have ht5 := SqT.same ht (x4.trans x5)
            walk_at "rd"
            refine ifT any1 ?_
            walk_at "rd"
            refine ⟨by omega, by omega, ?_⟩
            walk_at "rd"
            intro H6 x6
            exact k _ ((x1.trans x3).trans ((x4.trans x5).trans x6))
      · intro σ H4 hm
        obtain ⟨v4, rfl, iB, x4⟩ := hm.out
        rcases alt with ⟨hBe, r, ht, Rr, c0, c1⟩ | ⟨p, hp, _⟩
        · have ht4 := SqT.same ht x4
          have com : Com ss c := by rw [hBe, List.take_length] at hB; exact hB
          walk_at "rd"
          refine ⟨r, l, c, ss, G, rfl, Rr.same x4, c0, c1, com, ⟨xs, hx, hd⟩, v3.trans x4, O, fun H5 x5 => ?_⟩
          have x35 := x4.trans x5
          have hx5 := SqL.same hx3 x35
          walk_at "rd"
          refine ⟨by omega, by omega, ?_⟩
          refine for_range (fun i σ H' => Stop (∃ (w3 v4 : Option V), σ = [some (.ref l), some (.ref l2), some (.ref t), w3, v4, none, none] ∧ Same H5 H')) (.go ⟨_, _, rfl, Same.refl _⟩) ?_ ?_
          · intro i σ H6 hi hm
            obtain ⟨w3, v4, rfl, x6⟩ := hm.out
            have hi2 : i < ss.length := by omega
            obtain ⟨p, hp⟩ : ∃ p, ss[i]? = some p := ⟨ss[i], List.getElem?_eq_getElem hi2⟩
            obtain ⟨pa, ep, sp, _⟩ := pairs_at (i := i) hd hp
            have hx6 := SqL.same hx5 x6
            have sp6 := SqT.same sp ((v3.trans x35).trans x6)
            have ap : atI xs (0 + (i : Int)) = some (.ref pa) := by rw [Int.zero_add]; exact atI_nat (j := i) ep
            obtain ⟨p1, p2⟩ := O.sz (List.mem_of_getElem? hp)
            have hr : rs.ss[i]? = some (p.1 % p.2, p.2) := by rw [ers, List.getElem?_map, hp]; rfl
            rw [List.getElem?_map] at hr
            obtain ⟨q, hq, eq⟩ := Option.map_eq_some_iff.mp hr
            have ar : atI rs.vs (0 + (i : Int)) = some (.ref q.1) := by rw [Int.zero_add]; exact atI_nat (j := i) (by rw [List.getElem?_map, hq]; rfl)
            have Rq := (R3 q (List.mem_of_getElem? hq)).1.same (x35.trans x6)
            rw [eq] at Rq
            have el6 := SqL.of (K := K) ((x35.trans x6) _ _ el3)
            walk_at "rd"
            refine ⟨by omega, fun H7 x7 => ?_⟩
            walk_at "rd"
            exact .go ⟨_, _, rfl, x6.trans x7⟩
          · intro σ H6 hm
            obtain ⟨w3, v4, rfl, x6⟩ := hm.out
            walk_at "rd"
            exact k _ ((x1.trans x3).trans (x35.trans x6))
        · have := (List.getElem?_eq_some_iff.mp hp).1
          omega
def spLaw (K : PySem.W.Frag) : Sp := fun vs H Q _ => ∃ (a : Addr) (ns : List Int), vs = [.ref a] ∧ SqL K H a (ns.map V.int) ∧ ns.length ≤ 63 ∧ ∀ H', Q (.bl true) H'
theorem sc_law : FnScope ["_law_script", "_law_box_here", "_law_pair_here", "_law_begin", "_law_many"] ["_law_script"] (defScope s_law) := ⟨rfl, rfl, rfl, by decide +kernel, rfl, by decide +kernel, by decide +kernel⟩
theorem ok_law (T : Txt K mg D) : FnOk P w K mg base CX0 15 D.a_law D.d_law ["_law_script"] (spLaw K) := by
  have G__law_chain := ok__law_chain (P := P) (w := w) (base := base) T
  have G__law_pool := ok__law_pool (P := P) (w := w) (base := base) T
  have G__law_draw := ok__law_draw (P := P) (w := w) (base := base) T
  have G__law_pair := ok__law_pair (P := P) (w := w) (base := base) T
  have G__law_box := ok__law_box (P := P) (w := w) (base := base) T
  refine T.F_law.ok sc_law (fun vs H Q E h => ?_) (fun cdv A outer s H vs Q E hr h => ?_)
  · obtain ⟨a, ns, rfl, _⟩ := h
    rfl
  · obtain ⟨a, ns, rfl, hS, hl, k⟩ := h
    refine ⟨_, (pss_cons (ps_set (i := 1) sc_law.nd rfl (Or.inl rfl) (pe_call G__law_box (hr.mono (by decide)) (by rfl) T.g__law_box T.F__law_box.kp T.b__law_box .nil pass0 (pa_cons (pv 0) pa_nil)))
      (pss_cons (ps_set (i := 2) sc_law.nd rfl (Or.inl rfl) (pe_call G__law_pool (hr.mono (by decide)) (by rfl) T.g__law_pool T.F__law_pool.kp T.b__law_pool .nil pass0 (pa_cons (pv 1) (pa_cons pe_int (pa_cons (pe_op op_pow pe_int pe_int) pa_nil)))))
      (pss_cons (ps_set (i := 3) sc_law.nd rfl (Or.inl rfl) (pe_op op_sub (pe_call G__law_draw (hr.mono (by decide)) (by rfl) T.g__law_draw T.F__law_draw.kp T.b__law_draw .nil pass0 (pa_cons (pv 1) (pa_cons pe_int pa_nil))) pe_int))
      (pss_cons (ps_if (pt_not (pt_val (pe_call G__law_pair (hr.mono (by decide)) (by rfl) T.g__law_pair T.F__law_pair.kp T.b__law_pair .nil pass0 (pa_cons (pv 2) (pa_cons (pv 3) pa_nil)))))
      (pss_one (ps_ret pe_bl))
      pss_nil)
      (pss_cons (ps_set (i := 4) sc_law.nd rfl (Or.inl rfl) (pe_call G__law_draw (hr.mono (by decide)) (by rfl) T.g__law_draw T.F__law_draw.kp T.b__law_draw .nil pass0 (pa_cons (pv 1) (pa_cons pe_int pa_nil))))
      (pss_one (ps_ret (pe_call G__law_chain (hr.mono (by decide)) (by rfl) T.g__law_chain T.F__law_chain.kp T.b__law_chain .nil pass0 (pa_cons (pe_call G__law_pool (hr.mono (by decide)) (by rfl) T.g__law_pool T.F__law_pool.kp T.b__law_pool .nil pass0 (pa_cons (pv 1) (pa_cons (pv 4) (pa_cons pe_int pa_nil)))) pa_nil))))))))), ?_⟩
    walk_at "rd"
    refine ⟨hl, fun b H1 nb x1 B1 => ?_⟩
    walk_at "rd"
    refine ⟨b, 2, _, rfl, .go ⟨H, x1, nb, B1, by decide, by decide, by decide, by decide, by decide, fun l G1 H2 ss S2 d2 B2 len ok => ?_⟩⟩
    obtain ⟨x, y, rfl⟩ : ∃ x y, ss = [x, y] := by
      match ss, len with
      | [x, y], _ => exact ⟨x, y, rfl⟩
    walk_at "rd"
    walk_at "dr"
    intro r H3 p3 q3 B3 x3 f3
    have S3 := S2.draw x3
    walk_at "rd"
    refine ⟨l, _, x, y, G1, rfl, Lst.of d2, S3.vw, ok, fun H4 x4 => ?_⟩
    have S4 := S3.same x4
    have B4 := B3.same x4
    walk_at "rd"
    walk_at "dr"
    intro n H5 p5 q5 B5 x5 f5
    have S5 := S4.draw x5
    walk_at "rd"
    refine ⟨b, n, 25, rfl, .go ⟨H, S5.gg.trans S5.vw, nb, B5, p5, by omega, by decide, by decide, ?_, fun l2 G2 H6 ss2 S6 d6 B6 len6 ok6 => ?_⟩⟩
    · have : n = 0 ∨ n = 1 ∨ n = 2 ∨ n = 3 ∨ n = 4 := by omega
      rcases this with rfl | rfl | rfl | rfl | rfl <;> decide
    refine ⟨l2, ss2, G2, rfl, Lst.of d6, S6.vw, ok6, by omega, fun H7 x7 => ?_⟩
    exact k _
end
end Toy
set_option Elab.async false
set_option linter.all false
set_option maxRecDepth 100000
set_option maxHeartbeats 4000000
namespace Toy
open PySem L2 XR
section
theorem all_mk {l : PySem.W.OpenLaw} {w : World} {K : PySem.W.Frag} {h : Heap} {mg : Str → Option Value} {fa : Addr} (X : K.In h) (G : h.Ns mainGlobals mg) (hfa : mg "law" = some (.ref fa))
    {x_Disjoint_init x_OutOfRange_init x__inverse x_Residue_init x_Residue___eq__ x_Residue___str__ x_Residue___contains__ x_Residue___add__ x_Residue___sub__ x_Residue___neg__ x_Residue___and__ x_Residue_every x_Residue_meet x__law_box x__law_draw x__law_is_number x__law_gcd x__law_lcm x__law_factor x__law_pool x__law_is x__law_holds x__law_apart x__law_meet x__law_is_disjoint x__law_joined x__law_row x__law_walk x__law_pair x__law_chain x_law x_ArchiveError x_UnknownError x_TextError x_ImpossibleError x_Disjoint x_OutOfRange x_Residue q_Residue_every q_Residue_meet : Addr}
    {od_Disjoint_init an_Disjoint_init : Option Addr} {sl_Disjoint_init : Array (Option Value)} {oc_Disjoint_init kV_Disjoint_init dc_Disjoint_init pm_Disjoint_init cd_Disjoint_init ct_Disjoint_init : Value}
    {od_OutOfRange_init an_OutOfRange_init : Option Addr} {sl_OutOfRange_init : Array (Option Value)} {oc_OutOfRange_init kV_OutOfRange_init dc_OutOfRange_init pm_OutOfRange_init cd_OutOfRange_init ct_OutOfRange_init : Value}
    {od__inverse an__inverse : Option Addr} {sl__inverse : Array (Option Value)} {oc__inverse kV__inverse dc__inverse pm__inverse cd__inverse ct__inverse : Value}
    {od_Residue_init an_Residue_init : Option Addr} {sl_Residue_init : Array (Option Value)} {oc_Residue_init kV_Residue_init dc_Residue_init pm_Residue_init cd_Residue_init ct_Residue_init : Value}
    {od_Residue___eq__ an_Residue___eq__ : Option Addr} {sl_Residue___eq__ : Array (Option Value)} {oc_Residue___eq__ kV_Residue___eq__ dc_Residue___eq__ pm_Residue___eq__ cd_Residue___eq__ ct_Residue___eq__ : Value}
    {od_Residue___str__ an_Residue___str__ : Option Addr} {sl_Residue___str__ : Array (Option Value)} {oc_Residue___str__ kV_Residue___str__ dc_Residue___str__ pm_Residue___str__ cd_Residue___str__ ct_Residue___str__ : Value}
    {od_Residue___contains__ an_Residue___contains__ : Option Addr} {sl_Residue___contains__ : Array (Option Value)} {oc_Residue___contains__ kV_Residue___contains__ dc_Residue___contains__ pm_Residue___contains__ cd_Residue___contains__ ct_Residue___contains__ : Value}
    {od_Residue___add__ an_Residue___add__ : Option Addr} {sl_Residue___add__ : Array (Option Value)} {oc_Residue___add__ kV_Residue___add__ dc_Residue___add__ pm_Residue___add__ cd_Residue___add__ ct_Residue___add__ : Value}
    {od_Residue___sub__ an_Residue___sub__ : Option Addr} {sl_Residue___sub__ : Array (Option Value)} {oc_Residue___sub__ kV_Residue___sub__ dc_Residue___sub__ pm_Residue___sub__ cd_Residue___sub__ ct_Residue___sub__ : Value}
    {od_Residue___neg__ an_Residue___neg__ : Option Addr} {sl_Residue___neg__ : Array (Option Value)} {oc_Residue___neg__ kV_Residue___neg__ dc_Residue___neg__ pm_Residue___neg__ cd_Residue___neg__ ct_Residue___neg__ : Value}
    {od_Residue___and__ an_Residue___and__ : Option Addr} {sl_Residue___and__ : Array (Option Value)} {oc_Residue___and__ kV_Residue___and__ dc_Residue___and__ pm_Residue___and__ cd_Residue___and__ ct_Residue___and__ : Value}
    {od_Residue_every an_Residue_every : Option Addr} {sl_Residue_every : Array (Option Value)} {oc_Residue_every kV_Residue_every dc_Residue_every pm_Residue_every cd_Residue_every ct_Residue_every : Value}
    {rest_Residue_every : List Value}
    {od_Residue_meet an_Residue_meet : Option Addr} {sl_Residue_meet : Array (Option Value)} {oc_Residue_meet kV_Residue_meet dc_Residue_meet pm_Residue_meet cd_Residue_meet ct_Residue_meet : Value}
    {rest_Residue_meet : List Value}
    {od__law_box an__law_box : Option Addr} {sl__law_box : Array (Option Value)} {oc__law_box kV__law_box dc__law_box pm__law_box cd__law_box ct__law_box : Value}
    {od__law_draw an__law_draw : Option Addr} {sl__law_draw : Array (Option Value)} {oc__law_draw kV__law_draw dc__law_draw pm__law_draw cd__law_draw ct__law_draw : Value}
    {od__law_is_number an__law_is_number : Option Addr} {sl__law_is_number : Array (Option Value)} {oc__law_is_number kV__law_is_number dc__law_is_number pm__law_is_number cd__law_is_number ct__law_is_number : Value}
    {od__law_gcd an__law_gcd : Option Addr} {sl__law_gcd : Array (Option Value)} {oc__law_gcd kV__law_gcd dc__law_gcd pm__law_gcd cd__law_gcd ct__law_gcd : Value}
    {od__law_lcm an__law_lcm : Option Addr} {sl__law_lcm : Array (Option Value)} {oc__law_lcm kV__law_lcm dc__law_lcm pm__law_lcm cd__law_lcm ct__law_lcm : Value}
    {od__law_factor an__law_factor : Option Addr} {sl__law_factor : Array (Option Value)} {oc__law_factor kV__law_factor dc__law_factor pm__law_factor cd__law_factor ct__law_factor : Value}
    {od__law_pool an__law_pool : Option Addr} {sl__law_pool : Array (Option Value)} {oc__law_pool kV__law_pool dc__law_pool pm__law_pool cd__law_pool ct__law_pool : Value}
    {od__law_is an__law_is : Option Addr} {sl__law_is : Array (Option Value)} {oc__law_is kV__law_is dc__law_is pm__law_is cd__law_is ct__law_is : Value}
    {od__law_holds an__law_holds : Option Addr} {sl__law_holds : Array (Option Value)} {oc__law_holds kV__law_holds dc__law_holds pm__law_holds cd__law_holds ct__law_holds : Value}
    {od__law_apart an__law_apart : Option Addr} {sl__law_apart : Array (Option Value)} {oc__law_apart kV__law_apart dc__law_apart pm__law_apart cd__law_apart ct__law_apart : Value}
    {od__law_meet an__law_meet : Option Addr} {sl__law_meet : Array (Option Value)} {oc__law_meet kV__law_meet dc__law_meet pm__law_meet cd__law_meet ct__law_meet : Value}
    {od__law_is_disjoint an__law_is_disjoint : Option Addr} {sl__law_is_disjoint : Array (Option Value)} {oc__law_is_disjoint kV__law_is_disjoint dc__law_is_disjoint pm__law_is_disjoint cd__law_is_disjoint ct__law_is_disjoint : Value}
    {od__law_joined an__law_joined : Option Addr} {sl__law_joined : Array (Option Value)} {oc__law_joined kV__law_joined dc__law_joined pm__law_joined cd__law_joined ct__law_joined : Value}
    {od__law_row an__law_row : Option Addr} {sl__law_row : Array (Option Value)} {oc__law_row kV__law_row dc__law_row pm__law_row cd__law_row ct__law_row : Value}
    {od__law_walk an__law_walk : Option Addr} {sl__law_walk : Array (Option Value)} {oc__law_walk kV__law_walk dc__law_walk pm__law_walk cd__law_walk ct__law_walk : Value}
    {od__law_pair an__law_pair : Option Addr} {sl__law_pair : Array (Option Value)} {oc__law_pair kV__law_pair dc__law_pair pm__law_pair cd__law_pair ct__law_pair : Value}
    {od__law_chain an__law_chain : Option Addr} {sl__law_chain : Array (Option Value)} {oc__law_chain kV__law_chain dc__law_chain pm__law_chain cd__law_chain ct__law_chain : Value}
    {od_law an_law : Option Addr} {sl_law : Array (Option Value)} {oc_law kV_law dc_law pm_law cd_law ct_law : Value}
    {nm_Disjoint q_Disjoint : Str} {N_Disjoint : Addr} {bs_Disjoint bm_Disjoint : List Value} {sn_Disjoint : List Str} {sub_Disjoint : List Value} {ab_Disjoint : Bool} {col_Disjoint : Option Bool} {dd_Disjoint : Option Addr} {m0_Disjoint m1_Disjoint m2_Disjoint m3_Disjoint m5_Disjoint : Option Value}
    {nm_OutOfRange q_OutOfRange : Str} {N_OutOfRange : Addr} {bs_OutOfRange bm_OutOfRange : List Value} {sn_OutOfRange : List Str} {sub_OutOfRange : List Value} {ab_OutOfRange : Bool} {col_OutOfRange : Option Bool} {dd_OutOfRange : Option Addr} {m0_OutOfRange m1_OutOfRange m2_OutOfRange m3_OutOfRange m5_OutOfRange : Option Value}
    (hC_ArchiveError : PySem.W.nsIn K mainGlobals "ArchiveError" = some (some (.ref x_ArchiveError)))
    (hK_ArchiveError : PySem.W.keepIn K (.ref x_ArchiveError) = true)
    (hC_UnknownError : PySem.W.nsIn K mainGlobals "UnknownError" = some (some (.ref x_UnknownError)))
    (hK_UnknownError : PySem.W.keepIn K (.ref x_UnknownError) = true)
    (hC_TextError : PySem.W.nsIn K mainGlobals "TextError" = some (some (.ref x_TextError)))
    (hK_TextError : PySem.W.keepIn K (.ref x_TextError) = true)
    (hC_ImpossibleError : PySem.W.nsIn K mainGlobals "ImpossibleError" = some (some (.ref x_ImpossibleError)))
    (hK_ImpossibleError : PySem.W.keepIn K (.ref x_ImpossibleError) = true)
    (hC_Disjoint : PySem.W.nsIn K mainGlobals "Disjoint" = some (some (.ref x_Disjoint)))
    (hK_Disjoint : PySem.W.keepIn K (.ref x_Disjoint) = true)
    (hC_OutOfRange : PySem.W.nsIn K mainGlobals "OutOfRange" = some (some (.ref x_OutOfRange)))
    (hK_OutOfRange : PySem.W.keepIn K (.ref x_OutOfRange) = true)
    (hC_Residue : PySem.W.nsIn K mainGlobals "Residue" = some (some (.ref x_Residue)))
    (hK_Residue : PySem.W.keepIn K (.ref x_Residue) = true)
    (ha_Disjoint_init : PySem.W.findIn K (.ref x_Disjoint) "__init__" = some (some (.ref x_Disjoint_init)))
    (hi_Disjoint_init : PySem.W.isFn K (.ref x_Disjoint_init) = true)
    (hl_Disjoint_init : K.lookup x_Disjoint_init = some ⟨oc_Disjoint_init, od_Disjoint_init, .func (PySem.W.fnOf "__init__" "Disjoint.__init__" (defArgs s_Disjoint_init) (defBody s_Disjoint_init) (defScope s_Disjoint_init) .none kV_Disjoint_init dc_Disjoint_init pm_Disjoint_init an_Disjoint_init cd_Disjoint_init ct_Disjoint_init), sl_Disjoint_init⟩)
    (hc_Disjoint_init : PySem.W.codeIn K cd_Disjoint_init "Disjoint.__init__" = true)
    (hk_Disjoint_init : PySem.W.keepIn K (.ref x_Disjoint_init) = true)
    (ha_OutOfRange_init : PySem.W.findIn K (.ref x_OutOfRange) "__init__" = some (some (.ref x_OutOfRange_init)))
    (hi_OutOfRange_init : PySem.W.isFn K (.ref x_OutOfRange_init) = true)
    (hl_OutOfRange_init : K.lookup x_OutOfRange_init = some ⟨oc_OutOfRange_init, od_OutOfRange_init, .func (PySem.W.fnOf "__init__" "OutOfRange.__init__" (defArgs s_OutOfRange_init) (defBody s_OutOfRange_init) (defScope s_OutOfRange_init) .none kV_OutOfRange_init dc_OutOfRange_init pm_OutOfRange_init an_OutOfRange_init cd_OutOfRange_init ct_OutOfRange_init), sl_OutOfRange_init⟩)
    (hc_OutOfRange_init : PySem.W.codeIn K cd_OutOfRange_init "OutOfRange.__init__" = true)
    (hk_OutOfRange_init : PySem.W.keepIn K (.ref x_OutOfRange_init) = true)
    (ha__inverse : PySem.W.nsIn K mainGlobals "_inverse" = some (some (.ref x__inverse)))
    (hl__inverse : K.lookup x__inverse = some ⟨oc__inverse, od__inverse, .func (PySem.W.fnOf "_inverse" "_inverse" (defArgs s__inverse) (defBody s__inverse) (defScope s__inverse) .none kV__inverse dc__inverse pm__inverse an__inverse cd__inverse ct__inverse), sl__inverse⟩)
    (hc__inverse : PySem.W.codeIn K cd__inverse "_inverse" = true)
    (hk__inverse : PySem.W.keepIn K (.ref x__inverse) = true)
    (ha_Residue_init : PySem.W.findIn K (.ref x_Residue) "__init__" = some (some (.ref x_Residue_init)))
    (hi_Residue_init : PySem.W.isFn K (.ref x_Residue_init) = true)
    (hl_Residue_init : K.lookup x_Residue_init = some ⟨oc_Residue_init, od_Residue_init, .func (PySem.W.fnOf "__init__" "Residue.__init__" (defArgs s_Residue_init) (defBody s_Residue_init) (defScope s_Residue_init) .none kV_Residue_init dc_Residue_init pm_Residue_init an_Residue_init cd_Residue_init ct_Residue_init), sl_Residue_init⟩)
    (hc_Residue_init : PySem.W.codeIn K cd_Residue_init "Residue.__init__" = true)
    (hk_Residue_init : PySem.W.keepIn K (.ref x_Residue_init) = true)
    (ha_Residue___eq__ : PySem.W.findIn K (.ref x_Residue) "__eq__" = some (some (.ref x_Residue___eq__)))
    (hi_Residue___eq__ : PySem.W.isFn K (.ref x_Residue___eq__) = true)
    (hl_Residue___eq__ : K.lookup x_Residue___eq__ = some ⟨oc_Residue___eq__, od_Residue___eq__, .func (PySem.W.fnOf "__eq__" "Residue.__eq__" (defArgs s_Residue___eq__) (defBody s_Residue___eq__) (defScope s_Residue___eq__) .none kV_Residue___eq__ dc_Residue___eq__ pm_Residue___eq__ an_Residue___eq__ cd_Residue___eq__ ct_Residue___eq__), sl_Residue___eq__⟩)
    (hc_Residue___eq__ : PySem.W.codeIn K cd_Residue___eq__ "Residue.__eq__" = true)
    (hk_Residue___eq__ : PySem.W.keepIn K (.ref x_Residue___eq__) = true)
    (ha_Residue___str__ : PySem.W.findIn K (.ref x_Residue) "__str__" = some (some (.ref x_Residue___str__)))
    (hi_Residue___str__ : PySem.W.isFn K (.ref x_Residue___str__) = true)
    (hl_Residue___str__ : K.lookup x_Residue___str__ = some ⟨oc_Residue___str__, od_Residue___str__, .func (PySem.W.fnOf "__str__" "Residue.__str__" (defArgs s_Residue___str__) (defBody s_Residue___str__) (defScope s_Residue___str__) .none kV_Residue___str__ dc_Residue___str__ pm_Residue___str__ an_Residue___str__ cd_Residue___str__ ct_Residue___str__), sl_Residue___str__⟩)
    (hc_Residue___str__ : PySem.W.codeIn K cd_Residue___str__ "Residue.__str__" = true)
    (hk_Residue___str__ : PySem.W.keepIn K (.ref x_Residue___str__) = true)
    (ha_Residue___contains__ : PySem.W.findIn K (.ref x_Residue) "__contains__" = some (some (.ref x_Residue___contains__)))
    (hi_Residue___contains__ : PySem.W.isFn K (.ref x_Residue___contains__) = true)
    (hl_Residue___contains__ : K.lookup x_Residue___contains__ = some ⟨oc_Residue___contains__, od_Residue___contains__, .func (PySem.W.fnOf "__contains__" "Residue.__contains__" (defArgs s_Residue___contains__) (defBody s_Residue___contains__) (defScope s_Residue___contains__) .none kV_Residue___contains__ dc_Residue___contains__ pm_Residue___contains__ an_Residue___contains__ cd_Residue___contains__ ct_Residue___contains__), sl_Residue___contains__⟩)
    (hc_Residue___contains__ : PySem.W.codeIn K cd_Residue___contains__ "Residue.__contains__" = true)
    (hk_Residue___contains__ : PySem.W.keepIn K (.ref x_Residue___contains__) = true)
    (ha_Residue___add__ : PySem.W.findIn K (.ref x_Residue) "__add__" = some (some (.ref x_Residue___add__)))
    (hi_Residue___add__ : PySem.W.isFn K (.ref x_Residue___add__) = true)
    (hl_Residue___add__ : K.lookup x_Residue___add__ = some ⟨oc_Residue___add__, od_Residue___add__, .func (PySem.W.fnOf "__add__" "Residue.__add__" (defArgs s_Residue___add__) (defBody s_Residue___add__) (defScope s_Residue___add__) .none kV_Residue___add__ dc_Residue___add__ pm_Residue___add__ an_Residue___add__ cd_Residue___add__ ct_Residue___add__), sl_Residue___add__⟩)
    (hc_Residue___add__ : PySem.W.codeIn K cd_Residue___add__ "Residue.__add__" = true)
    (hk_Residue___add__ : PySem.W.keepIn K (.ref x_Residue___add__) = true)
    (ha_Residue___sub__ : PySem.W.findIn K (.ref x_Residue) "__sub__" = some (some (.ref x_Residue___sub__)))
    (hi_Residue___sub__ : PySem.W.isFn K (.ref x_Residue___sub__) = true)
    (hl_Residue___sub__ : K.lookup x_Residue___sub__ = some ⟨oc_Residue___sub__, od_Residue___sub__, .func (PySem.W.fnOf "__sub__" "Residue.__sub__" (defArgs s_Residue___sub__) (defBody s_Residue___sub__) (defScope s_Residue___sub__) .none kV_Residue___sub__ dc_Residue___sub__ pm_Residue___sub__ an_Residue___sub__ cd_Residue___sub__ ct_Residue___sub__), sl_Residue___sub__⟩)
    (hc_Residue___sub__ : PySem.W.codeIn K cd_Residue___sub__ "Residue.__sub__" = true)
    (hk_Residue___sub__ : PySem.W.keepIn K (.ref x_Residue___sub__) = true)
    (ha_Residue___neg__ : PySem.W.findIn K (.ref x_Residue) "__neg__" = some (some (.ref x_Residue___neg__)))
    (hi_Residue___neg__ : PySem.W.isFn K (.ref x_Residue___neg__) = true)
    (hl_Residue___neg__ : K.lookup x_Residue___neg__ = some ⟨oc_Residue___neg__, od_Residue___neg__, .func (PySem.W.fnOf "__neg__" "Residue.__neg__" (defArgs s_Residue___neg__) (defBody s_Residue___neg__) (defScope s_Residue___neg__) .none kV_Residue___neg__ dc_Residue___neg__ pm_Residue___neg__ an_Residue___neg__ cd_Residue___neg__ ct_Residue___neg__), sl_Residue___neg__⟩)
    (hc_Residue___neg__ : PySem.W.codeIn K cd_Residue___neg__ "Residue.__neg__" = true)
    (hk_Residue___neg__ : PySem.W.keepIn K (.ref x_Residue___neg__) = true)
    (ha_Residue___and__ : PySem.W.findIn K (.ref x_Residue) "__and__" = some (some (.ref x_Residue___and__)))
    (hi_Residue___and__ : PySem.W.isFn K (.ref x_Residue___and__) = true)
    (hl_Residue___and__ : K.lookup x_Residue___and__ = some ⟨oc_Residue___and__, od_Residue___and__, .func (PySem.W.fnOf "__and__" "Residue.__and__" (defArgs s_Residue___and__) (defBody s_Residue___and__) (defScope s_Residue___and__) .none kV_Residue___and__ dc_Residue___and__ pm_Residue___and__ an_Residue___and__ cd_Residue___and__ ct_Residue___and__), sl_Residue___and__⟩)
    (hc_Residue___and__ : PySem.W.codeIn K cd_Residue___and__ "Residue.__and__" = true)
    (hk_Residue___and__ : PySem.W.keepIn K (.ref x_Residue___and__) = true)
    (ha_Residue_every : PySem.W.findCls K (.ref x_Residue) (.type "type") "every" = some (.get (.builtin "staticmethod.__get__") (.ref q_Residue_every) .none (.ref x_Residue)))
    (hr_Residue_every : PySem.W.recIn K q_Residue_every "staticmethod" = some (.ref x_Residue_every :: rest_Residue_every))
    (hl_Residue_every : K.lookup x_Residue_every = some ⟨oc_Residue_every, od_Residue_every, .func (PySem.W.fnOf "every" "Residue.every" (defArgs s_Residue_every) (defBody s_Residue_every) (defScope s_Residue_every) .none kV_Residue_every dc_Residue_every pm_Residue_every an_Residue_every cd_Residue_every ct_Residue_every), sl_Residue_every⟩)
    (hc_Residue_every : PySem.W.codeIn K cd_Residue_every "Residue.every" = true)
    (hk_Residue_every : PySem.W.keepIn K (.ref x_Residue_every) = true)
    (ha_Residue_meet : PySem.W.findCls K (.ref x_Residue) (.type "type") "meet" = some (.get (.builtin "staticmethod.__get__") (.ref q_Residue_meet) .none (.ref x_Residue)))
    (hr_Residue_meet : PySem.W.recIn K q_Residue_meet "staticmethod" = some (.ref x_Residue_meet :: rest_Residue_meet))
    (hl_Residue_meet : K.lookup x_Residue_meet = some ⟨oc_Residue_meet, od_Residue_meet, .func (PySem.W.fnOf "meet" "Residue.meet" (defArgs s_Residue_meet) (defBody s_Residue_meet) (defScope s_Residue_meet) .none kV_Residue_meet dc_Residue_meet pm_Residue_meet an_Residue_meet cd_Residue_meet ct_Residue_meet), sl_Residue_meet⟩)
    (hc_Residue_meet : PySem.W.codeIn K cd_Residue_meet "Residue.meet" = true)
    (hk_Residue_meet : PySem.W.keepIn K (.ref x_Residue_meet) = true)
    (ha__law_box : PySem.W.nsIn K mainGlobals "_law_box" = some (some (.ref x__law_box)))
    (hl__law_box : K.lookup x__law_box = some ⟨oc__law_box, od__law_box, .func (PySem.W.fnOf "_law_box" "_law_box" (defArgs s__law_box) (defBody s__law_box) (defScope s__law_box) .none kV__law_box dc__law_box pm__law_box an__law_box cd__law_box ct__law_box), sl__law_box⟩)
    (hc__law_box : PySem.W.codeIn K cd__law_box "_law_box" = true)
    (hk__law_box : PySem.W.keepIn K (.ref x__law_box) = true)
    (ha__law_draw : PySem.W.nsIn K mainGlobals "_law_draw" = some (some (.ref x__law_draw)))
    (hl__law_draw : K.lookup x__law_draw = some ⟨oc__law_draw, od__law_draw, .func (PySem.W.fnOf "_law_draw" "_law_draw" (defArgs s__law_draw) (defBody s__law_draw) (defScope s__law_draw) .none kV__law_draw dc__law_draw pm__law_draw an__law_draw cd__law_draw ct__law_draw), sl__law_draw⟩)
    (hc__law_draw : PySem.W.codeIn K cd__law_draw "_law_draw" = true)
    (hk__law_draw : PySem.W.keepIn K (.ref x__law_draw) = true)
    (ha__law_is_number : PySem.W.nsIn K mainGlobals "_law_is_number" = some (some (.ref x__law_is_number)))
    (hl__law_is_number : K.lookup x__law_is_number = some ⟨oc__law_is_number, od__law_is_number, .func (PySem.W.fnOf "_law_is_number" "_law_is_number" (defArgs s__law_is_number) (defBody s__law_is_number) (defScope s__law_is_number) .none kV__law_is_number dc__law_is_number pm__law_is_number an__law_is_number cd__law_is_number ct__law_is_number), sl__law_is_number⟩)
    (hc__law_is_number : PySem.W.codeIn K cd__law_is_number "_law_is_number" = true)
    (hk__law_is_number : PySem.W.keepIn K (.ref x__law_is_number) = true)
    (ha__law_gcd : PySem.W.nsIn K mainGlobals "_law_gcd" = some (some (.ref x__law_gcd)))
    (hl__law_gcd : K.lookup x__law_gcd = some ⟨oc__law_gcd, od__law_gcd, .func (PySem.W.fnOf "_law_gcd" "_law_gcd" (defArgs s__law_gcd) (defBody s__law_gcd) (defScope s__law_gcd) .none kV__law_gcd dc__law_gcd pm__law_gcd an__law_gcd cd__law_gcd ct__law_gcd), sl__law_gcd⟩)
    (hc__law_gcd : PySem.W.codeIn K cd__law_gcd "_law_gcd" = true)
    (hk__law_gcd : PySem.W.keepIn K (.ref x__law_gcd) = true)
    (ha__law_lcm : PySem.W.nsIn K mainGlobals "_law_lcm" = some (some (.ref x__law_lcm)))
    (hl__law_lcm : K.lookup x__law_lcm = some ⟨oc__law_lcm, od__law_lcm, .func (PySem.W.fnOf "_law_lcm" "_law_lcm" (defArgs s__law_lcm) (defBody s__law_lcm) (defScope s__law_lcm) .none kV__law_lcm dc__law_lcm pm__law_lcm an__law_lcm cd__law_lcm ct__law_lcm), sl__law_lcm⟩)
    (hc__law_lcm : PySem.W.codeIn K cd__law_lcm "_law_lcm" = true)
    (hk__law_lcm : PySem.W.keepIn K (.ref x__law_lcm) = true)
    (ha__law_factor : PySem.W.nsIn K mainGlobals "_law_factor" = some (some (.ref x__law_factor)))
    (hl__law_factor : K.lookup x__law_factor = some ⟨oc__law_factor, od__law_factor, .func (PySem.W.fnOf "_law_factor" "_law_factor" (defArgs s__law_factor) (defBody s__law_factor) (defScope s__law_factor) .none kV__law_factor dc__law_factor pm__law_factor an__law_factor cd__law_factor ct__law_factor), sl__law_factor⟩)
    (hc__law_factor : PySem.W.codeIn K cd__law_factor "_law_factor" = true)
    (hk__law_factor : PySem.W.keepIn K (.ref x__law_factor) = true)
    (ha__law_pool : PySem.W.nsIn K mainGlobals "_law_pool" = some (some (.ref x__law_pool)))
    (hl__law_pool : K.lookup x__law_pool = some ⟨oc__law_pool, od__law_pool, .func (PySem.W.fnOf "_law_pool" "_law_pool" (defArgs s__law_pool) (defBody s__law_pool) (defScope s__law_pool) .none kV__law_pool dc__law_pool pm__law_pool an__law_pool cd__law_pool ct__law_pool), sl__law_pool⟩)
    (hc__law_pool : PySem.W.codeIn K cd__law_pool "_law_pool" = true)
    (hk__law_pool : PySem.W.keepIn K (.ref x__law_pool) = true)
    (ha__law_is : PySem.W.nsIn K mainGlobals "_law_is" = some (some (.ref x__law_is)))
    (hl__law_is : K.lookup x__law_is = some ⟨oc__law_is, od__law_is, .func (PySem.W.fnOf "_law_is" "_law_is" (defArgs s__law_is) (defBody s__law_is) (defScope s__law_is) .none kV__law_is dc__law_is pm__law_is an__law_is cd__law_is ct__law_is), sl__law_is⟩)
    (hc__law_is : PySem.W.codeIn K cd__law_is "_law_is" = true)
    (hk__law_is : PySem.W.keepIn K (.ref x__law_is) = true)
    (ha__law_holds : PySem.W.nsIn K mainGlobals "_law_holds" = some (some (.ref x__law_holds)))
    (hl__law_holds : K.lookup x__law_holds = some ⟨oc__law_holds, od__law_holds, .func (PySem.W.fnOf "_law_holds" "_law_holds" (defArgs s__law_holds) (defBody s__law_holds) (defScope s__law_holds) .none kV__law_holds dc__law_holds pm__law_holds an__law_holds cd__law_holds ct__law_holds), sl__law_holds⟩)
    (hc__law_holds : PySem.W.codeIn K cd__law_holds "_law_holds" = true)
    (hk__law_holds : PySem.W.keepIn K (.ref x__law_holds) = true)
    (ha__law_apart : PySem.W.nsIn K mainGlobals "_law_apart" = some (some (.ref x__law_apart)))
    (hl__law_apart : K.lookup x__law_apart = some ⟨oc__law_apart, od__law_apart, .func (PySem.W.fnOf "_law_apart" "_law_apart" (defArgs s__law_apart) (defBody s__law_apart) (defScope s__law_apart) .none kV__law_apart dc__law_apart pm__law_apart an__law_apart cd__law_apart ct__law_apart), sl__law_apart⟩)
    (hc__law_apart : PySem.W.codeIn K cd__law_apart "_law_apart" = true)
    (hk__law_apart : PySem.W.keepIn K (.ref x__law_apart) = true)
    (ha__law_meet : PySem.W.nsIn K mainGlobals "_law_meet" = some (some (.ref x__law_meet)))
    (hl__law_meet : K.lookup x__law_meet = some ⟨oc__law_meet, od__law_meet, .func (PySem.W.fnOf "_law_meet" "_law_meet" (defArgs s__law_meet) (defBody s__law_meet) (defScope s__law_meet) .none kV__law_meet dc__law_meet pm__law_meet an__law_meet cd__law_meet ct__law_meet), sl__law_meet⟩)
    (hc__law_meet : PySem.W.codeIn K cd__law_meet "_law_meet" = true)
    (hk__law_meet : PySem.W.keepIn K (.ref x__law_meet) = true)
    (ha__law_is_disjoint : PySem.W.nsIn K mainGlobals "_law_is_disjoint" = some (some (.ref x__law_is_disjoint)))
    (hl__law_is_disjoint : K.lookup x__law_is_disjoint = some ⟨oc__law_is_disjoint, od__law_is_disjoint, .func (PySem.W.fnOf "_law_is_disjoint" "_law_is_disjoint" (defArgs s__law_is_disjoint) (defBody s__law_is_disjoint) (defScope s__law_is_disjoint) .none kV__law_is_disjoint dc__law_is_disjoint pm__law_is_disjoint an__law_is_disjoint cd__law_is_disjoint ct__law_is_disjoint), sl__law_is_disjoint⟩)
    (hc__law_is_disjoint : PySem.W.codeIn K cd__law_is_disjoint "_law_is_disjoint" = true)
    (hk__law_is_disjoint : PySem.W.keepIn K (.ref x__law_is_disjoint) = true)
    (ha__law_joined : PySem.W.nsIn K mainGlobals "_law_joined" = some (some (.ref x__law_joined)))
    (hl__law_joined : K.lookup x__law_joined = some ⟨oc__law_joined, od__law_joined, .func (PySem.W.fnOf "_law_joined" "_law_joined" (defArgs s__law_joined) (defBody s__law_joined) (defScope s__law_joined) .none kV__law_joined dc__law_joined pm__law_joined an__law_joined cd__law_joined ct__law_joined), sl__law_joined⟩)
    (hc__law_joined : PySem.W.codeIn K cd__law_joined "_law_joined" = true)
    (hk__law_joined : PySem.W.keepIn K (.ref x__law_joined) = true)
    (ha__law_row : PySem.W.nsIn K mainGlobals "_law_row" = some (some (.ref x__law_row)))
    (hl__law_row : K.lookup x__law_row = some ⟨oc__law_row, od__law_row, .func (PySem.W.fnOf "_law_row" "_law_row" (defArgs s__law_row) (defBody s__law_row) (defScope s__law_row) .none kV__law_row dc__law_row pm__law_row an__law_row cd__law_row ct__law_row), sl__law_row⟩)
    (hc__law_row : PySem.W.codeIn K cd__law_row "_law_row" = true)
    (hk__law_row : PySem.W.keepIn K (.ref x__law_row) = true)
    (ha__law_walk : PySem.W.nsIn K mainGlobals "_law_walk" = some (some (.ref x__law_walk)))
    (hl__law_walk : K.lookup x__law_walk = some ⟨oc__law_walk, od__law_walk, .func (PySem.W.fnOf "_law_walk" "_law_walk" (defArgs s__law_walk) (defBody s__law_walk) (defScope s__law_walk) .none kV__law_walk dc__law_walk pm__law_walk an__law_walk cd__law_walk ct__law_walk), sl__law_walk⟩)
    (hc__law_walk : PySem.W.codeIn K cd__law_walk "_law_walk" = true)
    (hk__law_walk : PySem.W.keepIn K (.ref x__law_walk) = true)
    (ha__law_pair : PySem.W.nsIn K mainGlobals "_law_pair" = some (some (.ref x__law_pair)))
    (hl__law_pair : K.lookup x__law_pair = some ⟨oc__law_pair, od__law_pair, .func (PySem.W.fnOf "_law_pair" "_law_pair" (defArgs s__law_pair) (defBody s__law_pair) (defScope s__law_pair) .none kV__law_pair dc__law_pair pm__law_pair an__law_pair cd__law_pair ct__law_pair), sl__law_pair⟩)
    (hc__law_pair : PySem.W.codeIn K cd__law_pair "_law_pair" = true)
    (hk__law_pair : PySem.W.keepIn K (.ref x__law_pair) = true)
    (ha__law_chain : PySem.W.nsIn K mainGlobals "_law_chain" = some (some (.ref x__law_chain)))
    (hl__law_chain : K.lookup x__law_chain = some ⟨oc__law_chain, od__law_chain, .func (PySem.W.fnOf "_law_chain" "_law_chain" (defArgs s__law_chain) (defBody s__law_chain) (defScope s__law_chain) .none kV__law_chain dc__law_chain pm__law_chain an__law_chain cd__law_chain ct__law_chain), sl__law_chain⟩)
    (hc__law_chain : PySem.W.codeIn K cd__law_chain "_law_chain" = true)
    (hk__law_chain : PySem.W.keepIn K (.ref x__law_chain) = true)
    (ha_law : PySem.W.nsIn K mainGlobals "law" = some (some (.ref x_law)))
    (hl_law : K.lookup x_law = some ⟨oc_law, od_law, .func (PySem.W.fnOf "law" "law" (defArgs s_law) (defBody s_law) (defScope s_law) .none kV_law dc_law pm_law an_law cd_law ct_law), sl_law⟩)
    (hc_law : PySem.W.codeIn K cd_law "law" = true)
    (hk_law : PySem.W.keepIn K (.ref x_law) = true)
    (hn_ValueError : PySem.W.nsIn K mainGlobals "ValueError" = some none)
    (hn_abs : PySem.W.nsIn K mainGlobals "abs" = some none)
    (hn_any : PySem.W.nsIn K mainGlobals "any" = some none)
    (hn_bool : PySem.W.nsIn K mainGlobals "bool" = some none)
    (hn_int : PySem.W.nsIn K mainGlobals "int" = some none)
    (hn_isinstance : PySem.W.nsIn K mainGlobals "isinstance" = some none)
    (hn_len : PySem.W.nsIn K mainGlobals "len" = some none)
    (hn_list : PySem.W.nsIn K mainGlobals "list" = some none)
    (hn_min : PySem.W.nsIn K mainGlobals "min" = some none)
    (hn_range : PySem.W.nsIn K mainGlobals "range" = some none)
    (hn_str : PySem.W.nsIn K mainGlobals "str" = some none)
    (hn_tuple : PySem.W.nsIn K mainGlobals "tuple" = some none)
    (hb_gcd : PySem.W.nsIn K mainGlobals "gcd" = some (some (.builtin "math.gcd")))
    (ol_Disjoint : K.lookup x_Disjoint = some (excClassObj nm_Disjoint q_Disjoint x_Disjoint N_Disjoint bs_Disjoint bm_Disjoint true sn_Disjoint sub_Disjoint ab_Disjoint col_Disjoint dd_Disjoint m0_Disjoint m1_Disjoint m2_Disjoint m3_Disjoint m5_Disjoint "ValueError.__new__"))
    (or_Disjoint : PySem.HandSPX.refsVE bm_Disjoint = true)
    (ol_OutOfRange : K.lookup x_OutOfRange = some (excClassObj nm_OutOfRange q_OutOfRange x_OutOfRange N_OutOfRange bs_OutOfRange bm_OutOfRange true sn_OutOfRange sub_OutOfRange ab_OutOfRange col_OutOfRange dd_OutOfRange m0_OutOfRange m1_OutOfRange m2_OutOfRange m3_OutOfRange m5_OutOfRange "ValueError.__new__"))
    (or_OutOfRange : PySem.HandSPX.refsVE bm_OutOfRange = true)
    (hx_sr_Residue_every : PySem.W.readsIn K x_Residue (.type "type") = true)
    (hx_sg_Residue_every : PySem.W.specialIn K (.ref x_Residue) "__getattribute__" = some (some (.builtin "type.__getattribute__")))
    (hx_sr_Residue_meet : PySem.W.readsIn K x_Residue (.type "type") = true)
    (hx_sg_Residue_meet : PySem.W.specialIn K (.ref x_Residue) "__getattribute__" = some (some (.builtin "type.__getattribute__")))
    (hx_xsa_Disjoint : PySem.W.findIn K (.ref x_Disjoint) "__setattr__" = some (some (.builtin "object.__setattr__")))
    (hx_xga_Disjoint : PySem.W.findIn K (.ref x_Disjoint) "__getattribute__" = some (some (.builtin "BaseException.__getattribute__")))
    (hx_xgg_Disjoint : PySem.W.findIn K (.ref x_Disjoint) "__getattr__" = some none)
    (hx_xbe_Disjoint : PySem.W.subIn K (.ref x_Disjoint) (.type "BaseException") = some true)
    (hx_xty_Disjoint : PySem.W.typeIn K (.ref x_Disjoint) = some (.type "type"))
    (hx_xhd_Disjoint : PySem.W.hasDictIn K x_Disjoint = true)
    (hx_xca_Disjoint : PySem.W.findIn K (.ref x_Disjoint) "__class__" = some (some (.builtin "object.__class__")))
    (hx_xmo_Disjoint : PySem.W.mroIn K x_Disjoint (.type "object") = some true)
    (hx_xti_Disjoint : PySem.W.typeIn K (.ref x_Disjoint_init) = some (.type "function"))
    (hx_xsa_OutOfRange : PySem.W.findIn K (.ref x_OutOfRange) "__setattr__" = some (some (.builtin "object.__setattr__")))
    (hx_xga_OutOfRange : PySem.W.findIn K (.ref x_OutOfRange) "__getattribute__" = some (some (.builtin "BaseException.__getattribute__")))
    (hx_xgg_OutOfRange : PySem.W.findIn K (.ref x_OutOfRange) "__getattr__" = some none)
    (hx_xbe_OutOfRange : PySem.W.subIn K (.ref x_OutOfRange) (.type "BaseException") = some true)
    (hx_xty_OutOfRange : PySem.W.typeIn K (.ref x_OutOfRange) = some (.type "type"))
    (hx_xhd_OutOfRange : PySem.W.hasDictIn K x_OutOfRange = true)
    (hx_xca_OutOfRange : PySem.W.findIn K (.ref x_OutOfRange) "__class__" = some (some (.builtin "object.__class__")))
    (hx_xmo_OutOfRange : PySem.W.mroIn K x_OutOfRange (.type "object") = some true)
    (hx_xti_OutOfRange : PySem.W.typeIn K (.ref x_OutOfRange_init) = some (.type "function"))
    (hx_cn_ : PySem.W.specialIn K (.builtin "object.__class__") "__get__" = some (some (.builtin "getset_descriptor.__get__")))
    (hx_ct_ : PySem.W.takesIn K (.builtin "object.__class__") = some true)
    (hx_ymk_Residue : PySem.W.makesIn K x_Residue = true)
    (hx_ypg_Residue : PySem.W.plainGet K x_Residue Str.empty = true)
    (hx_yhd_Residue : PySem.W.hasDictIn K x_Residue = true)
    (hx_ypo_Residue : PySem.W.plainOver K x_Residue = true)
    (hx_ysa_Residue : PySem.W.findIn K (.ref x_Residue) "__setattr__" = some (some (.builtin "object.__setattr__")))
    (hx_ysf_Residue : PySem.W.selfFirst K x_Residue = true)
    (hx_yca_Residue : PySem.W.findIn K (.ref x_Residue) "__class__" = some (some (.builtin "object.__class__")))
    (hx_ymo_Residue : PySem.W.mroIn K x_Residue (.type "object") = some true)
    (hx_z_Residue : PySem.W.kitOne K (.ref x_Residue) (.ref x_Residue) = some true)
    (hx_z_U : PySem.W.kitOne K (.ref x_Disjoint) (.ref x_UnknownError) = some false)
    (hx_z_T : PySem.W.kitOne K (.ref x_Disjoint) (.ref x_TextError) = some false)
    (hx_z_O : PySem.W.kitOne K (.ref x_Disjoint) (.ref x_OutOfRange) = some false)
    (hx_z_A : PySem.W.kitOne K (.ref x_Disjoint) (.ref x_ArchiveError) = some true)
    (hx_z_D : PySem.W.kitOne K (.ref x_Disjoint) (.ref x_Disjoint) = some true)
    (hx_m_di : PySem.W.exmOne K (.ref x_Disjoint) (.ref x_ImpossibleError) = some true)
    (hx_e_Disjoint_divisor : PySem.W.findIn K (.ref x_Disjoint) "divisor" = some none)
    (hx_e_OutOfRange_value : PySem.W.findIn K (.ref x_OutOfRange) "value" = some none)
    (hx_no_Residue_place : PySem.W.findIn K (.ref x_Residue) "place" = some none)
    (hx_no_Residue_length : PySem.W.findIn K (.ref x_Residue) "length" = some none)
    (hx_ne_Residue : PySem.W.findIn K (.ref x_Residue) "__ne__" = some (some (.builtin "object.__ne__")))
    (hx_h_Residue___and__ : PySem.W.findIn K (.ref x_Residue) (PySem.dunder Operator.BitAnd.info.2) = some (some (.ref x_Residue___and__)))
    (hx_r_Residue___and__ : PySem.W.findIn K (.ref x_Residue) (PySem.dunderR Operator.BitAnd.info.2) = some none) :
    ∃ fd : FuncData, (∀ (s : Shared) (v : Value), BindsTo s fd ⟨[v], []⟩ [("_law_script", v)]) ∧ ∀ base : Heap, K.In base → base.Ns mainGlobals mg → FnOk l.prog w K mg base CX0 15 fa fd ["_law_script"] (spLaw K) := by
  have e := hfa.symm.trans (PySem.W.mg_of X G ha_law)
  cases e
  have F_Disjoint_init := fun_mk (st := s_Disjoint_init) hl_Disjoint_init hc_Disjoint_init hk_Disjoint_init
  have b_Disjoint_init := F_Disjoint_init.binds (ps := ["self", "divisor"]) fun _ _ _ _ _ _ us hl => match us, hl with | [_, _], _ => rfl
  have F_OutOfRange_init := fun_mk (st := s_OutOfRange_init) hl_OutOfRange_init hc_OutOfRange_init hk_OutOfRange_init
  have b_OutOfRange_init := F_OutOfRange_init.binds (ps := ["self", "value"]) fun _ _ _ _ _ _ us hl => match us, hl with | [_, _], _ => rfl
  have F__inverse := fun_mk (st := s__inverse) hl__inverse hc__inverse hk__inverse
  have b__inverse := F__inverse.binds (ps := ["number", "length"]) fun _ _ _ _ _ _ us hl => match us, hl with | [_, _], _ => rfl
  have F_Residue_init := fun_mk (st := s_Residue_init) hl_Residue_init hc_Residue_init hk_Residue_init
  have b_Residue_init := F_Residue_init.binds (ps := ["self", "place", "length"]) fun _ _ _ _ _ _ us hl => match us, hl with | [_, _, _], _ => rfl
  have F_Residue___eq__ := fun_mk (st := s_Residue___eq__) hl_Residue___eq__ hc_Residue___eq__ hk_Residue___eq__
  have b_Residue___eq__ := F_Residue___eq__.binds (ps := ["self", "other"]) fun _ _ _ _ _ _ us hl => match us, hl with | [_, _], _ => rfl
  have F_Residue___str__ := fun_mk (st := s_Residue___str__) hl_Residue___str__ hc_Residue___str__ hk_Residue___str__
  have b_Residue___str__ := F_Residue___str__.binds (ps := ["self"]) fun _ _ _ _ _ _ us hl => match us, hl with | [_], _ => rfl
  have F_Residue___contains__ := fun_mk (st := s_Residue___contains__) hl_Residue___contains__ hc_Residue___contains__ hk_Residue___contains__
  have b_Residue___contains__ := F_Residue___contains__.binds (ps := ["self", "day"]) fun _ _ _ _ _ _ us hl => match us, hl with | [_, _], _ => rfl
  have F_Residue___add__ := fun_mk (st := s_Residue___add__) hl_Residue___add__ hc_Residue___add__ hk_Residue___add__
  have b_Residue___add__ := F_Residue___add__.binds (ps := ["self", "many"]) fun _ _ _ _ _ _ us hl => match us, hl with | [_, _], _ => rfl
  have F_Residue___sub__ := fun_mk (st := s_Residue___sub__) hl_Residue___sub__ hc_Residue___sub__ hk_Residue___sub__
  have b_Residue___sub__ := F_Residue___sub__.binds (ps := ["self", "many"]) fun _ _ _ _ _ _ us hl => match us, hl with | [_, _], _ => rfl
  have F_Residue___neg__ := fun_mk (st := s_Residue___neg__) hl_Residue___neg__ hc_Residue___neg__ hk_Residue___neg__
  have b_Residue___neg__ := F_Residue___neg__.binds (ps := ["self"]) fun _ _ _ _ _ _ us hl => match us, hl with | [_], _ => rfl
  have F_Residue___and__ := fun_mk (st := s_Residue___and__) hl_Residue___and__ hc_Residue___and__ hk_Residue___and__
  have b_Residue___and__ := F_Residue___and__.binds (ps := ["self", "other"]) fun _ _ _ _ _ _ us hl => match us, hl with | [_, _], _ => rfl
  have F_Residue_every := fun_mk (st := s_Residue_every) hl_Residue_every hc_Residue_every hk_Residue_every
  have b_Residue_every := F_Residue_every.binds (ps := []) fun _ _ _ _ _ _ us hl => match us, hl with | [], _ => rfl
  have F_Residue_meet := fun_mk (st := s_Residue_meet) hl_Residue_meet hc_Residue_meet hk_Residue_meet
  have F__law_box := fun_mk (st := s__law_box) hl__law_box hc__law_box hk__law_box
  have b__law_box := F__law_box.binds (ps := ["_law_script"]) fun _ _ _ _ _ _ us hl => match us, hl with | [_], _ => rfl
  have F__law_draw := fun_mk (st := s__law_draw) hl__law_draw hc__law_draw hk__law_draw
  have b__law_draw := F__law_draw.binds (ps := ["_law_box_here", "_law_size"]) fun _ _ _ _ _ _ us hl => match us, hl with | [_, _], _ => rfl
  have F__law_is_number := fun_mk (st := s__law_is_number) hl__law_is_number hc__law_is_number hk__law_is_number
  have b__law_is_number := F__law_is_number.binds (ps := ["_law_value"]) fun _ _ _ _ _ _ us hl => match us, hl with | [_], _ => rfl
  have F__law_gcd := fun_mk (st := s__law_gcd) hl__law_gcd hc__law_gcd hk__law_gcd
  have b__law_gcd := F__law_gcd.binds (ps := ["_law_first", "_law_second"]) fun _ _ _ _ _ _ us hl => match us, hl with | [_, _], _ => rfl
  have F__law_lcm := fun_mk (st := s__law_lcm) hl__law_lcm hc__law_lcm hk__law_lcm
  have b__law_lcm := F__law_lcm.binds (ps := ["_law_first", "_law_second"]) fun _ _ _ _ _ _ us hl => match us, hl with | [_, _], _ => rfl
  have F__law_factor := fun_mk (st := s__law_factor) hl__law_factor hc__law_factor hk__law_factor
  have b__law_factor := F__law_factor.binds (ps := ["_law_box_here", "_law_most"]) fun _ _ _ _ _ _ us hl => match us, hl with | [_, _], _ => rfl
  have F__law_pool := fun_mk (st := s__law_pool) hl__law_pool hc__law_pool hk__law_pool
  have b__law_pool := F__law_pool.binds (ps := ["_law_box_here", "_law_count", "_law_most"]) fun _ _ _ _ _ _ us hl => match us, hl with | [_, _, _], _ => rfl
  have F__law_is := fun_mk (st := s__law_is) hl__law_is hc__law_is hk__law_is
  have b__law_is := F__law_is.binds (ps := ["_law_residue", "_law_spot", "_law_size"]) fun _ _ _ _ _ _ us hl => match us, hl with | [_, _, _], _ => rfl
  have F__law_holds := fun_mk (st := s__law_holds) hl__law_holds hc__law_holds hk__law_holds
  have b__law_holds := F__law_holds.binds (ps := ["_law_residue", "_law_pool_here"]) fun _ _ _ _ _ _ us hl => match us, hl with | [_, _], _ => rfl
  have F__law_apart := fun_mk (st := s__law_apart) hl__law_apart hc__law_apart hk__law_apart
  have b__law_apart := F__law_apart.binds (ps := ["_law_one", "_law_other"]) fun _ _ _ _ _ _ us hl => match us, hl with | [_, _], _ => rfl
  have F__law_meet := fun_mk (st := s__law_meet) hl__law_meet hc__law_meet hk__law_meet
  have b__law_meet := F__law_meet.binds (ps := ["_law_first", "_law_second"]) fun _ _ _ _ _ _ us hl => match us, hl with | [_, _], _ => rfl
  have F__law_is_disjoint := fun_mk (st := s__law_is_disjoint) hl__law_is_disjoint hc__law_is_disjoint hk__law_is_disjoint
  have b__law_is_disjoint := F__law_is_disjoint.binds (ps := ["_law_told", "_law_divisor"]) fun _ _ _ _ _ _ us hl => match us, hl with | [_, _], _ => rfl
  have F__law_joined := fun_mk (st := s__law_joined) hl__law_joined hc__law_joined hk__law_joined
  have b__law_joined := F__law_joined.binds (ps := ["_law_ones"]) fun _ _ _ _ _ _ us hl => match us, hl with | [_], _ => rfl
  have F__law_row := fun_mk (st := s__law_row) hl__law_row hc__law_row hk__law_row
  have b__law_row := F__law_row.binds (ps := ["_law_ones"]) fun _ _ _ _ _ _ us hl => match us, hl with | [_], _ => rfl
  have F__law_walk := fun_mk (st := s__law_walk) hl__law_walk hc__law_walk hk__law_walk
  have b__law_walk := F__law_walk.binds (ps := ["_law_residue", "_law_pool_here", "_law_begin"]) fun _ _ _ _ _ _ us hl => match us, hl with | [_, _, _], _ => rfl
  have F__law_pair := fun_mk (st := s__law_pair) hl__law_pair hc__law_pair hk__law_pair
  have b__law_pair := F__law_pair.binds (ps := ["_law_pool_here", "_law_begin"]) fun _ _ _ _ _ _ us hl => match us, hl with | [_, _], _ => rfl
  have F__law_chain := fun_mk (st := s__law_chain) hl__law_chain hc__law_chain hk__law_chain
  have b__law_chain := F__law_chain.binds (ps := ["_law_pool_here"]) fun _ _ _ _ _ _ us hl => match us, hl with | [_], _ => rfl
  have F_law := fun_mk (st := s_law) hl_law hc_law hk_law
  have b_law := F_law.binds (ps := ["_law_script"]) fun _ _ _ _ _ _ us hl => match us, hl with | [_], _ => rfl
  let D : Ad := {
    a_Disjoint_init := x_Disjoint_init, d_Disjoint_init := PySem.W.fnOf "__init__" "Disjoint.__init__" (defArgs s_Disjoint_init) (defBody s_Disjoint_init) (defScope s_Disjoint_init) .none kV_Disjoint_init dc_Disjoint_init pm_Disjoint_init an_Disjoint_init cd_Disjoint_init ct_Disjoint_init,
    a_OutOfRange_init := x_OutOfRange_init, d_OutOfRange_init := PySem.W.fnOf "__init__" "OutOfRange.__init__" (defArgs s_OutOfRange_init) (defBody s_OutOfRange_init) (defScope s_OutOfRange_init) .none kV_OutOfRange_init dc_OutOfRange_init pm_OutOfRange_init an_OutOfRange_init cd_OutOfRange_init ct_OutOfRange_init,
    a__inverse := x__inverse, d__inverse := PySem.W.fnOf "_inverse" "_inverse" (defArgs s__inverse) (defBody s__inverse) (defScope s__inverse) .none kV__inverse dc__inverse pm__inverse an__inverse cd__inverse ct__inverse,
    a_Residue_init := x_Residue_init, d_Residue_init := PySem.W.fnOf "__init__" "Residue.__init__" (defArgs s_Residue_init) (defBody s_Residue_init) (defScope s_Residue_init) .none kV_Residue_init dc_Residue_init pm_Residue_init an_Residue_init cd_Residue_init ct_Residue_init,
    a_Residue___eq__ := x_Residue___eq__, d_Residue___eq__ := PySem.W.fnOf "__eq__" "Residue.__eq__" (defArgs s_Residue___eq__) (defBody s_Residue___eq__) (defScope s_Residue___eq__) .none kV_Residue___eq__ dc_Residue___eq__ pm_Residue___eq__ an_Residue___eq__ cd_Residue___eq__ ct_Residue___eq__,
    a_Residue___str__ := x_Residue___str__, d_Residue___str__ := PySem.W.fnOf "__str__" "Residue.__str__" (defArgs s_Residue___str__) (defBody s_Residue___str__) (defScope s_Residue___str__) .none kV_Residue___str__ dc_Residue___str__ pm_Residue___str__ an_Residue___str__ cd_Residue___str__ ct_Residue___str__,
    a_Residue___contains__ := x_Residue___contains__, d_Residue___contains__ := PySem.W.fnOf "__contains__" "Residue.__contains__" (defArgs s_Residue___contains__) (defBody s_Residue___contains__) (defScope s_Residue___contains__) .none kV_Residue___contains__ dc_Residue___contains__ pm_Residue___contains__ an_Residue___contains__ cd_Residue___contains__ ct_Residue___contains__,
    a_Residue___add__ := x_Residue___add__, d_Residue___add__ := PySem.W.fnOf "__add__" "Residue.__add__" (defArgs s_Residue___add__) (defBody s_Residue___add__) (defScope s_Residue___add__) .none kV_Residue___add__ dc_Residue___add__ pm_Residue___add__ an_Residue___add__ cd_Residue___add__ ct_Residue___add__,
    a_Residue___sub__ := x_Residue___sub__, d_Residue___sub__ := PySem.W.fnOf "__sub__" "Residue.__sub__" (defArgs s_Residue___sub__) (defBody s_Residue___sub__) (defScope s_Residue___sub__) .none kV_Residue___sub__ dc_Residue___sub__ pm_Residue___sub__ an_Residue___sub__ cd_Residue___sub__ ct_Residue___sub__,
    a_Residue___neg__ := x_Residue___neg__, d_Residue___neg__ := PySem.W.fnOf "__neg__" "Residue.__neg__" (defArgs s_Residue___neg__) (defBody s_Residue___neg__) (defScope s_Residue___neg__) .none kV_Residue___neg__ dc_Residue___neg__ pm_Residue___neg__ an_Residue___neg__ cd_Residue___neg__ ct_Residue___neg__,
    a_Residue___and__ := x_Residue___and__, d_Residue___and__ := PySem.W.fnOf "__and__" "Residue.__and__" (defArgs s_Residue___and__) (defBody s_Residue___and__) (defScope s_Residue___and__) .none kV_Residue___and__ dc_Residue___and__ pm_Residue___and__ an_Residue___and__ cd_Residue___and__ ct_Residue___and__,
    a_Residue_every := x_Residue_every, d_Residue_every := PySem.W.fnOf "every" "Residue.every" (defArgs s_Residue_every) (defBody s_Residue_every) (defScope s_Residue_every) .none kV_Residue_every dc_Residue_every pm_Residue_every an_Residue_every cd_Residue_every ct_Residue_every,
    a_Residue_meet := x_Residue_meet, d_Residue_meet := PySem.W.fnOf "meet" "Residue.meet" (defArgs s_Residue_meet) (defBody s_Residue_meet) (defScope s_Residue_meet) .none kV_Residue_meet dc_Residue_meet pm_Residue_meet an_Residue_meet cd_Residue_meet ct_Residue_meet,
    a__law_box := x__law_box, d__law_box := PySem.W.fnOf "_law_box" "_law_box" (defArgs s__law_box) (defBody s__law_box) (defScope s__law_box) .none kV__law_box dc__law_box pm__law_box an__law_box cd__law_box ct__law_box,
    a__law_draw := x__law_draw, d__law_draw := PySem.W.fnOf "_law_draw" "_law_draw" (defArgs s__law_draw) (defBody s__law_draw) (defScope s__law_draw) .none kV__law_draw dc__law_draw pm__law_draw an__law_draw cd__law_draw ct__law_draw,
    a__law_is_number := x__law_is_number, d__law_is_number := PySem.W.fnOf "_law_is_number" "_law_is_number" (defArgs s__law_is_number) (defBody s__law_is_number) (defScope s__law_is_number) .none kV__law_is_number dc__law_is_number pm__law_is_number an__law_is_number cd__law_is_number ct__law_is_number,
    a__law_gcd := x__law_gcd, d__law_gcd := PySem.W.fnOf "_law_gcd" "_law_gcd" (defArgs s__law_gcd) (defBody s__law_gcd) (defScope s__law_gcd) .none kV__law_gcd dc__law_gcd pm__law_gcd an__law_gcd cd__law_gcd ct__law_gcd,
    a__law_lcm := x__law_lcm, d__law_lcm := PySem.W.fnOf "_law_lcm" "_law_lcm" (defArgs s__law_lcm) (defBody s__law_lcm) (defScope s__law_lcm) .none kV__law_lcm dc__law_lcm pm__law_lcm an__law_lcm cd__law_lcm ct__law_lcm,
    a__law_factor := x__law_factor, d__law_factor := PySem.W.fnOf "_law_factor" "_law_factor" (defArgs s__law_factor) (defBody s__law_factor) (defScope s__law_factor) .none kV__law_factor dc__law_factor pm__law_factor an__law_factor cd__law_factor ct__law_factor,
    a__law_pool := x__law_pool, d__law_pool := PySem.W.fnOf "_law_pool" "_law_pool" (defArgs s__law_pool) (defBody s__law_pool) (defScope s__law_pool) .none kV__law_pool dc__law_pool pm__law_pool an__law_pool cd__law_pool ct__law_pool,
    a__law_is := x__law_is, d__law_is := PySem.W.fnOf "_law_is" "_law_is" (defArgs s__law_is) (defBody s__law_is) (defScope s__law_is) .none kV__law_is dc__law_is pm__law_is an__law_is cd__law_is ct__law_is,
    a__law_holds := x__law_holds, d__law_holds := PySem.W.fnOf "_law_holds" "_law_holds" (defArgs s__law_holds) (defBody s__law_holds) (defScope s__law_holds) .none kV__law_holds dc__law_holds pm__law_holds an__law_holds cd__law_holds ct__law_holds,
    a__law_apart := x__law_apart, d__law_apart := PySem.W.fnOf "_law_apart" "_law_apart" (defArgs s__law_apart) (defBody s__law_apart) (defScope s__law_apart) .none kV__law_apart dc__law_apart pm__law_apart an__law_apart cd__law_apart ct__law_apart,
    a__law_meet := x__law_meet, d__law_meet := PySem.W.fnOf "_law_meet" "_law_meet" (defArgs s__law_meet) (defBody s__law_meet) (defScope s__law_meet) .none kV__law_meet dc__law_meet pm__law_meet an__law_meet cd__law_meet ct__law_meet,
    a__law_is_disjoint := x__law_is_disjoint, d__law_is_disjoint := PySem.W.fnOf "_law_is_disjoint" "_law_is_disjoint" (defArgs s__law_is_disjoint) (defBody s__law_is_disjoint) (defScope s__law_is_disjoint) .none kV__law_is_disjoint dc__law_is_disjoint pm__law_is_disjoint an__law_is_disjoint cd__law_is_disjoint ct__law_is_disjoint,
    a__law_joined := x__law_joined, d__law_joined := PySem.W.fnOf "_law_joined" "_law_joined" (defArgs s__law_joined) (defBody s__law_joined) (defScope s__law_joined) .none kV__law_joined dc__law_joined pm__law_joined an__law_joined cd__law_joined ct__law_joined,
    a__law_row := x__law_row, d__law_row := PySem.W.fnOf "_law_row" "_law_row" (defArgs s__law_row) (defBody s__law_row) (defScope s__law_row) .none kV__law_row dc__law_row pm__law_row an__law_row cd__law_row ct__law_row,
    a__law_walk := x__law_walk, d__law_walk := PySem.W.fnOf "_law_walk" "_law_walk" (defArgs s__law_walk) (defBody s__law_walk) (defScope s__law_walk) .none kV__law_walk dc__law_walk pm__law_walk an__law_walk cd__law_walk ct__law_walk,
    a__law_pair := x__law_pair, d__law_pair := PySem.W.fnOf "_law_pair" "_law_pair" (defArgs s__law_pair) (defBody s__law_pair) (defScope s__law_pair) .none kV__law_pair dc__law_pair pm__law_pair an__law_pair cd__law_pair ct__law_pair,
    a__law_chain := x__law_chain, d__law_chain := PySem.W.fnOf "_law_chain" "_law_chain" (defArgs s__law_chain) (defBody s__law_chain) (defScope s__law_chain) .none kV__law_chain dc__law_chain pm__law_chain an__law_chain cd__law_chain ct__law_chain,
    a_law := fa, d_law := PySem.W.fnOf "law" "law" (defArgs s_law) (defBody s_law) (defScope s_law) .none kV_law dc_law pm_law an_law cd_law ct_law,
    c_ArchiveError := x_ArchiveError,
    c_UnknownError := x_UnknownError,
    c_TextError := x_TextError,
    c_ImpossibleError := x_ImpossibleError,
    c_Disjoint := x_Disjoint,
    c_OutOfRange := x_OutOfRange,
    c_Residue := x_Residue,
    p_Residue_every := q_Residue_every,
    p_Residue_meet := q_Residue_meet }
  have T : Txt K mg D := { F_Disjoint_init := F_Disjoint_init, b_Disjoint_init := b_Disjoint_init, m_Disjoint_init := ha_Disjoint_init, i_Disjoint_init := hi_Disjoint_init, F_OutOfRange_init := F_OutOfRange_init, b_OutOfRange_init := b_OutOfRange_init, m_OutOfRange_init := ha_OutOfRange_init, i_OutOfRange_init := hi_OutOfRange_init, F__inverse := F__inverse, b__inverse := b__inverse, g__inverse := PySem.W.mg_of X G ha__inverse, F_Residue_init := F_Residue_init, b_Residue_init := b_Residue_init, m_Residue_init := ha_Residue_init, i_Residue_init := hi_Residue_init, F_Residue___eq__ := F_Residue___eq__, b_Residue___eq__ := b_Residue___eq__, m_Residue___eq__ := ha_Residue___eq__, i_Residue___eq__ := hi_Residue___eq__, F_Residue___str__ := F_Residue___str__, b_Residue___str__ := b_Residue___str__, m_Residue___str__ := ha_Residue___str__, i_Residue___str__ := hi_Residue___str__, F_Residue___contains__ := F_Residue___contains__, b_Residue___contains__ := b_Residue___contains__, m_Residue___contains__ := ha_Residue___contains__, i_Residue___contains__ := hi_Residue___contains__, F_Residue___add__ := F_Residue___add__, b_Residue___add__ := b_Residue___add__, m_Residue___add__ := ha_Residue___add__, i_Residue___add__ := hi_Residue___add__, F_Residue___sub__ := F_Residue___sub__, b_Residue___sub__ := b_Residue___sub__, m_Residue___sub__ := ha_Residue___sub__, i_Residue___sub__ := hi_Residue___sub__, F_Residue___neg__ := F_Residue___neg__, b_Residue___neg__ := b_Residue___neg__, m_Residue___neg__ := ha_Residue___neg__, i_Residue___neg__ := hi_Residue___neg__, F_Residue___and__ := F_Residue___and__, b_Residue___and__ := b_Residue___and__, m_Residue___and__ := ha_Residue___and__, i_Residue___and__ := hi_Residue___and__, F_Residue_every := F_Residue_every, b_Residue_every := b_Residue_every, sr_Residue_every := hx_sr_Residue_every, sg_Residue_every := hx_sg_Residue_every, pa_Residue_every := ha_Residue_every, pr_Residue_every := ⟨_, hr_Residue_every⟩, F_Residue_meet := F_Residue_meet, sr_Residue_meet := hx_sr_Residue_meet, sg_Residue_meet := hx_sg_Residue_meet, pa_Residue_meet := ha_Residue_meet, pr_Residue_meet := ⟨_, hr_Residue_meet⟩, F__law_box := F__law_box, b__law_box := b__law_box, g__law_box := PySem.W.mg_of X G ha__law_box, F__law_draw := F__law_draw, b__law_draw := b__law_draw, g__law_draw := PySem.W.mg_of X G ha__law_draw, F__law_is_number := F__law_is_number, b__law_is_number := b__law_is_number, g__law_is_number := PySem.W.mg_of X G ha__law_is_number, F__law_gcd := F__law_gcd, b__law_gcd := b__law_gcd, g__law_gcd := PySem.W.mg_of X G ha__law_gcd, F__law_lcm := F__law_lcm, b__law_lcm := b__law_lcm, g__law_lcm := PySem.W.mg_of X G ha__law_lcm, F__law_factor := F__law_factor, b__law_factor := b__law_factor, g__law_factor := PySem.W.mg_of X G ha__law_factor, F__law_pool := F__law_pool, b__law_pool := b__law_pool, g__law_pool := PySem.W.mg_of X G ha__law_pool, F__law_is := F__law_is, b__law_is := b__law_is, g__law_is := PySem.W.mg_of X G ha__law_is, F__law_holds := F__law_holds, b__law_holds := b__law_holds, g__law_holds := PySem.W.mg_of X G ha__law_holds, F__law_apart := F__law_apart, b__law_apart := b__law_apart, g__law_apart := PySem.W.mg_of X G ha__law_apart, F__law_meet := F__law_meet, b__law_meet := b__law_meet, g__law_meet := PySem.W.mg_of X G ha__law_meet, F__law_is_disjoint := F__law_is_disjoint, b__law_is_disjoint := b__law_is_disjoint, g__law_is_disjoint := PySem.W.mg_of X G ha__law_is_disjoint, F__law_joined := F__law_joined, b__law_joined := b__law_joined, g__law_joined := PySem.W.mg_of X G ha__law_joined, F__law_row := F__law_row, b__law_row := b__law_row, g__law_row := PySem.W.mg_of X G ha__law_row, F__law_walk := F__law_walk, b__law_walk := b__law_walk, g__law_walk := PySem.W.mg_of X G ha__law_walk, F__law_pair := F__law_pair, b__law_pair := b__law_pair, g__law_pair := PySem.W.mg_of X G ha__law_pair, F__law_chain := F__law_chain, b__law_chain := b__law_chain, g__law_chain := PySem.W.mg_of X G ha__law_chain, F_law := F_law, b_law := b_law, g_law := PySem.W.mg_of X G ha_law, g_ArchiveError := PySem.W.mg_of X G hC_ArchiveError, k_ArchiveError := hK_ArchiveError, g_UnknownError := PySem.W.mg_of X G hC_UnknownError, k_UnknownError := hK_UnknownError, g_TextError := PySem.W.mg_of X G hC_TextError, k_TextError := hK_TextError, g_ImpossibleError := PySem.W.mg_of X G hC_ImpossibleError, k_ImpossibleError := hK_ImpossibleError, g_Disjoint := PySem.W.mg_of X G hC_Disjoint, k_Disjoint := hK_Disjoint, g_OutOfRange := PySem.W.mg_of X G hC_OutOfRange, k_OutOfRange := hK_OutOfRange, g_Residue := PySem.W.mg_of X G hC_Residue, k_Residue := hK_Residue, g_gcd := PySem.W.mg_of X G hb_gcd, n_ValueError := PySem.W.mg_none_of X G hn_ValueError, n_abs := PySem.W.mg_none_of X G hn_abs, n_any := PySem.W.mg_none_of X G hn_any, n_bool := PySem.W.mg_none_of X G hn_bool, n_int := PySem.W.mg_none_of X G hn_int, n_isinstance := PySem.W.mg_none_of X G hn_isinstance, n_len := PySem.W.mg_none_of X G hn_len, n_list := PySem.W.mg_none_of X G hn_list, n_min := PySem.W.mg_none_of X G hn_min, n_range := PySem.W.mg_none_of X G hn_range, n_str := PySem.W.mg_none_of X G hn_str, n_tuple := PySem.W.mg_none_of X G hn_tuple, oxl_Disjoint := ⟨_, _, _, _, _, _, _, _, _, _, _, _, _, _, _, ol_Disjoint, or_Disjoint⟩, xsa_Disjoint := hx_xsa_Disjoint, xga_Disjoint := hx_xga_Disjoint, xgg_Disjoint := hx_xgg_Disjoint, xbe_Disjoint := hx_xbe_Disjoint, xty_Disjoint := hx_xty_Disjoint, xhd_Disjoint := hx_xhd_Disjoint, xca_Disjoint := hx_xca_Disjoint, xmo_Disjoint := hx_xmo_Disjoint, xti_Disjoint := hx_xti_Disjoint, oxl_OutOfRange := ⟨_, _, _, _, _, _, _, _, _, _, _, _, _, _, _, ol_OutOfRange, or_OutOfRange⟩, xsa_OutOfRange := hx_xsa_OutOfRange, xga_OutOfRange := hx_xga_OutOfRange, xgg_OutOfRange := hx_xgg_OutOfRange, xbe_OutOfRange := hx_xbe_OutOfRange, xty_OutOfRange := hx_xty_OutOfRange, xhd_OutOfRange := hx_xhd_OutOfRange, xca_OutOfRange := hx_xca_OutOfRange, xmo_OutOfRange := hx_xmo_OutOfRange, xti_OutOfRange := hx_xti_OutOfRange, cn_ := hx_cn_, ct_ := hx_ct_, ymk_Residue := hx_ymk_Residue, ypg_Residue := hx_ypg_Residue, yhd_Residue := hx_yhd_Residue, ypo_Residue := hx_ypo_Residue, ysa_Residue := hx_ysa_Residue, ysf_Residue := hx_ysf_Residue, yca_Residue := hx_yca_Residue, ymo_Residue := hx_ymo_Residue, z_Residue := hx_z_Residue, z_U := hx_z_U, z_T := hx_z_T, z_O := hx_z_O, z_A := hx_z_A, z_D := hx_z_D, m_di := hx_m_di, e_Disjoint_divisor := hx_e_Disjoint_divisor, e_OutOfRange_value := hx_e_OutOfRange_value, no_Residue_place := hx_no_Residue_place, no_Residue_length := hx_no_Residue_length, ne_Residue := hx_ne_Residue, h_Residue___and__ := hx_h_Residue___and__, r_Residue___and__ := hx_r_Residue___and__ }
  exact ⟨D.d_law, fun s v => .of_eq rfl, fun base _ _ => ok_law (D := D) T⟩
end
theorem walk {l : PySem.W.OpenLaw} {q : Program} {loose : List Str} {XP : (Str → Option Value) → Heap → Prop} {YP : World → Heap → Prop} {d : DefRec} {K : Params → PySem.W.Frag} (hn : l.most = some 63) (hdf : d.params.defaults = [])
    (hY : ∀ (w : World) (h : Heap), YP w h → (K w.params).In h)
    (F : ∀ (w : World) (mg : Str → Option Value) (fa : Addr) (h : Heap), (K w.params).In h → h.Ns mainGlobals mg → mg d.name = some (.ref fa) →
      ∃ fd : FuncData, (∀ (s : Shared) (u : Value), BindsTo s fd ⟨[u], []⟩ [("_law_script", u)]) ∧ ∀ base : Heap, (K w.params).In base → base.Ns mainGlobals mg → FnOk l.prog w (K w.params) mg base CX0 15 fa fd ["_law_script"] (spLaw (K w.params))) :
    PySem.W.WalkO q loose XP YP l.row.toRowW d [] (fun f vs => PySem.call f vs) :=
  L2.walk_of (n := 63) (k := 15) (x := "_law_script") (CX := fun _ => CX0) (sp := fun w => spLaw (K w.params)) hn (by decide) hdf ⟨rfl, by decide, by decide⟩ hY F (fun _ _ a ns hl _ hS => ⟨a, ns, rfl, hS, hl, fun _ => rfl⟩) fun _ _ _ _ _ z => z
end Toy

open PySem PySem.W PyProof.Rows in
set_option maxRecDepth 100000 in
set_option maxHeartbeats 0 in
theorem PySem.Challenge.cw_fittingpasts_k01_residue_meet_holds : PySem.Challenge.rw_fittingpasts_k01_residue_meet.Holds := by
  w_on; o_law; k_head; (case hw => w_witness2)
  k_fill
  refine Toy.walk (l := PySem.Challenge.rw_fittingpasts_k01_residue_meet) rfl rfl (fun w h Y => PySem.W.kIn_of Y) ?F
  case F =>
    intro w mg fa h KX G hmg
    refine' Toy.all_mk KX G hmg ?hC_ArchiveError ?hK_ArchiveError ?hC_UnknownError ?hK_UnknownError ?hC_TextError ?hK_TextError ?hC_ImpossibleError ?hK_ImpossibleError ?hC_Disjoint ?hK_Disjoint ?hC_OutOfRange ?hK_OutOfRange ?hC_Residue ?hK_Residue ?ha_Disjoint_init ?hi_Disjoint_init ?hl_Disjoint_init ?hc_Disjoint_init ?hk_Disjoint_init ?ha_OutOfRange_init ?hi_OutOfRange_init ?hl_OutOfRange_init ?hc_OutOfRange_init ?hk_OutOfRange_init ?ha__inverse ?hl__inverse ?hc__inverse ?hk__inverse ?ha_Residue_init ?hi_Residue_init ?hl_Residue_init ?hc_Residue_init ?hk_Residue_init ?ha_Residue___eq__ ?hi_Residue___eq__ ?hl_Residue___eq__ ?hc_Residue___eq__ ?hk_Residue___eq__ ?ha_Residue___str__ ?hi_Residue___str__ ?hl_Residue___str__ ?hc_Residue___str__ ?hk_Residue___str__ ?ha_Residue___contains__ ?hi_Residue___contains__ ?hl_Residue___contains__ ?hc_Residue___contains__ ?hk_Residue___contains__ ?ha_Residue___add__ ?hi_Residue___add__ ?hl_Residue___add__ ?hc_Residue___add__ ?hk_Residue___add__ ?ha_Residue___sub__ ?hi_Residue___sub__ ?hl_Residue___sub__ ?hc_Residue___sub__ ?hk_Residue___sub__ ?ha_Residue___neg__ ?hi_Residue___neg__ ?hl_Residue___neg__ ?hc_Residue___neg__ ?hk_Residue___neg__ ?ha_Residue___and__ ?hi_Residue___and__ ?hl_Residue___and__ ?hc_Residue___and__ ?hk_Residue___and__ ?ha_Residue_every ?hr_Residue_every ?hl_Residue_every ?hc_Residue_every ?hk_Residue_every ?ha_Residue_meet ?hr_Residue_meet ?hl_Residue_meet ?hc_Residue_meet ?hk_Residue_meet ?ha__law_box ?hl__law_box ?hc__law_box ?hk__law_box ?ha__law_draw ?hl__law_draw ?hc__law_draw ?hk__law_draw ?ha__law_is_number ?hl__law_is_number ?hc__law_is_number ?hk__law_is_number ?ha__law_gcd ?hl__law_gcd ?hc__law_gcd ?hk__law_gcd ?ha__law_lcm ?hl__law_lcm ?hc__law_lcm ?hk__law_lcm ?ha__law_factor ?hl__law_factor ?hc__law_factor ?hk__law_factor ?ha__law_pool ?hl__law_pool ?hc__law_pool ?hk__law_pool ?ha__law_is ?hl__law_is ?hc__law_is ?hk__law_is ?ha__law_holds ?hl__law_holds ?hc__law_holds ?hk__law_holds ?ha__law_apart ?hl__law_apart ?hc__law_apart ?hk__law_apart ?ha__law_meet ?hl__law_meet ?hc__law_meet ?hk__law_meet ?ha__law_is_disjoint ?hl__law_is_disjoint ?hc__law_is_disjoint ?hk__law_is_disjoint ?ha__law_joined ?hl__law_joined ?hc__law_joined ?hk__law_joined ?ha__law_row ?hl__law_row ?hc__law_row ?hk__law_row ?ha__law_walk ?hl__law_walk ?hc__law_walk ?hk__law_walk ?ha__law_pair ?hl__law_pair ?hc__law_pair ?hk__law_pair ?ha__law_chain ?hl__law_chain ?hc__law_chain ?hk__law_chain ?ha_law ?hl_law ?hc_law ?hk_law ?hn_ValueError ?hn_abs ?hn_any ?hn_bool ?hn_int ?hn_isinstance ?hn_len ?hn_list ?hn_min ?hn_range ?hn_str ?hn_tuple ?hb_gcd ?ol_Disjoint ?or_Disjoint ?ol_OutOfRange ?or_OutOfRange ?hx_sr_Residue_every ?hx_sg_Residue_every ?hx_sr_Residue_meet ?hx_sg_Residue_meet ?hx_xsa_Disjoint ?hx_xga_Disjoint ?hx_xgg_Disjoint ?hx_xbe_Disjoint ?hx_xty_Disjoint ?hx_xhd_Disjoint ?hx_xca_Disjoint ?hx_xmo_Disjoint ?hx_xti_Disjoint ?hx_xsa_OutOfRange ?hx_xga_OutOfRange ?hx_xgg_OutOfRange ?hx_xbe_OutOfRange ?hx_xty_OutOfRange ?hx_xhd_OutOfRange ?hx_xca_OutOfRange ?hx_xmo_OutOfRange ?hx_xti_OutOfRange ?hx_cn_ ?hx_ct_ ?hx_ymk_Residue ?hx_ypg_Residue ?hx_yhd_Residue ?hx_ypo_Residue ?hx_ysa_Residue ?hx_ysf_Residue ?hx_yca_Residue ?hx_ymo_Residue ?hx_z_Residue ?hx_z_U ?hx_z_T ?hx_z_O ?hx_z_A ?hx_z_D ?hx_m_di ?hx_e_Disjoint_divisor ?hx_e_OutOfRange_value ?hx_no_Residue_place ?hx_no_Residue_length ?hx_ne_Residue ?hx_h_Residue___and__ ?hx_r_Residue___and__
    (case hC_ArchiveError => first | k_is | rfl | k_exc)
    (case hK_ArchiveError => first | k_is | rfl | k_exc)
    (case hC_UnknownError => first | k_is | rfl | k_exc)
    (case hK_UnknownError => first | k_is | rfl | k_exc)
    (case hC_TextError => first | k_is | rfl | k_exc)
    (case hK_TextError => first | k_is | rfl | k_exc)
    (case hC_ImpossibleError => first | k_is | rfl | k_exc)
    (case hK_ImpossibleError => first | k_is | rfl | k_exc)
    (case hC_Disjoint => first | k_is | rfl | k_exc)
    (case hK_Disjoint => first | k_is | rfl | k_exc)
    (case hC_OutOfRange => first | k_is | rfl | k_exc)
    (case hK_OutOfRange => first | k_is | rfl | k_exc)
    (case hC_Residue => first | k_is | rfl | k_exc)
    (case hK_Residue => first | k_is | rfl | k_exc)
    (case ha_Disjoint_init => first | k_is | rfl | k_exc)
    (case hi_Disjoint_init => first | k_is | rfl | k_exc)
    (case hl_Disjoint_init => first | k_is | rfl | k_exc)
    (case hc_Disjoint_init => first | k_is | rfl | k_exc)
    (case hk_Disjoint_init => first | k_is | rfl | k_exc)
    (case ha_OutOfRange_init => first | k_is | rfl | k_exc)
    (case hi_OutOfRange_init => first | k_is | rfl | k_exc)
    (case hl_OutOfRange_init => first | k_is | rfl | k_exc)
    (case hc_OutOfRange_init => first | k_is | rfl | k_exc)
    (case hk_OutOfRange_init => first | k_is | rfl | k_exc)
    (case ha__inverse => first | k_is | rfl | k_exc)
    (case hl__inverse => first | k_is | rfl | k_exc)
    (case hc__inverse => first | k_is | rfl | k_exc)
    (case hk__inverse => first | k_is | rfl | k_exc)
    (case ha_Residue_init => first | k_is | rfl | k_exc)
    (case hi_Residue_init => first | k_is | rfl | k_exc)
    (case hl_Residue_init => first | k_is | rfl | k_exc)
    (case hc_Residue_init => first | k_is | rfl | k_exc)
    (case hk_Residue_init => first | k_is | rfl | k_exc)
    (case ha_Residue___eq__ => first | k_is | rfl | k_exc)
    (case hi_Residue___eq__ => first | k_is | rfl | k_exc)
    (case hl_Residue___eq__ => first | k_is | rfl | k_exc)
    (case hc_Residue___eq__ => first | k_is | rfl | k_exc)
    (case hk_Residue___eq__ => first | k_is | rfl | k_exc)
    (case ha_Residue___str__ => first | k_is | rfl | k_exc)
    (case hi_Residue___str__ => first | k_is | rfl | k_exc)
    (case hl_Residue___str__ => first | k_is | rfl | k_exc)
    (case hc_Residue___str__ => first | k_is | rfl | k_exc)
    (case hk_Residue___str__ => first | k_is | rfl | k_exc)
    (case ha_Residue___contains__ => first | k_is | rfl | k_exc)
    (case hi_Residue___contains__ => first | k_is | rfl | k_exc)
    (case hl_Residue___contains__ => first | k_is | rfl | k_exc)
    (case hc_Residue___contains__ => first | k_is | rfl | k_exc)
    (case hk_Residue___contains__ => first | k_is | rfl | k_exc)
    (case ha_Residue___add__ => first | k_is | rfl | k_exc)
    (case hi_Residue___add__ => first | k_is | rfl | k_exc)
    (case hl_Residue___add__ => first | k_is | rfl | k_exc)
    (case hc_Residue___add__ => first | k_is | rfl | k_exc)
    (case hk_Residue___add__ => first | k_is | rfl | k_exc)
    (case ha_Residue___sub__ => first | k_is | rfl | k_exc)
    (case hi_Residue___sub__ => first | k_is | rfl | k_exc)
    (case hl_Residue___sub__ => first | k_is | rfl | k_exc)
    (case hc_Residue___sub__ => first | k_is | rfl | k_exc)
    (case hk_Residue___sub__ => first | k_is | rfl | k_exc)
    (case ha_Residue___neg__ => first | k_is | rfl | k_exc)
    (case hi_Residue___neg__ => first | k_is | rfl | k_exc)
    (case hl_Residue___neg__ => first | k_is | rfl | k_exc)
    (case hc_Residue___neg__ => first | k_is | rfl | k_exc)
    (case hk_Residue___neg__ => first | k_is | rfl | k_exc)
    (case ha_Residue___and__ => first | k_is | rfl | k_exc)
    (case hi_Residue___and__ => first | k_is | rfl | k_exc)
    (case hl_Residue___and__ => first | k_is | rfl | k_exc)
    (case hc_Residue___and__ => first | k_is | rfl | k_exc)
    (case hk_Residue___and__ => first | k_is | rfl | k_exc)
    (case ha_Residue_every => first | k_is | rfl | k_exc)
    (case hr_Residue_every => first | k_is | rfl | k_exc)
    (case hl_Residue_every => first | k_is | rfl | k_exc)
    (case hc_Residue_every => first | k_is | rfl | k_exc)
    (case hk_Residue_every => first | k_is | rfl | k_exc)
    (case ha_Residue_meet => first | k_is | rfl | k_exc)
    (case hr_Residue_meet => first | k_is | rfl | k_exc)
    (case hl_Residue_meet => first | k_is | rfl | k_exc)
    (case hc_Residue_meet => first | k_is | rfl | k_exc)
    (case hk_Residue_meet => first | k_is | rfl | k_exc)
    (case ha__law_box => first | k_is | rfl | k_exc)
    (case hl__law_box => first | k_is | rfl | k_exc)
    (case hc__law_box => first | k_is | rfl | k_exc)
    (case hk__law_box => first | k_is | rfl | k_exc)
    (case ha__law_draw => first | k_is | rfl | k_exc)
    (case hl__law_draw => first | k_is | rfl | k_exc)
    (case hc__law_draw => first | k_is | rfl | k_exc)
    (case hk__law_draw => first | k_is | rfl | k_exc)
    (case ha__law_is_number => first | k_is | rfl | k_exc)
    (case hl__law_is_number => first | k_is | rfl | k_exc)
    (case hc__law_is_number => first | k_is | rfl | k_exc)
    (case hk__law_is_number => first | k_is | rfl | k_exc)
    (case ha__law_gcd => first | k_is | rfl | k_exc)
    (case hl__law_gcd => first | k_is | rfl | k_exc)
    (case hc__law_gcd => first | k_is | rfl | k_exc)
    (case hk__law_gcd => first | k_is | rfl | k_exc)
    (case ha__law_lcm => first | k_is | rfl | k_exc)
    (case hl__law_lcm => first | k_is | rfl | k_exc)
    (case hc__law_lcm => first | k_is | rfl | k_exc)
    (case hk__law_lcm => first | k_is | rfl | k_exc)
    (case ha__law_factor => first | k_is | rfl | k_exc)
    (case hl__law_factor => first | k_is | rfl | k_exc)
    (case hc__law_factor => first | k_is | rfl | k_exc)
    (case hk__law_factor => first | k_is | rfl | k_exc)
    (case ha__law_pool => first | k_is | rfl | k_exc)
    (case hl__law_pool => first | k_is | rfl | k_exc)
    (case hc__law_pool => first | k_is | rfl | k_exc)
    (case hk__law_pool => first | k_is | rfl | k_exc)
    (case ha__law_is => first | k_is | rfl | k_exc)
    (case hl__law_is => first | k_is | rfl | k_exc)
    (case hc__law_is => first | k_is | rfl | k_exc)
    (case hk__law_is => first | k_is | rfl | k_exc)
    (case ha__law_holds => first | k_is | rfl | k_exc)
    (case hl__law_holds => first | k_is | rfl | k_exc)
    (case hc__law_holds => first | k_is | rfl | k_exc)
    (case hk__law_holds => first | k_is | rfl | k_exc)
    (case ha__law_apart => first | k_is | rfl | k_exc)
    (case hl__law_apart => first | k_is | rfl | k_exc)
    (case hc__law_apart => first | k_is | rfl | k_exc)
    (case hk__law_apart => first | k_is | rfl | k_exc)
    (case ha__law_meet => first | k_is | rfl | k_exc)
    (case hl__law_meet => first | k_is | rfl | k_exc)
    (case hc__law_meet => first | k_is | rfl | k_exc)
    (case hk__law_meet => first | k_is | rfl | k_exc)
    (case ha__law_is_disjoint => first | k_is | rfl | k_exc)
    (case hl__law_is_disjoint => first | k_is | rfl | k_exc)
    (case hc__law_is_disjoint => first | k_is | rfl | k_exc)
    (case hk__law_is_disjoint => first | k_is | rfl | k_exc)
    (case ha__law_joined => first | k_is | rfl | k_exc)
    (case hl__law_joined => first | k_is | rfl | k_exc)
    (case hc__law_joined => first | k_is | rfl | k_exc)
    (case hk__law_joined => first | k_is | rfl | k_exc)
    (case ha__law_row => first | k_is | rfl | k_exc)
    (case hl__law_row => first | k_is | rfl | k_exc)
    (case hc__law_row => first | k_is | rfl | k_exc)
    (case hk__law_row => first | k_is | rfl | k_exc)
    (case ha__law_walk => first | k_is | rfl | k_exc)
    (case hl__law_walk => first | k_is | rfl | k_exc)
    (case hc__law_walk => first | k_is | rfl | k_exc)
    (case hk__law_walk => first | k_is | rfl | k_exc)
    (case ha__law_pair => first | k_is | rfl | k_exc)
    (case hl__law_pair => first | k_is | rfl | k_exc)
    (case hc__law_pair => first | k_is | rfl | k_exc)
    (case hk__law_pair => first | k_is | rfl | k_exc)
    (case ha__law_chain => first | k_is | rfl | k_exc)
    (case hl__law_chain => first | k_is | rfl | k_exc)
    (case hc__law_chain => first | k_is | rfl | k_exc)
    (case hk__law_chain => first | k_is | rfl | k_exc)
    (case ha_law => first | k_is | rfl | k_exc)
    (case hl_law => first | k_is | rfl | k_exc)
    (case hc_law => first | k_is | rfl | k_exc)
    (case hk_law => first | k_is | rfl | k_exc)
    (case hn_ValueError => first | k_is | rfl | k_exc)
    (case hn_abs => first | k_is | rfl | k_exc)
    (case hn_any => first | k_is | rfl | k_exc)
    (case hn_bool => first | k_is | rfl | k_exc)
    (case hn_int => first | k_is | rfl | k_exc)
    (case hn_isinstance => first | k_is | rfl | k_exc)
    (case hn_len => first | k_is | rfl | k_exc)
    (case hn_list => first | k_is | rfl | k_exc)
    (case hn_min => first | k_is | rfl | k_exc)
    (case hn_range => first | k_is | rfl | k_exc)
    (case hn_str => first | k_is | rfl | k_exc)
    (case hn_tuple => first | k_is | rfl | k_exc)
    (case hb_gcd => first | k_is | rfl | k_exc)
    (case ol_Disjoint => first | k_is | rfl | k_exc)
    (case or_Disjoint => decide +kernel)
    (case ol_OutOfRange => first | k_is | rfl | k_exc)
    (case or_OutOfRange => decide +kernel)
    (case hx_sr_Residue_every => first | k_is | rfl | k_exc)
    (case hx_sg_Residue_every => first | k_is | rfl | k_exc)
    (case hx_sr_Residue_meet => first | k_is | rfl | k_exc)
    (case hx_sg_Residue_meet => first | k_is | rfl | k_exc)
    (case hx_xsa_Disjoint => first | k_is | rfl | k_exc)
    (case hx_xga_Disjoint => first | k_is | rfl | k_exc)
    (case hx_xgg_Disjoint => first | k_is | rfl | k_exc)
    (case hx_xbe_Disjoint => first | k_is | rfl | k_exc)
    (case hx_xty_Disjoint => first | k_is | rfl | k_exc)
    (case hx_xhd_Disjoint => first | k_is | rfl | k_exc)
    (case hx_xca_Disjoint => first | k_is | rfl | k_exc)
    (case hx_xmo_Disjoint => first | k_is | rfl | k_exc)
    (case hx_xti_Disjoint => first | k_is | rfl | k_exc)
    (case hx_xsa_OutOfRange => first | k_is | rfl | k_exc)
    (case hx_xga_OutOfRange => first | k_is | rfl | k_exc)
    (case hx_xgg_OutOfRange => first | k_is | rfl | k_exc)
    (case hx_xbe_OutOfRange => first | k_is | rfl | k_exc)
    (case hx_xty_OutOfRange => first | k_is | rfl | k_exc)
    (case hx_xhd_OutOfRange => first | k_is | rfl | k_exc)
    (case hx_xca_OutOfRange => first | k_is | rfl | k_exc)
    (case hx_xmo_OutOfRange => first | k_is | rfl | k_exc)
    (case hx_xti_OutOfRange => first | k_is | rfl | k_exc)
    (case hx_cn_ => first | k_is | rfl | k_exc)
    (case hx_ct_ => first | k_is | rfl | k_exc)
    (case hx_ymk_Residue => first | k_is | rfl | k_exc)
    (case hx_ypg_Residue => first | k_is | rfl | k_exc)
    (case hx_yhd_Residue => first | k_is | rfl | k_exc)
    (case hx_ypo_Residue => first | k_is | rfl | k_exc)
    (case hx_ysa_Residue => first | k_is | rfl | k_exc)
    (case hx_ysf_Residue => first | k_is | rfl | k_exc)
    (case hx_yca_Residue => first | k_is | rfl | k_exc)
    (case hx_ymo_Residue => first | k_is | rfl | k_exc)
    (case hx_z_Residue => first | k_is | rfl | k_exc)
    (case hx_z_U => first | k_is | rfl | k_exc)
    (case hx_z_T => first | k_is | rfl | k_exc)
    (case hx_z_O => first | k_is | rfl | k_exc)
    (case hx_z_A => first | k_is | rfl | k_exc)
    (case hx_z_D => first | k_is | rfl | k_exc)
    (case hx_m_di => first | k_is | rfl | k_exc)
    (case hx_e_Disjoint_divisor => first | k_is | rfl | k_exc)
    (case hx_e_OutOfRange_value => first | k_is | rfl | k_exc)
    (case hx_no_Residue_place => first | k_is | rfl | k_exc)
    (case hx_no_Residue_length => first | k_is | rfl | k_exc)
    (case hx_ne_Residue => first | k_is | rfl | k_exc)
    (case hx_h_Residue___and__ => first | k_is | rfl | k_exc)
    (case hx_r_Residue___and__ => first | k_is | rfl | k_exc)
