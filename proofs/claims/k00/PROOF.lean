import PyProof.Rows.All
import Wide.All
import OpenK.AllK
import Wide.FinOn
import HandS.ForExc
import HandS.Comp
import HandS.Wide
import HandS.IsInst
import HandS.Property
import HandS.FStr
import HandS.MakeKw
import HandS.MakeKwOnly
import HandS.ExcInit
import HandS.ExcField
import HandS.ExcIs
import HandS.HotCalls
import HandS.OwnEq
import HandS.Evl
import KE.KCallOwn
import PySem.Challenge.RW_fittingpasts_k00_residue_days
set_option Elab.async false
set_option linter.all false
set_option maxRecDepth 100000
set_option maxHeartbeats 4000000
/-! own rules: operators that a class of the program defines -/
namespace XR
open PySem PySem.Spec PyProof.Rows L2
section
variable {X : Cx} {CX : CXT} {k : Nat} {C f : Addr} {fd : FuncData} {ps : List Str} {sp : Sp} {E : XK}
/-- the callee runs, somewhere below the body -/
theorem run_at {A : Around} {pins : List (Addr × Obj)} {σ : L2.St} {H : Hp} {s : Shared} {Q : VK} {us : List Value} {vs : List V} (F : FnOk X.prog X.w X.K X.mg X.base CX k f fd ps sp) (hr : Room k A) (hA : A.frames = X.A.frames) (hb : Binds X.K fd ps []) (hx : PassesAt CX X σ E)
    (I : Inv X pins σ H s) (r : Vals vs us) (h : sp vs H Q E) : wpAny (model X.prog X.w) A (call (.ref f) us) (EP X pins σ Q) X.xe s := by
  have hl : us.length = ps.length := by rw [← r.length]; exact F.len _ _ _ _ h
  have e0 : Env0 X.prog X.w X.K X.mg X.base A X.stack s H := by
    have e := I.env0
    exact ⟨by rw [hA]; exact e.frames, e.mod, e.bs, e.bsz, e.funs, e.frf, e.hok, e.bare⟩
  have b := hb s us I.kIn (by rw [List.append_nil]; exact hl)
  rw [List.append_nil] at b
  refine wpAny_call (codeAny_mono (F.run A X.stack s H ⟨us, []⟩ us vs Q E hr e0 b r h) fun r s' hq => ?_)
  cases r with
  | error e => exact hx pins H s e s' I hq
  | ok fl =>
    cases fl with
    | ret u => exact I.after hq
    | next => exact False.elim hq
    | brk => exact False.elim hq
    | cont => exact False.elim hq
/-- an instance of the class at C -/
theorem inst_at {pins : List (Addr × Obj)} {σ : L2.St} {H : Hp} {s : Shared} {a dx : Addr} {fs : List (Str × V)} (I : Inv X pins σ H s) (ha : H a = some (.ins C dx fs)) : ∃ od, PySem.W.InstAt s.heap a (PySem.W.instObj C dx) C (some od) := by
  obtain ⟨mA, J, _⟩ := ins_get I.hok ha
  obtain ⟨od, J, _⟩ := J.look
  exact ⟨od, J⟩
theorem back_of {pins : List (Addr × Obj)} {σ : L2.St} {Q : VK} {v : Value} {s' : Shared} (h : EP X pins σ Q v s') : PySem.W.CmpBack (EP X pins σ Q) v s' := by
  obtain ⟨x, H', I', r, q⟩ := h
  have keep : EP X pins σ Q v s' := ⟨x, H', I', r, q⟩
  cases x with
  | non =>
    obtain rfl : v = Value.none := r
    exact keep
  | bl _ =>
    obtain rfl : v = Value.bool _ := r
    exact keep
  | int _ =>
    obtain ⟨t, rfl⟩ := r
    exact keep
  | str _ =>
    obtain ⟨t, rfl⟩ := r
    exact keep
  | byt _ =>
    obtain ⟨t, rfl⟩ := r
    exact keep
  | flt _ =>
    obtain ⟨t, rfl⟩ := r
    exact keep
  | ref _ =>
    obtain rfl : v = Value.ref _ := r
    exact keep
  | ty _ =>
    obtain rfl : v = Value.type _ := r
    exact keep

/-! ### a op b -/
structure OwnB (K : PySem.W.Frag) (C f : Addr) (op : Operator) : Prop where
  sf : PySem.W.selfFirst K C = true
  hs : PySem.W.findIn K (.ref C) (PySem.dunder op.info.2) = some (some (.ref f))
  hf : PySem.W.isFn K (.ref f) = true
  hr : PySem.W.findIn K (.ref C) (PySem.dunderR op.info.2) = some none
/-- .. an int on the right -/
structure OwnBI (K : PySem.W.Frag) (C : Addr) (op : Operator) : Prop where
  h1 : ∃ fo, PySem.W.findIn K (.type "int") (PySem.dunder op.info.2) = some fo
  h2 : ∃ ro, PySem.W.findIn K (.type "int") (PySem.dunderR op.info.2) = some ro
  sub : PySem.W.subIn K (.type "int") (.ref C) = some false
/-- by the left one's own method: an int or an instance of the same class on the right -/
def rOwnI (C : Addr) (sp : Sp) (E : XK) : R2 := fun x y H Q => ∃ a dx fs i, x = .ref a ∧ y = .int i ∧ H a = some (.ins C dx fs) ∧ sp [.ref a, .int i] H Q E
def rOwnC (C : Addr) (sp : Sp) (E : XK) : R2 := fun x y H Q => ∃ a b dx dy fs gs, x = .ref a ∧ y = .ref b ∧ H a = some (.ins C dx fs) ∧ H b = some (.ins C dy gs) ∧ sp [.ref a, .ref b] H Q E
theorem ownI {op : Operator} {pins : List (Addr × Obj)} {s : Shared} {σ : L2.St} {H : Hp} {x y : V} {v u : Value} {Q : VK} (O : OwnB X.K C f op) (OI : OwnBI X.K C op) (F : FnOk X.prog X.w X.K X.mg X.base CX k f fd ps sp) (hr : Room k X.A) (hb : Binds X.K fd ps []) (hx : PassesAt CX X σ E)
    (I : Inv X pins σ H s) (rx : RelV x v) (ry : RelV y u) (hq : rOwnI C sp E x y H Q) : wpAny (model X.prog X.w) X.A (binaryOp op v u) (EP X pins σ Q) X.xe s := by
  obtain ⟨a, dx, fs, i, rfl, rfl, ha, q⟩ := hq
  cases rx
  obtain ⟨t, rfl⟩ := ry
  obtain ⟨od, J⟩ := inst_at I ha
  obtain ⟨m, hF⟩ := I.fr
  obtain ⟨fo, h1⟩ := OI.h1
  obtain ⟨ro, h2⟩ := OI.h2
  exact PySem.W.ksp_binT (T := "int") hF I.ok.mod.kin J rfl O.sf O.hs O.hf O.hr (.inl rfl) h1 h2 OI.sub
    (thn (run_at (vs := [.ref a, .int i]) F hr rfl hb hx I (.cons rfl (.cons ⟨t, rfl⟩ .nil)) q) fun _ _ z => back_of z)
theorem ownC {op : Operator} {pins : List (Addr × Obj)} {s : Shared} {σ : L2.St} {H : Hp} {x y : V} {v u : Value} {Q : VK} (O : OwnB X.K C f op) (F : FnOk X.prog X.w X.K X.mg X.base CX k f fd ps sp) (hr : Room k X.A) (hb : Binds X.K fd ps []) (hx : PassesAt CX X σ E)
    (I : Inv X pins σ H s) (rx : RelV x v) (ry : RelV y u) (hq : rOwnC C sp E x y H Q) : wpAny (model X.prog X.w) X.A (binaryOp op v u) (EP X pins σ Q) X.xe s := by
  obtain ⟨a, b, dx, dy, fs, gs, rfl, rfl, ha, hb', q⟩ := hq
  cases rx
  cases ry
  obtain ⟨od, J⟩ := inst_at I ha
  obtain ⟨od', J'⟩ := inst_at I hb'
  obtain ⟨m, hF⟩ := I.fr
  exact PySem.W.binop_K hF I.ok.mod.kin J J'.type O.sf O.hs O.hf
    (thn (run_at (vs := [.ref a, .ref b]) F hr rfl hb hx I (.cons rfl (.cons rfl .nil)) q) fun _ _ z => back_of z)
theorem at_of_passes {σ : L2.St} (hx : Passes CX X E) : PassesAt CX X σ E := fun pins H s e s' I c => hx pins σ H s e s' I c
theorem op_ownI {op : Operator} (O : OwnB X.K C f op) (OI : OwnBI X.K C op) (F : FnOk X.prog X.w X.K X.mg X.base CX k f fd ps sp) (hr : Room k X.A) (hb : Binds X.K fd ps []) (hx : Passes CX X E) : OpR X (binaryOp op) (rOwnI C sp E) :=
  fun pins s σ H x y v u Q I rx ry hq => ownI O OI F hr hb (at_of_passes hx) I rx ry hq
theorem op_ownC {op : Operator} (O : OwnB X.K C f op) (F : FnOk X.prog X.w X.K X.mg X.base CX k f fd ps sp) (hr : Room k X.A) (hb : Binds X.K fd ps []) (hx : Passes CX X E) : OpR X (binaryOp op) (rOwnC C sp E) :=
  fun pins s σ H x y v u Q I rx ry hq => ownC O F hr hb (at_of_passes hx) I rx ry hq
/-- .. in a try's body -/
def tOpS (r : L2.St → R2) (ta tb : TE) : TE := fun σ H Q => ta σ H fun x H1 => tb σ H1 fun y H2 => r σ x y H2 Q
theorem pe_opCS {op : Operator} {a b : Expr} {pos : Pos} {ta tb : TE} {ES : L2.St → XK} (O : OwnB X.K C f op) (F : FnOk X.prog X.w X.K X.mg X.base CX k f fd ps sp) (hr : Room k X.A) (hb : Binds X.K fd ps []) (hx : ∀ σ, PassesAt CX X σ (ES σ)) (ha : PE X a ta) (hb2 : PE X b tb) :
    PE X (.BinOp a op b pos) (tOpS (fun σ => rOwnC C sp (ES σ)) ta tb) := by
  refine ⟨fun pins s σ H Q I h => ?_⟩
  exact (wpAny_BinOp (binT ha hb2 I (R := fun x y H2 => rOwnC C sp (ES σ) x y H2 Q) (by exact h) fun v u s1 x y H1 I1 r1 r2 q => ownC O F hr hb (hx σ) I1 r1 r2 q))
/-! ### x in o, x not in o -/
structure OwnM (K : PySem.W.Frag) (C f : Addr) (name : Str) : Prop where
  hs : PySem.W.findIn K (.ref C) name = some (some (.ref f))
  hf : PySem.W.isFn K (.ref f) = true
def rInOwn (C : Addr) (sp : Sp) (E : XK) (neg : Bool) : R2 := fun x y H Q => ∃ a dx fs, y = .ref a ∧ H a = some (.ins C dx fs) ∧ sp [.ref a, x] H (fun v H' => ∃ b, v = .bl b ∧ Q (.bl (if neg then !b else b)) H') E
theorem op_in_own (O : OwnM X.K C f "__contains__") (F : FnOk X.prog X.w X.K X.mg X.base CX k f fd ps sp) (hr : Room k X.A) (hb : Binds X.K fd ps []) (hx : Passes CX X E) : OpR X (compareOp .In) (rInOwn C sp E false) := by
  intro pins s σ H x y v u Q I rx ry hq
  obtain ⟨a, dx, fs, rfl, ha, q⟩ := hq
  cases ry
  obtain ⟨od, J⟩ := inst_at I ha
  obtain ⟨m, hF⟩ := I.fr
  refine PySem.W.in_K hF I.ok.mod.kin J O.hs O.hf (thn (run_at (vs := [.ref a, x]) F hr rfl hb (at_of_passes hx) I (.cons rfl (.cons rx .nil)) q) fun r s' z => ?_)
  obtain ⟨w', H', I', rw', b, rfl, q2⟩ := z
  cases rw'
  exact wpAny_truthy_bool ⟨.bl b, H', I', rfl, q2⟩
theorem op_notIn_own (O : OwnM X.K C f "__contains__") (F : FnOk X.prog X.w X.K X.mg X.base CX k f fd ps sp) (hr : Room k X.A) (hb : Binds X.K fd ps []) (hx : Passes CX X E) : OpR X (compareOp .NotIn) (rInOwn C sp E true) := by
  intro pins s σ H x y v u Q I rx ry hq
  obtain ⟨a, dx, fs, rfl, ha, q⟩ := hq
  cases ry
  obtain ⟨od, J⟩ := inst_at I ha
  obtain ⟨m, hF⟩ := I.fr
  refine PySem.W.notIn_K hF I.ok.mod.kin J O.hs O.hf (thn (run_at (vs := [.ref a, x]) F hr rfl hb (at_of_passes hx) I (.cons rfl (.cons rx .nil)) q) fun r s' z => ?_)
  obtain ⟨w', H', I', rw', b, rfl, q2⟩ := z
  cases rw'
  exact wpAny_truthy_bool ⟨.bl (!b), H', I', rfl, q2⟩
/-! ### a == b, a != b by the class's __eq__ (no __ne__ of its own) -/
structure OwnE (K : PySem.W.Frag) (C f : Addr) : Prop where
  hs : PySem.W.findIn K (.ref C) "__eq__" = some (some (.ref f))
  hf : PySem.W.isFn K (.ref f) = true
  hn : PySem.W.findIn K (.ref C) "__ne__" = some (some (.builtin "object.__ne__"))
  ob : PySem.W.mroIn K C (.type "object") = some true
def rEqOwn (C : Addr) (sp : Sp) (E : XK) (neg : Bool) : R2 := fun x y H Q => ∃ a b dx dy fs gs, x = .ref a ∧ y = .ref b ∧ H a = some (.ins C dx fs) ∧ H b = some (.ins C dy gs) ∧ sp [.ref a, .ref b] H (fun v H' => ∃ c, v = .bl c ∧ Q (.bl (if neg then !c else c)) H') E
theorem op_eq_own (O : OwnE X.K C f) (F : FnOk X.prog X.w X.K X.mg X.base CX k f fd ps sp) (hr : Room k X.A) (hb : Binds X.K fd ps []) (hx : Passes CX X E) : OpR X (compareOp .Eq) (rEqOwn C sp E false) := by
  intro pins s σ H x y v u Q I rx ry hq
  obtain ⟨a, b, dx, dy, fs, gs, rfl, rfl, ha, hb', q⟩ := hq
  cases rx
  cases ry
  obtain ⟨od, J⟩ := inst_at I ha
  obtain ⟨od', J'⟩ := inst_at I hb'
  obtain ⟨m, hF⟩ := I.fr
  refine PySem.W.cmp_K (op := .Eq) (tb := .ref C) hr.units0 hF I.ok.mod.kin J J'.type (by simp [PySem.W.notFirst]) O.hs O.hf ?_
  refine thn (run_at (vs := [.ref a, .ref b]) F hr rfl hb (at_of_passes hx) I (.cons rfl (.cons rfl .nil)) q) fun _ _ z => ?_
  obtain ⟨w', H', I', rw', c, rfl, q2⟩ := z
  cases rw'
  exact (⟨.bl c, H', I', rfl, q2⟩ : EP X pins σ Q (.bool c) _)
theorem objNe_entry {prog : Program} {w : World} {A : Around} {E : Value → Shared → Prop} {K : PySem.W.Frag} {x C f : Addr} {ox : Obj} {od : Option Obj} {b : Value} {s : Shared} {Q : PySem.Fin → Shared → Prop} (hu : A.units < cLine) (Xk : K.In s.heap) (I : PySem.W.InstAt s.heap x ox C od)
    (hs : PySem.W.findIn K (.ref C) "__eq__" = some (some (.ref f))) (hf : PySem.W.isFn K (.ref f) = true)
    (h : wpAny (model prog w) A (call (.ref f) [.ref x, b]) (fun v s' => ∃ c, v = .bool c ∧ Q (.done (.ret (.bool (!c)))) s') E s) :
    wpAny (model prog w) A (Builtin.«object.__ne__» ⟨[.ref x, b], []⟩) Q E s := by
  unfold Builtin.«object.__ne__»
  refine wpAny_bind (wpAny_of_eq (a := ((Value.ref x : Value), [b])) (by first | rfl | (simp only [Builtin.slotArgs]; rfl)) ?_)
  refine wpAny_bind (wpAny_cRoomFor hu ?_)
  refine wpAny_bind (PySem.W.ifBound_K Xk I hs hf (thn h fun v s' z => ?_))
  obtain ⟨c, rfl, q⟩ := z
  exact wpAny_bind (wpAny_truthy_bool (wpAny_pure q))
theorem cmp_ne {prog : Program} {w : World} {A : Around} {E : Value → Shared → Prop} {K : PySem.W.Frag} {x C f : Addr} {ox : Obj} {od : Option Obj} {b : Value} {s : Shared} {Q : Value → Shared → Prop} (hu : A.units + 1 < cLine) (Xk : K.In s.heap) (I : PySem.W.InstAt s.heap x ox C od)
    (hb : PySem.W.Looks (model prog w) s.heap (typeOf b) (.ref C)) (hn : PySem.W.findIn K (.ref C) "__ne__" = some (some (.builtin "object.__ne__"))) (ob : PySem.W.mroIn K C (.type "object") = some true)
    (hs : PySem.W.findIn K (.ref C) "__eq__" = some (some (.ref f))) (hf : PySem.W.isFn K (.ref f) = true)
    (h : wpAny (model prog w) A.in1 (call (.ref f) [.ref x, b]) (fun v s' => ∃ c, v = .bool c ∧ Q (.bool (!c)) s') E s) :
    wpAny (model prog w) A (richCompare .NotEq (.ref x) b) Q E s := by
  have sub : PySem.W.Looks (model prog w) s.heap (isInstance (.ref x) (.type "object")) true := I.type.andThen (PySem.W.looks_mroIn Xk ob)
  have callN : wpAny (model prog w) A (call (.builtin "object.__ne__") [.ref x, b]) (fun v s' => ∃ c, v = .bool c ∧ Q v s') E s := by
    refine wpAny_call (codeAny_call_builtin PySem.F.cmp_object.ne.plain PySem.F.cmpEntry_ne ?_)
    refine @PySem.W.check_slot (model prog w) _ _ s "object.__ne__" "object" "__ne__" (.ref x) [b] [] _ PySem.F.cmpKind_ne PySem.F.cmpSplit_ne sub (PySem.F.cmpArgs_ne _ _) ?_
    refine objNe_entry (A := A.in1) (by show A.units + 1 < cLine; exact hu) Xk I hs hf (thn h fun v s' z => ?_)
    obtain ⟨c, rfl, q⟩ := z
    exact ⟨c, rfl, ⟨!c, rfl, q⟩⟩
  have L1 := PySem.W.looks_findIn (M := model prog w) Xk hn
  have one : wpAny (model prog w) A (tryCompare (.ref x) "__ne__" b) (fun r s' => ∃ v, r = some v ∧ Q v s') E s := by
    unfold tryCompare
    refine wpAny_bind ?_
    simp only [callSpecialIfBound?, bindSpecialIfBound?]
    refine wpAny_holding (wpAny_bind (wpAny_bind (wpAny_bind (I.type.here (L1.here ?_)))))
    simp only [PySem.F.cmp_object.ne.bind]
    refine wpAny_bind (wpAny_askSetting (wpAny_ite ?_))
    have go : wpAny (model prog w) A (do
        let r ← call (.builtin "object.__ne__") ([.ref x] ++ [b])
        pure (some r)) (fun a s' => wpAny (model prog w) A (match a with
          | some Value.notImplemented => pure none
          | none => pure none
          | some v => pure (some v)) (fun r s' => ∃ v, r = some v ∧ Q v s') E s') E s := by
      refine wpAny_bind (thn callN fun v s' z => ?_)
      obtain ⟨c, rfl, q⟩ := z
      exact wpAny_pure (wpAny_pure ⟨_, rfl, q⟩)
    split
    · exact wpAny_bind (wpAny_pure (wpAny_pure (by exact go)))
    · refine wpAny_tryCatch ?_
      exact wpAny_bind (wpAny_pure (wpAny_pure (by exact go)))
  have hu0 : A.units < cLine := Nat.lt_of_succ_lt hu
  unfold richCompare
  simp only [oneThing_ref]
  refine wpAny_holding (wpAny_bind (wpAny_cRoomFor hu0 ?_))
  refine wpAny_bind (I.type.here (wpAny_bind (hb.here ?_)))
  split
  · rename_i q
    simp at q
  · refine wpAny_bind (wpAny_pure ?_)
    simp only [Bool.false_eq_true, if_false]
    refine wpAny_bind (wpAny_mono one (fun r s' z => ?_) fun _ _ e => e)
    obtain ⟨v, rfl, hq⟩ := z
    exact wpAny_pure hq
theorem op_ne_own (O : OwnE X.K C f) (F : FnOk X.prog X.w X.K X.mg X.base CX k f fd ps sp) (hr : Room (k + 1) X.A) (hb : Binds X.K fd ps []) (hx : Passes CX X E) : OpR X (compareOp .NotEq) (rEqOwn C sp E true) := by
  intro pins s σ H x y v u Q I rx ry hq
  obtain ⟨a, b, dx, dy, fs, gs, rfl, rfl, ha, hb', q⟩ := hq
  cases rx
  cases ry
  obtain ⟨od, J⟩ := inst_at I ha
  obtain ⟨od', J'⟩ := inst_at I hb'
  refine cmp_ne (by have := hr.units; omega) I.kIn J J'.type O.hn O.ob O.hs O.hf ?_
  refine thn (run_at (A := X.A.in1) (vs := [.ref a, .ref b]) F hr.in1 rfl hb (at_of_passes hx) I (.cons rfl (.cons rfl .nil)) q) fun _ _ z => ?_
  obtain ⟨w', H', I', rw', c, rfl, q2⟩ := z
  cases rw'
  exact ⟨c, rfl, (⟨.bl (!c), H', I', rfl, q2⟩ : EP X pins σ Q (.bool (!c)) _)⟩
/-! ### str(o) by the class's __str__ -/
def rStrOwn (C : Addr) (sp : Sp) (E : XK) : List V → Hp → VK → Prop := fun vs H Q => ∃ a dx fs, vs = [.ref a] ∧ H a = some (.ins C dx fs) ∧ sp [.ref a] H (fun v H' => ∃ z, v = .str z ∧ Q v H') E
theorem call_str_own (O : OwnM X.K C f "__str__") (F : FnOk X.prog X.w X.K X.mg X.base CX k f fd ps sp) (hr : Room (k + 2) X.A) (hb : Binds X.K fd ps []) (hx : Passes CX X E) : CallR X (.type "str") (rStrOwn C sp E) := by
  intro pins s σ H xs us Q I r hq
  obtain ⟨a, dx, fs, rfl, ha, q⟩ := hq
  cases r with
  | cons rx rr =>
    cases rr
    cases rx
    obtain ⟨od, J⟩ := inst_at I ha
    have hr2 : Room k X.A.in1.in1 := hr.in1.in1
    refine PySem.W.kso_call hr2.units0 I.kIn J O.hs O.hf ?_
    refine thn (run_at (A := X.A.in1.in1) (vs := [.ref a]) F hr2 rfl hb (at_of_passes hx) I (.cons rfl .nil) q) fun _ _ z => ?_
    obtain ⟨w', H', I', rw', z, rfl, q2⟩ := z
    obtain ⟨t, rfl⟩ := rw'
    exact (⟨.str z, H', I', ⟨t, rfl⟩, q2⟩ : EP X pins σ Q (.str z t) _)
/-! ### -o -/
def rNegOwn (C : Addr) (sp : Sp) (E : XK) : V → Hp → VK → Prop := fun x H Q => ∃ a dx fs, x = .ref a ∧ H a = some (.ins C dx fs) ∧ sp [.ref a] H Q E
theorem un_neg_own (O : OwnM X.K C f "__neg__") (F : FnOk X.prog X.w X.K X.mg X.base CX k f fd ps sp) (hr : Room k X.A) (hb : Binds X.K fd ps []) (hx : Passes CX X E) : UnR X (unaryOp .USub) (rNegOwn C sp E) := by
  intro pins s σ H x v Q I rx hq
  obtain ⟨a, dx, fs, rfl, ha, q⟩ := hq
  cases rx
  obtain ⟨od, J⟩ := inst_at I ha
  obtain ⟨m, hF⟩ := I.fr
  exact PySem.W.ksp_neg hF I.ok.mod.kin J O.hs O.hf (run_at (vs := [.ref a]) F hr rfl hb (at_of_passes hx) I (.cons rfl .nil) q)
end
end XR
/-! ### isinstance of a caught error that has a dict of its own -/
namespace XR
open PySem PySem.Spec PySem.Calls PyProof.Rows PySem.W
section
variable {prog : Program} {w : World} {A : Around} {E : Value → Shared → Prop} {s : Shared} {K : Frag} {x D : Addr} {ox od : Obj}
/-- what a class of errors must say, so that isinstance reads its instances rightly (L2.ExcC's facts) -/
abbrev Asks (K : Frag) (D : Addr) : Prop := L2.ExcC K D
theorem excD_class {Q : Option Value → Shared → Prop} (c : Asks K D) (X : K.In s.heap)
    (I : InstAt s.heap x ox D (some od)) (h : Q (some (.ref D)) { s with toks := s.toks + 1 }) :
    wpAny (model prog w) A (getAttr? (.ref x) "__class__") Q E s := by
  have isC : (clsIn K D).isSome = true := by
    obtain ⟨cd, hc, _⟩ := any_some c.hd
    rw [hc] <;> rfl
  have fnd := looks_find (M := model prog w) X I (findObj_data isC c.ha c.hn c.ht)
  obtain ⟨hp, g, d, t, os⟩ := s
  have lt := I.type (M := model prog w)
  have la := looks_findIn (M := model prog w) X c.hg
  have lb := looks_findIn (M := model prog w) X c.hk
  have isB : Looks (model prog w) hp (isInstance (.ref x) (.type "BaseException")) true :=
    lt.andThen (looks_subIn X c.hs)
  have z0 : (false && onTheHeap (Value.builtin "BaseException.__getattribute__")) = false := by
    rfl
  have z2 : (Value.builtin "BaseException.__getattribute__" ==
      Value.builtin "object.__getattribute__") = false := by decide +kernel
  have z1 : (onTheHeap (Value.ref D) && (Value.builtin "BaseException.__getattribute__" ==
      Value.builtin "object.__getattribute__")) = false := by rw [z2, Bool.and_false]
  unfold getAttr? getAttrBy? getAttrBy
  refine wpAny_bind (wpAny_mkText ?_)
  refine wpAny_bind (wpAny_attempt ?_)
  refine wpAny_holding (wpAny_bind (lt.at ?_))
  refine wpAny_bind (la.at ?_)
  show wpAny _ _ (if (onTheHeap (Value.ref D) && (Value.builtin "BaseException.__getattribute__" ==
    Value.builtin "object.__getattribute__")) = true then _ else _) _ _ _
  rw [z1, if_neg (by decide)]
  unfold getAttrByItsOwn hookBefore
  refine wpAny_bind ?_
  rw [if_pos (by rfl : onTheHeap (Value.ref D) = true)]
  refine lb.at (wpAny_bind (wpAny_attempt ?_))
  refine wpAny_holding ?_
  unfold callGetattribute
  rw [z0, if_neg (by decide)]
  unfold boundAndCalled
  rw [PySem.F.excAttr_ValueError.ga.bind]
  refine wpAny_bind (wpAny_pure ?_)
  show wpAny _ _ (call (.builtin "BaseException.__getattribute__")
    [.ref x, .str "__class__" t]) _ _ _
  refine wpAny_call (codeAny_call_builtin PySem.F.excAttr_ValueError.ga.plain
    PySem.F.entry_bexc_ga ?_)
  refine @check_slot (model prog w) _ _ ⟨hp, g, d, t + 1, os⟩ "BaseException.__getattribute__" "BaseException"
    "__getattribute__" (.ref x) [.str "__class__" t] [] _ (by decide +kernel) (by decide +kernel) isB
    (PySem.F.args_bexc_ga _ _) ?_
  unfold Builtin.«object.__getattribute__»
  refine wpAny_bind (wpAny_of_eq (a := ((Value.ref x : Value), [Value.str "__class__" t]))
    (by first | rfl | (simp only [Builtin.slotArgs] <;> rfl)) ?_)
  refine wpAny_bind (wpAny_pure ?_)
  refine wpAny_bind (lt.at (wpAny_bind (fnd.at ?_)))
  show wpAny _ _ (holding [Value.builtin "object.__class__"]
    (call (.builtin "getset_descriptor.__get__") [.builtin "object.__class__", .ref x, .ref D]) >>= ret) _ _ _
  refine wpAny_bind (wpAny_holding ?_)
  refine wpAny_call (class_get (s := ⟨hp, g, d, t + 1, os⟩) (ox := ox) (od := some od) X I c.hm ?_)
  refine wpAny_pure ?_
  show wpAny _ _ (handedOut (.ref D)) _ _ _
  rw [handedOut_of (v := .ref D) (by rfl)]
  first
    | exact wpAny_pure (wpAny_bind (wpAny_pure (wpAny_pure h)))
    | exact wpAny_pure (wpAny_pure h)
    | exact wpAny_pure h
theorem kit_excD (c : Asks K D) : KitX K (.ref x) (.ref D) (fun h => InstAt h x ox D (some od)) where
  ty := fun _ _ _ i => i.type
  it := fun m h X' i => by
    obtain ⟨cd, hc, _⟩ := any_some c.hd
    unfold clsIn at hc
    split at hc
    next c' d' cd' sl' ho =>
      intro A' Q' E' s' k q
      unfold isType loadHead
      refine wpAny_bind (wpAny_loadPart (k _ _ (X' _ _ ho)) ?_)
      exact wpAny_pure q
    next => cases hc
  ne := fun h tp dd its n sl X' htp => by
    obtain ⟨cd, hc, _⟩ := any_some c.hd
    refine Bool.eq_false_iff.mpr fun q => ?_
    obtain rfl : D = tp := Value.ref.inj (beq_iff_eq.mp q)
    unfold clsIn at hc
    split at hc
    next c' d' cd' sl' ho => cases (X' _ _ ho).symm.trans htp
    next => cases hc
  ca := fun X' i q => excD_class c X' i q
end
end XR
namespace XR
open PySem PySem.Spec PyProof.Rows L2
/-! ### a caught error, pinned: isinstance, fields -/
section
variable {X : Cx} {a : Addr} {oe : Obj} {cls : Value} {d : Option Addr}
theorem pinned_inst {pins : List (Addr × Obj)} {s : Shared} {σ : L2.St} {H : Hp} {D dd : Addr} {fs : List (Str × V)}
    (hp : (a, oe) ∈ X.pn) (hz : Zc (.ref D) (some dd) oe) (hf : ∃ vs, oe.data = .fields vs) (I : Inv X pins σ H s)
    (e : H dd = some (.xd fs)) : ∃ od, PySem.W.InstAt s.heap a oe D (some od) ∧ ∃ mA : Str → Option Value,
      (∀ n, PySem.W.lookIn n od = some (mA n)) ∧ ∀ n, RelO (fs.lookup n) (mA n) := by
  have at_ := (I.pin (a, oe) (List.mem_append_left _ hp)).1
  obtain ⟨vs, hv⟩ := hf
  have ok : ObjOk X.prog X.w H s.heap dd (.xd fs) := I.hok dd _ e
  obtain ⟨mA, hns, rel⟩ := ok
  obtain ⟨od, ho, hl⟩ := lookIn_ns hns
  refine ⟨od, ⟨at_, hz.1, ?_, ?_⟩, mA, hl, rel⟩
  · unfold PySem.W.notCls
    rw [hv] <;> rfl
  · rw [hz.2]
    exact ho
def rIsP (K : PySem.W.Frag) (cls : Value) (d : Option Addr) (a : Addr) : List V → Hp → VK → Prop := fun xs H Q =>
  ∃ (D dd : Addr) (fs : List (Str × V)) (c : V) (cv : Value) (b : Bool), cls = .ref D ∧ d = some dd ∧ H dd = some (.xd fs) ∧
    Asks K D ∧ xs = [.ref a, c] ∧ ClsV c cv ∧ PySem.W.kitOne K (.ref D) cv = some b ∧ Q (.bl b) H
def rIsPT (K : PySem.W.Frag) (cls : Value) (d : Option Addr) (a : Addr) : List V → Hp → VK → Prop := fun xs H Q =>
  ∃ (D dd tp : Addr) (fs : List (Str × V)) (cs : List V) (us : List Value) (b : Bool), cls = .ref D ∧ d = some dd ∧ H dd = some (.xd fs) ∧
    Asks K D ∧ xs = [.ref a, .ref tp] ∧ H tp = some (.tup cs) ∧ Paired ClsV cs us ∧ PySem.W.kitAny K (.ref D) us = some b ∧ Q (.bl b) H
theorem call_isP (hp : (a, oe) ∈ X.pn) (hz : Zc cls d oe) (hf : ∃ vs, oe.data = .fields vs) :
    CallR X (.builtin "isinstance") (rIsP X.K cls d a) := by
  intro pins s σ H xs us Q I r h
  obtain ⟨D, dd, fs, c, cv, b, rfl, rfl, e, as, rfl, kc, ek, q⟩ := h
  obtain ⟨u1, u2, rfl, r1, r2⟩ := vals2 r
  obtain rfl : u1 = Value.ref a := r1
  obtain rfl := kc.eq r2
  obtain ⟨od, J, _⟩ := pinned_inst hp hz hf I e
  exact PySem.W.kia_one (kit_excD as) I.kIn J ek (fun z => nomatch z) fun tk => ⟨.bl b, H, I.tok tk, rfl, q⟩
theorem call_isPT (hp : (a, oe) ∈ X.pn) (hz : Zc cls d oe) (hf : ∃ vs, oe.data = .fields vs) :
    CallR X (.builtin "isinstance") (rIsPT X.K cls d a) := by
  intro pins s σ H xs us Q I r h
  obtain ⟨D, dd, tp, fs, cs, ws, b, rfl, rfl, e, as, rfl, hT, kc, ek, q⟩ := h
  obtain ⟨u1, u2, rfl, r1, r2⟩ := vals2 r
  obtain rfl : u1 = Value.ref a := r1
  obtain rfl : u2 = Value.ref tp := r2
  obtain ⟨od, J, _⟩ := pinned_inst hp hz hf I e
  have okT : ObjOk X.prog X.w H s.heap tp (.tup cs) := I.hok tp _ hT
  obtain ⟨_, its, rv, ⟨oc, od2, dt, sl⟩, h1, h2, n, h3⟩ := okT
  dsimp only at h2 h3
  subst h2 h3
  obtain rfl := ClsV.all kc rv
  exact PySem.W.kia_tup (kit_excD as) I.kIn J h1 ek (fun z => nomatch z) fun tk => ⟨.bl b, H, I.tok tk, rfl, q⟩
/-- e.n, e the pinned error -/
def tPf (K : PySem.W.Frag) (a : Addr) (cls : Value) (d : Option Addr) (n : Str) (te : TE) : TE := fun σ H Q => te σ H fun x H1 =>
  ∃ (D dd : Addr) (fs : List (Str × V)) (v : V), x = .ref a ∧ cls = .ref D ∧ d = some dd ∧ H1 dd = some (.xd fs) ∧ XfC K D ∧
    PySem.W.findIn K (.ref D) n = some none ∧ fs.lookup n = some v ∧ Q v H1
theorem pe_pf {e : Expr} {te : TE} {pos : Pos} {n : Str} (hp : (a, oe) ∈ X.pn) (hz : Zc cls d oe) (hf : ∃ vs, oe.data = .fields vs) (he : PE X e te)
    (hb : attributeBase e n X.env (eval e X.env) = eval e X.env := by rfl) : PE X (.Attribute e n pos) (tPf X.K a cls d n te) := by
  refine ⟨fun pins s σ H Q I h => attr_of hb (thn (he.run pins s σ H _ I h) fun u s1 z => ?_)⟩
  obtain ⟨x, H1, I1, rx, D, dd, fs, v, rfl, rfl, rfl, ea, xf, hno, l, q⟩ := z
  obtain rfl : u = Value.ref a := rx
  obtain ⟨od, J, mA, hl, rel⟩ := pinned_inst hp hz hf I1 ea
  have rn := rel n
  rw [l] at rn
  obtain ⟨u, hu, ru⟩ := RelO.some_of rn
  refine HandSPX.exc_get I1.kIn J xf.ga xf.gg xf.exC (PySem.W.findObj_own xf.hdC hno rfl ?_) (handed_of ru) ⟨v, H1, I1.tok _, ru, q⟩
  rw [hl, hu]
end
/-! ### a def called while an error is handled: it raises nothing itself -/
abbrev SpQ := Addr × Obj → Sp
structure FnQ (P : Program) (w : World) (K : PySem.W.Frag) (mg : Str → Option Value) (base : Heap) (k : Nat) (f : Addr) (fd : FuncData) (ps : List Str) (sp : SpQ) : Prop where
  len : ∀ p vs H Q E, sp p vs H Q E → vs.length = ps.length
  run : ∀ (A : Around) (outer : List Env) (s : Shared) (H : Hp) (args : Args) (us : List Value) (vs : List V) (Q : VK) (p : Addr × Obj),
    L2H.RoomH k A → L2H.PinOk outer H s p → Env0 P w K mg base A outer s H → BindsTo s fd args (ps.zip us) → Vals vs us → sp p vs H Q E0 →
    codeAny (model P w) A (.call (.ref f) args) (CR CX0 outer P w H s Q E0) s
section
variable {P : Program} {w : World} {K : PySem.W.Frag} {mg : Str → Option Value} {base : Heap}
theorem okQ {x qual : Str} {st : Stmt} {f : Addr} {fd : FuncData} {N ps : List Str} {k : Nat} {sp : SpQ} (F : Fun K x qual st f fd) (S : FnScope N ps (defScope st))
    (len : ∀ p vs H Q E, sp p vs H Q E → vs.length = ps.length)
    (body : ∀ (cdv : Value) (A : Around) (outer : List Env) (s : Shared) (H : Hp) (vs : List V) (Q : VK) (p : Addr × Obj),
      L2H.RoomH k (A.deeper (envOfC qual (defScope st) s.heap.objs.size f cdv)) → sp p vs H Q E0 →
      ∃ t, PSs (L2H.cxH CX0 P w K mg base N qual (defScope st) f cdv A outer s H E0 p).nox (defBody st) t ∧
        t { nx := fun _ H' => Q .non H', rt := Q } (start N vs) H) : FnQ P w K mg base (k + 1) f fd ps sp := by
  obtain ⟨oc, od, kV, doc, pm, an, cdv, ct, osl, rfl, lk, hcd⟩ := F.ex
  refine ⟨len, fun A outer s H args us vs Q p hr pin e0 hb r hsp => ?_⟩
  have hl := len _ _ _ _ _ hsp
  have old : ∀ b o, base.get? b = some o → s.heap.get? b = some o := fun b o e => (e0.bs b o e).1
  have KX : K.In s.heap := e0.mod.kin.keeps old
  have lim : s.heap.NoLimit := e0.mod.nolimit.keeps old
  have kinds : ∀ y ∈ ps.zip us, (defScope st).names.lookup y.1 = some .local ∨
      ((defScope st).names.lookup y.1 = some .cell ∧ ((cellsFrom (s.heap.objs.size + 1) (defScope st).names []).lookup y.1).isSome = true) := by
    rintro ⟨n, v⟩ hy
    refine (S.par n (List.of_mem_zip hy).1).imp (fun q => q) fun q => ⟨q, ?_⟩
    exact PySem.W.cellsFrom_some _ _ _ (.inl q)
  refine codeAny_call_function hr.depth (KX _ _ lk) rfl S.co S.gen rfl (PySem.W.codeRec_of KX hcd) (hb _ _ _ _ ?_)
  refine wpAny_newFunctionEnv_cells S.kind kinds fun env he s1 x => ?_
  subst he
  refine ⟨lim.keeps x.toInCall.keep, codeAny_func ?_⟩
  obtain ⟨t, ht, hq⟩ := body cdv A outer s H vs Q p (hr.deeper _) hsp
  have I := L2H.inv_startH (CX := CX0) (E := E0) (cd := cdv) (qual := qual) S pin e0 hl r x
  have run := (PSs.nox ht).run [] s1 (start N vs) H _ I hq
  have out : ∀ {σ' : L2.St} {H' : Hp} {v : V} {u : Value} {s' : Shared},
      Inv (L2H.cxH CX0 P w K mg base N qual (defScope st) f cdv A outer s H E0 p) [] σ' H' s' → RelV v u → Q v H' → CE outer P w H s Q u s' :=
    fun J rv q => ⟨_, _, J.os, J.bare, J.base, J.hok, rv, q⟩
  refine wpAny_mono run (fun fl s' z => ?_) fun _ _ z => z
  cases fl with
  | next =>
    obtain ⟨σ', H', J, q⟩ := z
    exact out (v := V.non) (u := Value.none) J rfl q
  | ret u =>
    obtain ⟨v, σ', H', J, rv, q⟩ := z
    exact out J rv q
  | brk => exact z.elim fun _ y => y.elim fun _ y => y.2.elim
  | cont => exact z.elim fun _ y => y.elim fun _ y => y.2.elim
end
section
variable {X : Cx} {k : Nat} {f : Addr} {fd : FuncData} {ps : List Str} {sp : SpQ} {x : Str} {q pos : Pos} {e : Expr} {es : List Expr} {t : TA} {p : Addr × Obj}
def tCallQ (sp : Sp) (t : TA) : TE := fun σ H Q => t σ H fun vs H1 => sp vs H1 Q E0
theorem pe_callQ (F : FnQ X.prog X.w X.K X.mg X.base k f fd ps sp) (hr : L2H.RoomH k X.A) (hp : p ∈ X.pn) (hg : Gl X x) (hm : X.mg x = some (.ref f))
    (hk : PySem.W.keepIn X.K (.ref f) = true) (hb : Binds X.K fd ps []) (ha : PA X (e :: es) t) (hdb : (x == ("__debug__" : Str)) = false := by decide)
    (he : starEach (e :: es) X.env = (false, eval e X.env) :: starEach es X.env := by rfl) (hpl : (backTo pos (starEach es X.env)).any (·.1) = false := by rfl) :
    PE X (.Call (.Name x q) (e :: es) [] pos) (tCallQ (sp p) t) := by
  refine ⟨fun pins s σ H Q I h => wpAny_Call_Name_kw (ld_glob I hg hm ?_ hdb)⟩
  refine PySem.W.callWith_K (h₀ := X.base) I.ok.mod.kin hk (thn (ha.run pos pins s σ H _ I h) fun us s1 z => ?_) he hpl
  obtain ⟨vs, H1, I1, r, hsp⟩ := z
  refine ⟨I1.kIn, ?_⟩
  have hl : us.length = ps.length := r.length.symm.trans (F.len _ _ _ _ _ hsp)
  have b := hb s1 us I1.kIn (by rw [List.append_nil]; exact hl)
  rw [List.append_nil] at b
  obtain ⟨p1, p2, p3, p4, p5⟩ := I1.pin p (List.mem_append_left _ hp)
  have pin : L2H.PinOk X.stack H1 s1 p := ⟨p1, p2, fun hm => (List.mem_cons.mp (I1.stkSub p.1 hm)).elim p3 p4, p5⟩
  refine wpAny_call (codeAny_mono (F.run X.A X.stack s1 H1 ⟨us, []⟩ us vs Q p hr pin I1.env0 b r hsp) fun r s' z => ?_)
  cases r with
  | error e => exact z.elim
  | ok fl =>
    cases fl with
    | ret u => exact I1.after z
    | next => exact z.elim
    | brk => exact z.elim
    | cont => exact z.elim
end
end XR
namespace XR
open PySem PySem.Spec PyProof.Rows L2
/-! ### C(e, ..) where __init__ may raise, the wish told at the caller's slots -/
section
variable {X : Cx} {CX : CXT} {k : Nat} {C f : Addr} {fd : FuncData} {ps : List Str} {sp : Sp} {E : L2.St → XK} {x : Str} {p pos : Pos} {e : Expr} {es : List Expr} {t : TA}
def tMakeS (C : Addr) (sp : Sp) (E : L2.St → XK) (t : TA) : TE := fun σ H Q => t σ H fun vs H1 => ∀ x dx, H1 x = none → H1 dx = none → dx ≠ x →
  sp (.ref x :: vs) (upd (upd H1 dx (.own x)) x (.ins C dx [])) (fun v H2 => v = .non ∧ Q (.ref x) H2) (E σ)
theorem pe_makeS (M : Mk X.K C f) (F : FnOk X.prog X.w X.K X.mg X.base CX k f fd ps sp) (hr : Room (k + 1) X.A) (hg : Gl X x) (hm : X.mg x = some (.ref C)) (hb : Binds X.K fd ps [])
    (hx : ∀ σ, PassesAt CX X σ (E σ)) (ha : PA X (e :: es) t) (hdb : (x == ("__debug__" : Str)) = false := by decide)
    (he : starEach (e :: es) X.env = (false, eval e X.env) :: starEach es X.env := by rfl) (hpl : (backTo pos (starEach es X.env)).any (·.1) = false := by rfl) :
    PE X (.Call (.Name x p) (e :: es) [] pos) (tMakeS C sp E t) := by
  refine ⟨fun pins s σ H Q I h => wpAny_Call_Name_kw (ld_glob I hg hm ?_ hdb)⟩
  refine PySem.W.callWith_K (h₀ := X.base) I.ok.mod.kin M.kp (thn (ha.run pos pins s σ H _ I h) fun us s1 z => ?_) he hpl
  obtain ⟨vs, H1, I1, r, q⟩ := z
  refine ⟨I1.kIn, ?_⟩
  have fr := I1.hok.fresh (a := s1.heap.objs.size) (Nat.le_refl _)
  have fr1 := I1.hok.fresh (a := s1.heap.objs.size + 1) (Nat.le_add_right _ 1)
  have hsp := q (s1.heap.objs.size + 1) s1.heap.objs.size fr1 fr (Nat.ne_of_lt (Nat.lt_succ_self _))
  have I2 := Inv.made (C := C) I1
  have r2 : Vals (V.ref (s1.heap.objs.size + 1) :: vs) (Value.ref (s1.heap.objs.size + 1) :: us) := .cons rfl r
  have hl : (Value.ref (s1.heap.objs.size + 1) :: us).length = ps.length := r2.length.symm.trans (F.len _ _ _ _ hsp)
  have b := hb _ (Value.ref (s1.heap.objs.size + 1) :: us) I2.kIn (by rw [List.append_nil]; exact hl)
  rw [List.append_nil] at b
  have run := F.run _ X.stack _ _ ⟨Value.ref (s1.heap.objs.size + 1) :: us, []⟩ _ _ _ (E σ) (hr.make C us []) (I2.env0.make C us []) b r2 hsp
  refine wpAny_call (make_map (f := f) I1.kIn M.makes M.init (beq_iff_eq.mp M.fn) (codeAny_mono run fun r s' z => ?_))
  cases r with
  | error er => exact hx σ pins _ _ er s' I2 z
  | ok fl =>
    cases fl with
    | ret u =>
      obtain ⟨v, H', I3, rv, ev, q3⟩ := I2.after z
      subst ev
      exact ⟨rv, .ref (s1.heap.objs.size + 1), H', I3, rfl, q3⟩
    | next => exact z.elim
    | brk => exact z.elim
    | cont => exact z.elim
end
end XR
set_option Elab.async false
set_option linter.all false
set_option maxRecDepth 100000
set_option maxHeartbeats 4000000
/-! common lemmas: lists of ints, heaps with one object that changes, errors made and raised -/
namespace XR
open PySem PySem.Spec PyProof.Rows L2
theorem divw {i j : Int} (h : 0 < j) (h2 : j < 2 ^ 63) : CDivW i j := wide_div (b := 63) h (by omega) (by decide) (by decide)
theorem cmul_mod {i j : Int} (h : 0 < j ∧ j < 2 ^ 64) : -(2 ^ 64) < i % j ∧ i % j < 2 ^ 64 := ⟨by have := Int.emod_nonneg i (b := j) (by omega); omega, by have := Int.emod_lt_of_pos i h.1; omega⟩
theorem log_lt {i : Int} (h1 : -(10 ^ 40) < i) (h2 : i < 10 ^ 40) : i.natAbs.log2 < 1920 := by
  have h : i.natAbs < 10 ^ 40 := by omega
  have h3 : (10 : Nat) ^ 40 < 2 ^ 1920 := by decide +kernel
  by_cases z : i.natAbs = 0
  · rw [z]; decide
  · exact (Nat.log2_lt z).mpr (Nat.lt_trans h h3)
/-- a word at which the reading stops (two makers, so that no anonymous one fits) -/
inductive Stop (p : Prop) : Prop where
  | go (h : p)
  | too (h : p)
theorem Stop.out {p : Prop} : Stop p → p
  | .go h => h
  | .too h => h
/-- xs[:n] -/
theorem cutV_take (ns : List Int) (n : Nat) : cutV (ns.map V.int) none (some (n : Int)) = (ns.take n).map V.int := by
  unfold cutV
  have e0 : HT.sIx (ns.map V.int).length 0 none = 0 := rfl
  have e1 : HT.sIx (ns.map V.int).length (ns.map V.int).length (some (n : Int)) = min n (ns.map V.int).length := by
    unfold HT.sIx
    simp
    omega
  rw [e0, e1]
  simp [List.map_take]
theorem get_int {ms : List Int} {i : Nat} {x : V} (h : (ms.map V.int)[i]? = some x) : ∃ z, ms[i]? = some z ∧ x = .int z := by
  rw [List.getElem?_map] at h
  cases e : ms[i]? with
  | none => rw [e] at h; cases h
  | some z => rw [e] at h; exact ⟨z, rfl, (Option.some.inj h).symm⟩
theorem take_one {α : Type} {ms : List α} {i : Nat} {z : α} (h : ms[i]? = some z) : ms.take (i + 1) = ms.take i ++ [z] := by
  rw [List.take_succ, h] <;> rfl
theorem ne_fresh {H : Hp} {a b : Addr} {o : HO} (h : H b = none) (e : H a = some o) : a ≠ b := ne_of_none e h
theorem empty_app (x : Str) : Str.empty ++ x = x := by
  cases x with
  | mk a =>
    show (⟨#[] ++ a⟩ : Str) = ⟨a⟩
    simp
theorem max_if (a c : Int) : (if c > a then c else a) = max a c := by omega
theorem min_if (a c : Int) : (if c < a then c else a) = min a c := by omega
theorem at_ints {cs : List Int} {i : Int} (h0 : 0 ≤ i) (h : i < ((cs.map V.int).length : Nat)) : ∃ z, atI (cs.map V.int) i = some (.int z) := by
  have hl : i.toNat < cs.length := by rw [List.length_map] at h; omega
  refine ⟨cs[i.toNat], at_of (j := i.toNat) (by omega) ?_⟩
  rw [List.getElem?_map, List.getElem?_eq_getElem hl] <;> rfl
/-- the item at a drawn place of a written list -/
theorem at_lt {α : Type} {xs : List α} {i : Int} (h0 : 0 ≤ i) (h : i < (xs.length : Int)) : ∃ x, atI xs i = some x ∧ x ∈ xs := by
  have hl : i.toNat < xs.length := by omega
  refine ⟨xs[i.toNat], ?_, List.getElem_mem hl⟩
  have e := atI_nat (List.getElem?_eq_getElem hl)
  rw [show ((i.toNat : Nat) : Int) = i by omega] at e
  exact e
/-- all but b stands as it stood -/
def ExB (b : Addr) (H H' : Hp) : Prop := ∀ a o, a ≠ b → H a = some o → H' a = some o
theorem ExB.refl {b : Addr} {H : Hp} : ExB b H H := fun _ _ _ e => e
theorem ExB.trans {b : Addr} {H H1 H2 : Hp} (x : ExB b H H1) (y : ExB b H1 H2) : ExB b H H2 := fun a o n e => y a o n (x a o n e)
theorem ExB.same {b : Addr} {H H1 H2 : Hp} (x : ExB b H H1) (y : Same H1 H2) : ExB b H H2 := fun a o n e => y a o (x a o n e)
theorem ExB.of {b : Addr} {H H1 : Hp} (y : Same H H1) : ExB b H H1 := fun a o _ e => y a o e
theorem ExB.upd {b : Addr} {H H' : Hp} {o : HO} (x : ExB b H H') : ExB b H (upd H' b o) := fun a u ha e => by rw [upd_ne ha]; exact x a u ha e
theorem Same.new {H H' : Hp} {p : Addr} {o : HO} (x : Same H H') (h : H' p = none) : Same H (upd H' p o) := fun a u e => by
  have q := x a u e
  rw [upd_ne (ne_of_none q h)]
  exact q
theorem ExB.new {b : Addr} {H H' : Hp} {p : Addr} {o : HO} (x : ExB b H H') (h : H' p = none) : ExB b H (L2.upd H' p o) := fun a u n e => by
  have q := x a u n e
  rw [upd_ne (ne_of_none q h)]
  exact q
/-- nothing stands at p behind either -/
theorem none_back {H H' : Hp} {p : Addr} (x : Same H H') (h : H' p = none) : H p = none := Same.free x h
theorem none_backB {b : Addr} {H H' : Hp} {p : Addr} (x : ExB b H H') (n : p ≠ b) (h : H' p = none) : H p = none := by
  cases e : H p with
  | none => rfl
  | some o => rw [x p o n e] at h; cases h

theorem hot_of {A : Around} {k : Nat} {v : Option Value} (r : Room k A) : L2H.RoomH k (A.mark v) := ⟨r.dp, r.un⟩
/-! ### an error of the program with fields: made, raised -/
/-- what its __init__ leaves -/
def spEx (C : Addr) (fs : List V → Option (List (Str × V))) : Sp := fun vs H Q _ => ∃ (a : Addr) (ws : List V) (l : List (Str × V)), vs = .ref a :: ws ∧ fs ws = some l ∧
  H a = some (exo a C none) ∧ ∀ d H', H d = none → d ≠ a → H' a = some (exo a C (some d)) → H' d = some (exd d l) → (∀ q o, q ≠ a → H q = some o → H' q = some o) → Q .non H'
/-- the wish of what is raised: an error of the class at C with these fields, all else as it stood -/
def Wish (C : Addr) (l : List (Str × V)) (H : Hp) (E : Value → Option Addr → Hp → Prop) : Prop := ∀ d H', H' d = some (.xd l) → Same H H' → E (.ref C) (some d) H'
theorem mk_ex {C : Addr} {fs : List V → Option (List (Str × V))} {vs : List V} {l : List (Str × V)} {H : Hp} {E : XK} (hl : vs.length ≤ 1000) (hf : fs vs = some l) (k : Wish C l H E) :
    vs.length ≤ 1000 ∧ ∀ a, H a = none → spEx C fs (.ref a :: (vs ++ [])) (upd H a (exo a C none))
      (fun v H2 => v = .non ∧ ∃ (d : Addr) (g : List (Str × V)), H2 a = some (exo a C (some d)) ∧ H2 d = some (exd d g) ∧ H d = none ∧ E (.ref C) (some d) (upd (del H2 a) d (.xd g))) (fun _ _ _ => False) := by
  refine ⟨hl, fun a ha => ⟨a, vs, l, by rw [List.append_nil], hf, upd_same, fun d H' hd hda ea ed x => ⟨rfl, d, l, ea, ed, ?_, k d _ upd_same fun q o e => ?_⟩⟩⟩
  · rw [upd_ne hda] at hd
    exact hd
  · have hqa : q ≠ a := ne_of_none e ha
    have hqd : q ≠ d := fun z => by
      rw [upd_ne hda] at hd
      rw [z, hd] at e
      cases e
    rw [upd_ne hqd, del_ne hqa]
    refine x q o hqa ?_
    rw [upd_ne hqa]
    exact e
theorem init_ex1 {K : PySem.W.Frag} {C a : Addr} {f : Str} {v : V} {H : Hp} {Q : Hp → Prop} (oc : OexC K C) (hn : PySem.W.findIn K (.ref C) f = some none) (ha : H a = some (exo a C none))
    (k : ∀ d H', H d = none → d ≠ a → H' a = some (exo a C (some d)) → H' d = some (exd d [(f, v)]) → (∀ q o, q ≠ a → H q = some o → H' q = some o) → Q H') :
    ∃ a' C' : Addr, V.ref a = .ref a' ∧ OexC K C' ∧ PySem.W.findIn K (.ref C') f = some none ∧
      ((H a' = some (exo a' C' none) ∧ ∀ dx, H dx = none → dx ≠ a' → Q (upd (upd H dx (exd dx [(f, v)])) a' (exo a' C' (some dx)))) ∨
        ∃ (dx : Addr) (fs : List (Str × V)), H a' = some (exo a' C' (some dx)) ∧ H dx = some (exd dx fs) ∧ fs.length ≤ 900 ∧ Q (upd H dx (exd dx ((f, v) :: fs)))) := by
  refine ⟨a, C, rfl, oc, hn, .inl ⟨ha, fun dx hd hne => k dx _ hd hne upd_same (by rw [upd_ne hne]; exact upd_same) fun q o hq e => ?_⟩⟩
  rw [upd_ne hq, upd_ne (ne_of_none e hd)]
  exact e
theorem init_ex2 {K : PySem.W.Frag} {C a d : Addr} {f : Str} {v : V} {l : List (Str × V)} {H : Hp} {Q : Hp → Prop} (oc : OexC K C) (hn : PySem.W.findIn K (.ref C) f = some none) (hl : l.length ≤ 900)
    (ha : H a = some (exo a C (some d))) (hd : H d = some (exd d l)) (hda : d ≠ a)
    (k : ∀ H', H' a = some (exo a C (some d)) → H' d = some (exd d ((f, v) :: l)) → (∀ q o, q ≠ a → q ≠ d → H q = some o → H' q = some o) → Q H') :
    ∃ a' C' : Addr, V.ref a = .ref a' ∧ OexC K C' ∧ PySem.W.findIn K (.ref C') f = some none ∧
      ((H a' = some (exo a' C' none) ∧ ∀ dx, H dx = none → dx ≠ a' → Q (upd (upd H dx (exd dx [(f, v)])) a' (exo a' C' (some dx)))) ∨
        ∃ (dx : Addr) (fs : List (Str × V)), H a' = some (exo a' C' (some dx)) ∧ H dx = some (exd dx fs) ∧ fs.length ≤ 900 ∧ Q (upd H dx (exd dx ((f, v) :: fs)))) := by
  refine ⟨a, C, rfl, oc, hn, .inr ⟨d, l, ha, hd, hl, k _ (by rw [upd_ne hda.symm]; exact ha) upd_same fun q o _ hq e => by rw [upd_ne hq]; exact e⟩⟩
end XR
namespace XR
open PySem L2
theorem ifF {c : Bool} {P Q : Prop} (h : c = false) (k : Q) : if c = true then P else Q := by rw [h, if_neg (by decide)]; exact k
theorem ifT {c : Bool} {P Q : Prop} (h : c = true) (k : P) : if c = true then P else Q := by rw [if_pos h]; exact k
end XR
namespace XR
open PySem L2
section
variable {X : Cx} {a b : Addr} {oe : Obj} {cls : Value} {d : Option Addr} {pn : List (Addr × Obj)}
theorem call_isPs (hz : Zc cls d oe) (hf : ∃ vs, oe.data = .fields vs) : CallR (X.suite b ((a, oe) :: pn)) (.builtin "isinstance") (rIsP X.K cls d a) := call_isP List.mem_cons_self hz hf
theorem call_isPTs (hz : Zc cls d oe) (hf : ∃ vs, oe.data = .fields vs) : CallR (X.suite b ((a, oe) :: pn)) (.builtin "isinstance") (rIsPT X.K cls d a) := call_isPT List.mem_cons_self hz hf
theorem pe_pfs {e : Expr} {te : TE} {pos : Pos} {n : Str} (hz : Zc cls d oe) (hf : ∃ vs, oe.data = .fields vs) (he : PE (X.suite b ((a, oe) :: pn)) e te)
    (hb : attributeBase e n (X.suite b ((a, oe) :: pn)).env (eval e (X.suite b ((a, oe) :: pn)).env) = eval e (X.suite b ((a, oe) :: pn)).env := by rfl) : PE (X.suite b ((a, oe) :: pn)) (.Attribute e n pos) (tPf X.K a cls d n te) :=
  pe_pf List.mem_cons_self hz hf he hb
theorem pe_callQs {k : Nat} {f : Addr} {fd : FuncData} {ps : List Str} {sp : SpQ} {x : Str} {q pos : Pos} {e : Expr} {es : List Expr} {t : TA}
    (F : FnQ (X.suite b ((a, oe) :: pn)).prog (X.suite b ((a, oe) :: pn)).w (X.suite b ((a, oe) :: pn)).K (X.suite b ((a, oe) :: pn)).mg (X.suite b ((a, oe) :: pn)).base k f fd ps sp) (hr : L2H.RoomH k (X.suite b ((a, oe) :: pn)).A) (hg : Gl (X.suite b ((a, oe) :: pn)) x) (hm : (X.suite b ((a, oe) :: pn)).mg x = some (.ref f))
    (hk : PySem.W.keepIn (X.suite b ((a, oe) :: pn)).K (.ref f) = true) (hb : Binds (X.suite b ((a, oe) :: pn)).K fd ps []) (ha : PA (X.suite b ((a, oe) :: pn)) (e :: es) t) (hdb : (x == ("__debug__" : Str)) = false := by decide)
    (he : starEach (e :: es) (X.suite b ((a, oe) :: pn)).env = (false, eval e (X.suite b ((a, oe) :: pn)).env) :: starEach es (X.suite b ((a, oe) :: pn)).env := by rfl) (hpl : (backTo pos (starEach es (X.suite b ((a, oe) :: pn)).env)).any (·.1) = false := by rfl) :
    PE (X.suite b ((a, oe) :: pn)) (.Call (.Name x q) (e :: es) [] pos) (tCallQ (sp (a, oe)) t) := pe_callQ (p := (a, oe)) F hr List.mem_cons_self hg hm hk hb ha hdb he hpl
end
end XR
namespace XR
open PySem L2
theorem cong_ts {X : Cx} {ss : List Stmt} {t t' : TS} (h : PSs X ss t) (e : t = t') : PSs X ss t' := e ▸ h
end XR
namespace XR
open PySem L2
theorem kitAny_cons {K : PySem.W.Frag} {t c : Value} {r : List Value} (h : PySem.W.kitOne K t c = some false) (hr : PySem.W.kitAny K t r = some false) : PySem.W.kitAny K t (c :: r) = some false := by
  unfold PySem.W.kitAny
  rw [h]
  exact hr
theorem kitAny_4 {K : PySem.W.Frag} {t a b c d : Value} (h1 : PySem.W.kitOne K t a = some false) (h2 : PySem.W.kitOne K t b = some false) (h3 : PySem.W.kitOne K t c = some false) (h4 : PySem.W.kitOne K t d = some false) : PySem.W.kitAny K t [a, b, c, d] = some false :=
  kitAny_cons h1 (kitAny_cons h2 (kitAny_cons h3 (kitAny_cons h4 rfl)))
end XR
namespace XR
open PySem L2
/-- .. in a comprehension's block -/
theorem ix_listb {X : Cx} {s : Shared} {H : Hp} {sc : Scope} {ce : Env} {fp : List Addr} : IxR (X.blk s H sc ce fp) (rIxL X.K) := ix_list
theorem ix_tupb {X : Cx} {s : Shared} {H : Hp} {sc : Scope} {ce : Env} {fp : List Addr} : IxR (X.blk s H sc ce fp) (rIxT X.K) := ix_tup
end XR
set_option Elab.async false
set_option linter.all false
set_option maxRecDepth 100000
set_option maxHeartbeats 4000000
namespace Toy
open PySem L2 XR
def top (i : Nat) : Stmt := PySem.Challenge.pw_fittingpasts_k00_residue_days.main.body.getD i (.Pass ⟨0, 0, 0, 0⟩)
abbrev s__wall : Stmt := top 1
abbrev s_Disjoint_init : Stmt := inClass (top 7) 0
abbrev s_OutOfRange_init : Stmt := inClass (top 8) 0
abbrev s__inverse : Stmt := top 10
abbrev s_Residue_init : Stmt := inClass (top 11) 0
abbrev s_Residue___eq__ : Stmt := inClass (top 11) 1
abbrev s_Residue___str__ : Stmt := inClass (top 11) 2
abbrev s_Residue___contains__ : Stmt := inClass (top 11) 3
abbrev s_Residue___add__ : Stmt := inClass (top 11) 4
abbrev s_Residue___sub__ : Stmt := inClass (top 11) 5
abbrev s_Residue___neg__ : Stmt := inClass (top 11) 6
abbrev s_Residue___and__ : Stmt := inClass (top 11) 7
abbrev s_Residue_first_from : Stmt := inClass (top 11) 8
abbrev s_Residue_last_until : Stmt := inClass (top 11) 9
abbrev s_Residue_count_in : Stmt := inClass (top 11) 10
abbrev s_Residue_members : Stmt := inClass (top 11) 11
abbrev s_Residue_part_of : Stmt := inClass (top 11) 12
abbrev s_Residue_scaled : Stmt := inClass (top 11) 13
abbrev s_Residue_every : Stmt := inClass (top 11) 14
abbrev s_Residue_meet : Stmt := inClass (top 11) 15
abbrev s__law_box : Stmt := top 13
abbrev s__law_draw : Stmt := top 14
abbrev s__law_is_number : Stmt := top 15
abbrev s__law_size : Stmt := top 16
abbrev s__law_day : Stmt := top 17
abbrev s__law_plan : Stmt := top 18
abbrev s__law_twin : Stmt := top 19
abbrev s__law_is : Stmt := top 20
abbrev s__law_days : Stmt := top 21
abbrev s__law_right : Stmt := top 22
abbrev s__law_one : Stmt := top 23
abbrev s__law_equal : Stmt := top 24
abbrev s__law_refused : Stmt := top 25
abbrev s_law : Stmt := top 26
/-- where the defs and classes of the text stand -/
structure Ad where
  a_Disjoint_init : Addr
  d_Disjoint_init : FuncData
  a_OutOfRange_init : Addr
  d_OutOfRange_init : FuncData
  a__inverse : Addr
  d__inverse : FuncData
  a_Residue_init : Addr
  d_Residue_init : FuncData
  a_Residue___eq__ : Addr
  d_Residue___eq__ : FuncData
  a_Residue___str__ : Addr
  d_Residue___str__ : FuncData
  a_Residue___contains__ : Addr
  d_Residue___contains__ : FuncData
  a_Residue___add__ : Addr
  d_Residue___add__ : FuncData
  a_Residue___sub__ : Addr
  d_Residue___sub__ : FuncData
  a_Residue___neg__ : Addr
  d_Residue___neg__ : FuncData
  a_Residue___and__ : Addr
  d_Residue___and__ : FuncData
  a__law_box : Addr
  d__law_box : FuncData
  a__law_draw : Addr
  d__law_draw : FuncData
  a__law_is_number : Addr
  d__law_is_number : FuncData
  a__law_size : Addr
  d__law_size : FuncData
  a__law_day : Addr
  d__law_day : FuncData
  a__law_plan : Addr
  d__law_plan : FuncData
  a__law_twin : Addr
  d__law_twin : FuncData
  a__law_is : Addr
  d__law_is : FuncData
  a__law_days : Addr
  d__law_days : FuncData
  a__law_right : Addr
  d__law_right : FuncData
  a__law_one : Addr
  d__law_one : FuncData
  a__law_equal : Addr
  d__law_equal : FuncData
  a__law_refused : Addr
  d__law_refused : FuncData
  a_law : Addr
  d_law : FuncData
  c_ArchiveError : Addr
  c_UnknownError : Addr
  c_TextError : Addr
  c_ImpossibleError : Addr
  c_Disjoint : Addr
  c_OutOfRange : Addr
  c_Residue : Addr
structure Txt (K : PySem.W.Frag) (mg : Str → Option Value) (D : Ad) : Prop where
  F_Disjoint_init : Fun K "__init__" "Disjoint.__init__" s_Disjoint_init D.a_Disjoint_init D.d_Disjoint_init
  b_Disjoint_init : Binds K D.d_Disjoint_init ["self", "divisor"] []
  m_Disjoint_init : PySem.W.findIn K (.ref D.c_Disjoint) "__init__" = some (some (.ref D.a_Disjoint_init))
  i_Disjoint_init : PySem.W.isFn K (.ref D.a_Disjoint_init) = true
  F_OutOfRange_init : Fun K "__init__" "OutOfRange.__init__" s_OutOfRange_init D.a_OutOfRange_init D.d_OutOfRange_init
  b_OutOfRange_init : Binds K D.d_OutOfRange_init ["self", "value"] []
  m_OutOfRange_init : PySem.W.findIn K (.ref D.c_OutOfRange) "__init__" = some (some (.ref D.a_OutOfRange_init))
  i_OutOfRange_init : PySem.W.isFn K (.ref D.a_OutOfRange_init) = true
  F__inverse : Fun K "_inverse" "_inverse" s__inverse D.a__inverse D.d__inverse
  b__inverse : Binds K D.d__inverse ["number", "length"] []
  g__inverse : mg "_inverse" = some (.ref D.a__inverse)
  F_Residue_init : Fun K "__init__" "Residue.__init__" s_Residue_init D.a_Residue_init D.d_Residue_init
  b_Residue_init : Binds K D.d_Residue_init ["self", "place", "length"] []
  m_Residue_init : PySem.W.findIn K (.ref D.c_Residue) "__init__" = some (some (.ref D.a_Residue_init))
  i_Residue_init : PySem.W.isFn K (.ref D.a_Residue_init) = true
  F_Residue___eq__ : Fun K "__eq__" "Residue.__eq__" s_Residue___eq__ D.a_Residue___eq__ D.d_Residue___eq__
  b_Residue___eq__ : Binds K D.d_Residue___eq__ ["self", "other"] []
  m_Residue___eq__ : PySem.W.findIn K (.ref D.c_Residue) "__eq__" = some (some (.ref D.a_Residue___eq__))
  i_Residue___eq__ : PySem.W.isFn K (.ref D.a_Residue___eq__) = true
  F_Residue___str__ : Fun K "__str__" "Residue.__str__" s_Residue___str__ D.a_Residue___str__ D.d_Residue___str__
  b_Residue___str__ : Binds K D.d_Residue___str__ ["self"] []
  m_Residue___str__ : PySem.W.findIn K (.ref D.c_Residue) "__str__" = some (some (.ref D.a_Residue___str__))
  i_Residue___str__ : PySem.W.isFn K (.ref D.a_Residue___str__) = true
  F_Residue___contains__ : Fun K "__contains__" "Residue.__contains__" s_Residue___contains__ D.a_Residue___contains__ D.d_Residue___contains__
  b_Residue___contains__ : Binds K D.d_Residue___contains__ ["self", "day"] []
  m_Residue___contains__ : PySem.W.findIn K (.ref D.c_Residue) "__contains__" = some (some (.ref D.a_Residue___contains__))
  i_Residue___contains__ : PySem.W.isFn K (.ref D.a_Residue___contains__) = true
  F_Residue___add__ : Fun K "__add__" "Residue.__add__" s_Residue___add__ D.a_Residue___add__ D.d_Residue___add__
  b_Residue___add__ : Binds K D.d_Residue___add__ ["self", "many"] []
  m_Residue___add__ : PySem.W.findIn K (.ref D.c_Residue) "__add__" = some (some (.ref D.a_Residue___add__))
  i_Residue___add__ : PySem.W.isFn K (.ref D.a_Residue___add__) = true
  F_Residue___sub__ : Fun K "__sub__" "Residue.__sub__" s_Residue___sub__ D.a_Residue___sub__ D.d_Residue___sub__
  b_Residue___sub__ : Binds K D.d_Residue___sub__ ["self", "many"] []
  m_Residue___sub__ : PySem.W.findIn K (.ref D.c_Residue) "__sub__" = some (some (.ref D.a_Residue___sub__))
  i_Residue___sub__ : PySem.W.isFn K (.ref D.a_Residue___sub__) = true
  F_Residue___neg__ : Fun K "__neg__" "Residue.__neg__" s_Residue___neg__ D.a_Residue___neg__ D.d_Residue___neg__
  b_Residue___neg__ : Binds K D.d_Residue___neg__ ["self"] []
  m_Residue___neg__ : PySem.W.findIn K (.ref D.c_Residue) "__neg__" = some (some (.ref D.a_Residue___neg__))
  i_Residue___neg__ : PySem.W.isFn K (.ref D.a_Residue___neg__) = true
  F_Residue___and__ : Fun K "__and__" "Residue.__and__" s_Residue___and__ D.a_Residue___and__ D.d_Residue___and__
  b_Residue___and__ : Binds K D.d_Residue___and__ ["self", "other"] []
  m_Residue___and__ : PySem.W.findIn K (.ref D.c_Residue) "__and__" = some (some (.ref D.a_Residue___and__))
  i_Residue___and__ : PySem.W.isFn K (.ref D.a_Residue___and__) = true
  F__law_box : Fun K "_law_box" "_law_box" s__law_box D.a__law_box D.d__law_box
  b__law_box : Binds K D.d__law_box ["_law_script"] []
  g__law_box : mg "_law_box" = some (.ref D.a__law_box)
  F__law_draw : Fun K "_law_draw" "_law_draw" s__law_draw D.a__law_draw D.d__law_draw
  b__law_draw : Binds K D.d__law_draw ["_law_box_here", "_law_size_here"] []
  g__law_draw : mg "_law_draw" = some (.ref D.a__law_draw)
  F__law_is_number : Fun K "_law_is_number" "_law_is_number" s__law_is_number D.a__law_is_number D.d__law_is_number
  b__law_is_number : Binds K D.d__law_is_number ["_law_value"] []
  g__law_is_number : mg "_law_is_number" = some (.ref D.a__law_is_number)
  F__law_size : Fun K "_law_size" "_law_size" s__law_size D.a__law_size D.d__law_size
  b__law_size : Binds K D.d__law_size ["_law_box_here"] []
  g__law_size : mg "_law_size" = some (.ref D.a__law_size)
  F__law_day : Fun K "_law_day" "_law_day" s__law_day D.a__law_day D.d__law_day
  b__law_day : Binds K D.d__law_day ["_law_box_here"] []
  g__law_day : mg "_law_day" = some (.ref D.a__law_day)
  F__law_plan : Fun K "_law_plan" "_law_plan" s__law_plan D.a__law_plan D.d__law_plan
  b__law_plan : Binds K D.d__law_plan ["_law_box_here"] []
  g__law_plan : mg "_law_plan" = some (.ref D.a__law_plan)
  F__law_twin : Fun K "_law_twin" "_law_twin" s__law_twin D.a__law_twin D.d__law_twin
  b__law_twin : Binds K D.d__law_twin ["_law_box_here", "_law_plan_here", "_law_other"] []
  g__law_twin : mg "_law_twin" = some (.ref D.a__law_twin)
  F__law_is : Fun K "_law_is" "_law_is" s__law_is D.a__law_is D.d__law_is
  b__law_is : Binds K D.d__law_is ["_law_residue", "_law_spot", "_law_size_here"] []
  g__law_is : mg "_law_is" = some (.ref D.a__law_is)
  F__law_days : Fun K "_law_days" "_law_days" s__law_days D.a__law_days D.d__law_days
  b__law_days : Binds K D.d__law_days ["_law_residue", "_law_spot", "_law_size_here", "_law_near"] []
  g__law_days : mg "_law_days" = some (.ref D.a__law_days)
  F__law_right : Fun K "_law_right" "_law_right" s__law_right D.a__law_right D.d__law_right
  b__law_right : Binds K D.d__law_right ["_law_residue", "_law_spot", "_law_size_here", "_law_near"] []
  g__law_right : mg "_law_right" = some (.ref D.a__law_right)
  F__law_one : Fun K "_law_one" "_law_one" s__law_one D.a__law_one D.d__law_one
  b__law_one : Binds K D.d__law_one ["_law_residue", "_law_plan_here"] []
  g__law_one : mg "_law_one" = some (.ref D.a__law_one)
  F__law_equal : Fun K "_law_equal" "_law_equal" s__law_equal D.a__law_equal D.d__law_equal
  b__law_equal : Binds K D.d__law_equal ["_law_residue", "_law_plan_here"] []
  g__law_equal : mg "_law_equal" = some (.ref D.a__law_equal)
  F__law_refused : Fun K "_law_refused" "_law_refused" s__law_refused D.a__law_refused D.d__law_refused
  b__law_refused : Binds K D.d__law_refused ["_law_day_here", "_law_size_here"] []
  g__law_refused : mg "_law_refused" = some (.ref D.a__law_refused)
  F_law : Fun K "law" "law" s_law D.a_law D.d_law
  b_law : Binds K D.d_law ["_law_script"] []
  g_law : mg "law" = some (.ref D.a_law)
  g_ArchiveError : mg "ArchiveError" = some (.ref D.c_ArchiveError)
  k_ArchiveError : PySem.W.keepIn K (.ref D.c_ArchiveError) = true
  g_UnknownError : mg "UnknownError" = some (.ref D.c_UnknownError)
  k_UnknownError : PySem.W.keepIn K (.ref D.c_UnknownError) = true
  g_TextError : mg "TextError" = some (.ref D.c_TextError)
  k_TextError : PySem.W.keepIn K (.ref D.c_TextError) = true
  g_ImpossibleError : mg "ImpossibleError" = some (.ref D.c_ImpossibleError)
  k_ImpossibleError : PySem.W.keepIn K (.ref D.c_ImpossibleError) = true
  g_Disjoint : mg "Disjoint" = some (.ref D.c_Disjoint)
  k_Disjoint : PySem.W.keepIn K (.ref D.c_Disjoint) = true
  g_OutOfRange : mg "OutOfRange" = some (.ref D.c_OutOfRange)
  k_OutOfRange : PySem.W.keepIn K (.ref D.c_OutOfRange) = true
  g_Residue : mg "Residue" = some (.ref D.c_Residue)
  k_Residue : PySem.W.keepIn K (.ref D.c_Residue) = true
  n_ValueError : mg "ValueError" = none
  n_abs : mg "abs" = none
  n_bool : mg "bool" = none
  n_int : mg "int" = none
  n_isinstance : mg "isinstance" = none
  n_len : mg "len" = none
  n_min : mg "min" = none
  n_range : mg "range" = none
  n_str : mg "str" = none
  oxl_OutOfRange : ∃ nm q N bs bm sn sub ab col dd k0 k1 k2 k3 k5, K.lookup D.c_OutOfRange = some (excClassObj nm q D.c_OutOfRange N bs bm true sn sub ab col dd k0 k1 k2 k3 k5 "ValueError.__new__") ∧ PySem.HandSPX.refsVE bm = true
  xsa_OutOfRange : PySem.W.findIn K (.ref D.c_OutOfRange) "__setattr__" = some (some (.builtin "object.__setattr__"))
  xga_OutOfRange : PySem.W.findIn K (.ref D.c_OutOfRange) "__getattribute__" = some (some (.builtin "BaseException.__getattribute__"))
  xgg_OutOfRange : PySem.W.findIn K (.ref D.c_OutOfRange) "__getattr__" = some none
  xbe_OutOfRange : PySem.W.subIn K (.ref D.c_OutOfRange) (.type "BaseException") = some true
  xty_OutOfRange : PySem.W.typeIn K (.ref D.c_OutOfRange) = some (.type "type")
  xhd_OutOfRange : PySem.W.hasDictIn K D.c_OutOfRange = true
  xca_OutOfRange : PySem.W.findIn K (.ref D.c_OutOfRange) "__class__" = some (some (.builtin "object.__class__"))
  xmo_OutOfRange : PySem.W.mroIn K D.c_OutOfRange (.type "object") = some true
  xti_OutOfRange : PySem.W.typeIn K (.ref D.a_OutOfRange_init) = some (.type "function")
  cn_ : PySem.W.specialIn K (.builtin "object.__class__") "__get__" = some (some (.builtin "getset_descriptor.__get__"))
  ct_ : PySem.W.takesIn K (.builtin "object.__class__") = some true
  ymk_Residue : PySem.W.makesIn K D.c_Residue = true
  ypg_Residue : PySem.W.plainGet K D.c_Residue Str.empty = true
  yhd_Residue : PySem.W.hasDictIn K D.c_Residue = true
  ypo_Residue : PySem.W.plainOver K D.c_Residue = true
  ysa_Residue : PySem.W.findIn K (.ref D.c_Residue) "__setattr__" = some (some (.builtin "object.__setattr__"))
  ysf_Residue : PySem.W.selfFirst K D.c_Residue = true
  yca_Residue : PySem.W.findIn K (.ref D.c_Residue) "__class__" = some (some (.builtin "object.__class__"))
  ymo_Residue : PySem.W.mroIn K D.c_Residue (.type "object") = some true
  no_place : PySem.W.findIn K (.ref D.c_Residue) "place" = some none
  no_length : PySem.W.findIn K (.ref D.c_Residue) "length" = some none
  e_value : PySem.W.findIn K (.ref D.c_OutOfRange) "value" = some none
  ne_ : PySem.W.findIn K (.ref D.c_Residue) "__ne__" = some (some (.builtin "object.__ne__"))
  h_add : PySem.W.findIn K (.ref D.c_Residue) (PySem.dunder Operator.Add.info.2) = some (some (.ref D.a_Residue___add__))
  h_sub : PySem.W.findIn K (.ref D.c_Residue) (PySem.dunder Operator.Sub.info.2) = some (some (.ref D.a_Residue___sub__))
  r_add : PySem.W.findIn K (.ref D.c_Residue) (PySem.dunderR Operator.Add.info.2) = some none
  r_sub : PySem.W.findIn K (.ref D.c_Residue) (PySem.dunderR Operator.Sub.info.2) = some none
  i_add : ∃ (fo : Option Value), PySem.W.findIn K (.type "int") (PySem.dunder Operator.Add.info.2) = some fo
  j_add : ∃ (fo : Option Value), PySem.W.findIn K (.type "int") (PySem.dunderR Operator.Add.info.2) = some fo
  i_sub : ∃ (fo : Option Value), PySem.W.findIn K (.type "int") (PySem.dunder Operator.Sub.info.2) = some fo
  j_sub : ∃ (fo : Option Value), PySem.W.findIn K (.type "int") (PySem.dunderR Operator.Sub.info.2) = some fo
  s_int : PySem.W.subIn K (.type "int") (.ref D.c_Residue) = some false
  z_Residue : PySem.W.kitOne K (.ref D.c_Residue) (.ref D.c_Residue) = some true
  z_oU : PySem.W.kitOne K (.ref D.c_OutOfRange) (.ref D.c_UnknownError) = some false
  z_oT : PySem.W.kitOne K (.ref D.c_OutOfRange) (.ref D.c_TextError) = some false
  z_oI : PySem.W.kitOne K (.ref D.c_OutOfRange) (.ref D.c_ImpossibleError) = some false
  z_oO : PySem.W.kitOne K (.ref D.c_OutOfRange) (.ref D.c_OutOfRange) = some true
  z_oV : PySem.W.kitOne K (.ref D.c_OutOfRange) (.type "ValueError") = some true
  m_oa : PySem.W.exmOne K (.ref D.c_OutOfRange) (.ref D.c_ArchiveError) = some true
section
variable {K : PySem.W.Frag} {mg : Str → Option Value} {D : Ad}
theorem T_cl_Residue (T : Txt K mg D) : Cls K D.c_Residue := ⟨T.ypg_Residue, T.yhd_Residue, T.ypo_Residue, T.ysa_Residue⟩
theorem T_mk_Residue (T : Txt K mg D) : Mk K D.c_Residue D.a_Residue_init := ⟨T.ymk_Residue, T.m_Residue_init, T.i_Residue_init, T.k_Residue⟩
theorem T_ty_Residue (T : Txt K mg D) {H : Hp} {a dx : Addr} {fs : List (Str × V)} (e : H a = some (.ins D.c_Residue dx fs)) : TyX K H (.ref a) (.ref D.c_Residue) := .base (.ins e (T_cl_Residue T) T.yca_Residue T.cn_ T.ct_ T.ymo_Residue)
theorem T_ox_OutOfRange (T : Txt K mg D) : OexC K D.c_OutOfRange := ⟨T.oxl_OutOfRange, T.xsa_OutOfRange, T.xbe_OutOfRange, T.xty_OutOfRange, T.k_OutOfRange⟩
theorem T_as_OutOfRange (T : Txt K mg D) : XR.Asks K D.c_OutOfRange := ⟨T.xga_OutOfRange, T.xgg_OutOfRange, T.xbe_OutOfRange, T.xhd_OutOfRange, T.xca_OutOfRange, T.cn_, T.ct_, T.xmo_OutOfRange⟩
theorem T_xf_OutOfRange (T : Txt K mg D) : XfC K D.c_OutOfRange := ⟨T.xga_OutOfRange, T.xgg_OutOfRange, T.xbe_OutOfRange, T.xhd_OutOfRange⟩
end

local macro_rules | `(tactic| walk_at "ne") => `(tactic| first | assumption | (apply Ne.symm; assumption) | exact XR.ne_fresh (by assumption) (by walk_at "hp") | exact Ne.symm (XR.ne_fresh (by assumption) (by walk_at "hp")))
local macro_rules | `(tactic| walk_at "hp") => `(tactic| first | assumption | exact upd_same | (refine Eq.trans (upd_ne ?_) ?_; (walk_at "ne"); walk_at "hp"))
local macro_rules | `(tactic| walk_at "sq") => `(tactic| first | walk_at "hp" | exact SqL.of (by walk_at "hp") | exact SqT.of (by walk_at "hp"))
local macro_rules | `(tactic| walk_at "br") => `(tactic| (refine ite2 ?_ ?_ <;> intro hbr <;> (try simp only [decide_eq_true_eq, decide_eq_false_iff_not, V.int.injEq, V.bl.injEq, V.str.injEq, Bool.not_eq_true, Bool.not_eq_eq_eq_not, Bool.not_true, Bool.not_false, ne_eq, Int.reduceToNat, Int.reducePow, Int.reduceMul, Int.reduceAdd, Int.reduceSub, reduceCtorEq, not_true_eq_false, not_false_eq_true, Int.not_lt, Int.not_le] at hbr)))
local macro_rules | `(tactic| walk_at "side") => `(tactic| first
  | exact ⟨by decide, by decide, by decide⟩
  | exact .inl ⟨by decide, by decide⟩
  | exact .inr ⟨by decide, by decide⟩
  | exact XR.divw (by first | decide | omega) (by first | decide | omega)
  | (show (_ : Int) = _; first | rfl | omega)
  | (show (0 : Int) < _; first | decide | assumption | omega)
  | exact .inl ⟨by omega, by omega⟩
  | exact .inr ⟨by omega, by omega⟩
  | exact .inl (XR.cmul_mod (by decide))
  | exact XR.log_lt (by omega) (by omega)
  | decide
  | (rw [sizeLine_eq]; simp; done)
  | (show 2 ≤ sizeLine; decide) | (show 3 ≤ sizeLine; decide) | (show 4 ≤ sizeLine; decide) | (show 5 ≤ sizeLine; decide) | (show 6 ≤ sizeLine; decide) | (show 7 ≤ sizeLine; decide) | (show 1 ≤ sizeLine; decide) | (show 8 ≤ sizeLine; decide) | (show 0 ≤ sizeLine; decide))
local macro_rules | `(tactic| walk_at "rd1") => `(tactic| first
  | refine ⟨_, rfl, ?_⟩
  | refine ⟨_, _, rfl, rfl, ?_⟩
  | refine ⟨_, _, _, _, rfl, rfl, (by walk_at "sq"), rfl, ?_⟩
  | refine ⟨_, _, _, _, rfl, rfl, (by walk_at "hp"), (by walk_at "hp"), (by walk_at "side"), ?_⟩
  | refine ⟨_, _, rfl, .inl (by walk_at "sq"), ?_⟩
  | refine ⟨_, _, rfl, .inr (by walk_at "sq"), ?_⟩
  | refine ⟨_, _, _, _, _, rfl, (by walk_at "hp"), (by walk_at "cls"), (by walk_at "noat"), rfl, ?_⟩
  | refine ⟨rfl, ?_⟩
  | refine And.intro (by walk_at "side") ?_
  | refine .inl ⟨_, rfl, ?_⟩
  | refine And.intro ⟨_, (by walk_at "sq")⟩ ?_
  | refine ⟨_, _, rfl, (by walk_at "sq"), ?_⟩
  | refine ⟨_, _, rfl, ?_⟩
  | refine .inr ⟨_, rfl, (by walk_at "side"), ?_⟩
  | refine iteT ?_
  | refine iteF ?_)
local macro_rules | `(tactic| walk_at "rd") => `(tactic| repeat (walk_at "rd1"))
local macro_rules | `(tactic| walk_at "nn") => `(tactic| (simp only [Int.reduceToNat, Int.reducePow, Int.reduceMul, Int.reduceAdd, Int.reduceSub, Int.reduceNeg]))
local macro_rules | `(tactic| walk_at "dr") => `(tactic| repeat (first | refine And.intro (by first | assumption | walk_at "pre") ?_ | refine And.intro (by first | decide | omega) ?_))

local macro_rules | `(tactic| walk_at "cls") => `(tactic| exact T_cl_Residue (by assumption))
local macro_rules | `(tactic| walk_at "noat") => `(tactic| first | exact Txt.no_place (by assumption) | exact Txt.no_length (by assumption))
section
variable {K : PySem.W.Frag} {mg : Str → Option Value} {D : Ad}
theorem T_o_Residue___add__ (T : Txt K mg D) : XR.OwnB K D.c_Residue D.a_Residue___add__ .Add := ⟨T.ysf_Residue, T.h_add, T.i_Residue___add__, T.r_add⟩
theorem T_o_Residue___sub__ (T : Txt K mg D) : XR.OwnB K D.c_Residue D.a_Residue___sub__ .Sub := ⟨T.ysf_Residue, T.h_sub, T.i_Residue___sub__, T.r_sub⟩
theorem T_i_Residue___add__ (T : Txt K mg D) : XR.OwnBI K D.c_Residue .Add := ⟨T.i_add, T.j_add, T.s_int⟩
theorem T_i_Residue___sub__ (T : Txt K mg D) : XR.OwnBI K D.c_Residue .Sub := ⟨T.i_sub, T.j_sub, T.s_int⟩
theorem T_o_Residue___contains__ (T : Txt K mg D) : XR.OwnM K D.c_Residue D.a_Residue___contains__ "__contains__" := ⟨T.m_Residue___contains__, T.i_Residue___contains__⟩
theorem T_o_Residue___str__ (T : Txt K mg D) : XR.OwnM K D.c_Residue D.a_Residue___str__ "__str__" := ⟨T.m_Residue___str__, T.i_Residue___str__⟩
theorem T_o_Residue___neg__ (T : Txt K mg D) : XR.OwnM K D.c_Residue D.a_Residue___neg__ "__neg__" := ⟨T.m_Residue___neg__, T.i_Residue___neg__⟩
theorem T_o_Residue___eq__ (T : Txt K mg D) : XR.OwnE K D.c_Residue D.a_Residue___eq__ := ⟨T.m_Residue___eq__, T.i_Residue___eq__, T.ne_, T.ymo_Residue⟩
end
/-! ### promises -/
theorem two_of {p : Prop} [Decidable p] {Q : VK} {H : Hp} (k1 : p → Q (.bl true) H) (k2 : ¬p → Q (.bl false) H) : ∀ x : Bool, x = decide p → Q (.bl x) H := fun x e => by
  by_cases z : p
  · rw [e, decide_eq_true z]; exact k1 z
  · rw [e, decide_eq_false z]; exact k2 z
def fsR (a n : Int) : List (Str × V) := [("place", .int a), ("length", .int n)]
def ResAt (D : Ad) (H : Hp) (p : Addr) (a n : Int) : Prop := ∃ dx, H p = some (.ins D.c_Residue dx (fsR a n))
theorem ResAt.same {D : Ad} {H H' : Hp} {p : Addr} {a n : Int} (s : ResAt D H p a n) (x : Same H H') : ResAt D H' p a n := let ⟨dx, e⟩ := s; ⟨dx, x _ _ e⟩
theorem ResAt.new {D : Ad} {H : Hp} {p q : Addr} {a n : Int} {o : HO} (s : ResAt D H p a n) (h : H q = none) : ResAt D (L2.upd H q o) p a n := let ⟨dx, e⟩ := s; ⟨dx, by rw [upd_ne (ne_of_none e h)]; exact e⟩
theorem ResAt.exb {D : Ad} {H H' : Hp} {p b : Addr} {x y : Int} (s : ResAt D H p x y) (n : p ≠ b) (e : ExB b H H') : ResAt D H' p x y := let ⟨dx, h⟩ := s; ⟨dx, e _ _ n h⟩
/-- a new residue -/
def NewRes (D : Ad) (H : Hp) (a n : Int) (Q : VK) : Prop := ∀ p H', H p = none → Same H H' → ResAt D H' p (a % n) n → Q (.ref p) H'
def spInit (D : Ad) : Sp := fun vs H Q E => ∃ (p dx : Addr) (a n : Int), vs = [.ref p, .int a, .int n] ∧ H p = some (.ins D.c_Residue dx []) ∧ n < 2 ^ 63 ∧
  (n < 1 → Wish D.c_OutOfRange [("value", .int n)] H E) ∧
  (1 ≤ n → ∀ H', (∀ q o, q ≠ p → H q = some o → H' q = some o) → H' p = some (.ins D.c_Residue dx (fsR (a % n) n)) → Q .non H')
theorem mk2 {D : Ad} {H : Hp} {a n : Int} {Q : VK} {E : XK} {x dx : Addr} (nx : H x = none) (nd : H dx = none) (ne : dx ≠ x) (hn : n < 2 ^ 63) (k1 : n < 1 → Wish D.c_OutOfRange [("value", .int n)] H E) (k2 : 1 ≤ n → ∀ H', Same H H' → ResAt D H' x (a % n) n → Q .non H') :
    spInit D [.ref x, .int a, .int n] (L2.upd (L2.upd H dx (.own x)) x (.ins D.c_Residue dx [])) Q E := by
  have old : ∀ q o, H q = some o → (L2.upd (L2.upd H dx (.own x)) x (.ins D.c_Residue dx [])) q = some o := fun q o e => by rw [upd_ne (ne_of_none e nx), upd_ne (ne_of_none e nd)]; exact e
  refine ⟨x, dx, a, n, rfl, upd_same, hn, fun h => fun d H' e s => k1 h d H' e fun q o z => s q o (old q o z), fun h H' s e => k2 h H' (fun q o z => s q o (ne_of_none z nx) (old q o z)) ⟨dx, e⟩⟩
def spOpI (D : Ad) (g : Int → Int → Int) : Sp := fun vs H Q _ => ∃ (p : Addr) (a n m : Int), vs = [.ref p, .int m] ∧ ResAt D H p a n ∧ 1 ≤ n ∧ n < 2 ^ 63 ∧ NewRes D H (g a m) n Q
def spNeg (D : Ad) : Sp := fun vs H Q _ => ∃ (p : Addr) (a n : Int), vs = [.ref p] ∧ ResAt D H p a n ∧ 1 ≤ n ∧ n < 2 ^ 63 ∧ NewRes D H (-a) n Q
def spEq (D : Ad) : Sp := fun vs H Q _ => ∃ (p q : Addr) (a n b m : Int), vs = [.ref p, .ref q] ∧ ResAt D H p a n ∧ ResAt D H q b m ∧ (a = b ∧ n = m → Q (.bl true) H) ∧ (¬(a = b ∧ n = m) → Q (.bl false) H)
def textOf (a n : Int) : Str := Str.empty ++ Str.ofString (toString a) ++ (" mod " : Str) ++ Str.ofString (toString n)
def spStr (D : Ad) : Sp := fun vs H Q _ => ∃ (p : Addr) (a n : Int), vs = [.ref p] ∧ ResAt D H p a n ∧ -(10 ^ 30) < a ∧ a < 10 ^ 30 ∧ -(10 ^ 30) < n ∧ n < 10 ^ 30 ∧ Q (.str (textOf a n)) H
def spHas (D : Ad) : Sp := fun vs H Q _ => ∃ (p : Addr) (a n m : Int), vs = [.ref p, .int m] ∧ ResAt D H p a n ∧ 1 ≤ n ∧ n < 2 ^ 63 ∧ Q (.bl (decide ((m - a) % n = 0))) H
section
variable {P : Program} {w : World} {K : PySem.W.Frag} {mg : Str → Option Value} {base : Heap} {D : Ad}
abbrev fsO : List V → Option (List (Str × V)) := fun ws => match ws with | [a] => some [("value", a)] | _ => none
theorem sc_OutOfRange_init : FnScope ["self", "value"] ["self", "value"] (defScope s_OutOfRange_init) := ⟨rfl, rfl, rfl, by decide +kernel, rfl, by decide +kernel, by decide +kernel⟩
theorem ok_OutOfRange_init (T : Txt K mg D) : FnOk P w K mg base CX0 1 D.a_OutOfRange_init D.d_OutOfRange_init ["self", "value"] (spEx D.c_OutOfRange fsO) := by
  refine T.F_OutOfRange_init.ok sc_OutOfRange_init (fun vs H Q E h => ?_) (fun cdv A outer s H vs Q E hr h => ?_)
  · obtain ⟨a, ws, l, rfl, e, _⟩ := h
    match ws, e with
    | [_], _ => rfl
  · obtain ⟨a, ws, l, rfl, e, ha, k⟩ := h
    match ws, e with
    | [x], e =>
      cases e
      refine ⟨_, pss_one (ps_ost (pv 0) (pv 1)), ?_⟩
      walk_at "rd"
      exact init_ex1 (T_ox_OutOfRange T) T.e_value ha fun d H1 hd hda ea ed x1 => k d H1 hd hda ea ed x1
theorem sc_Residue_init : FnScope ["self", "place", "length"] ["self", "place", "length"] (defScope s_Residue_init) := ⟨rfl, rfl, rfl, by decide +kernel, rfl, by decide +kernel, by decide +kernel⟩
theorem ok_Residue_init (T : Txt K mg D) : FnOk P w K mg base (L2.CX P w) 3 D.a_Residue_init D.d_Residue_init ["self", "place", "length"] (spInit D) := by
  refine T.F_Residue_init.okX sc_Residue_init (fun vs H Q E h => ?_) (fun cdv A outer s H vs Q E hr h => ?_)
  · obtain ⟨p, dx, a, n, rfl, _⟩ := h
    rfl
  · obtain ⟨p, dx, a, n, rfl, hp, hn, kE, kS⟩ := h
    refine ⟨_, (pss_cons (ps_if (pt_cmpR op_lt (pv 2) pe_int (nomark _))
      (pss_one (ps_raise rfl (takes_of rfl rfl rfl rfl) (pmk_oex (T_ox_OutOfRange T) T.m_OutOfRange_init T.xti_OutOfRange (ok_OutOfRange_init T) (hr.mono (by decide)) T.b_OutOfRange_init .nil (fun _ _ _ _ _ _ _ z => z.elim) (by rfl) T.g_OutOfRange (pa_cons (pv 2) pa_nil))))
      pss_nil)
      (pss_cons (ps_fld (pv 0) (pe_op op_mod (pv 1) (pv 2)) rfl)
      (pss_one (ps_fld (pv 0) (pv 2) rfl)))), ?_⟩
    walk_at "rd"
    walk_at "br"
    · walk_at "rd"
      exact mk_ex (by show 1 ≤ 1000; decide) rfl (kE (by omega))
    · walk_at "rd"
      refine ⟨p, _, dx, _, rfl, hp, T_cl_Residue T, T.no_place, (by show 0 < 1000; decide), ?_⟩
      walk_at "rd"
      refine ⟨p, _, dx, _, rfl, upd_same, T_cl_Residue T, T.no_length, (by show 1 < 1000; decide), ?_⟩
      refine kS (by omega) _ (fun q o hq e => by rw [upd_ne hq, upd_ne hq]; exact e) ?_
      rw [upd_same]
      rfl
theorem sc_Residue___eq__ : FnScope ["self", "other"] ["self", "other"] (defScope s_Residue___eq__) := ⟨rfl, rfl, rfl, by decide +kernel, rfl, by decide +kernel, by decide +kernel⟩
theorem ok_Residue_eq (T : Txt K mg D) : FnOk P w K mg base CX0 1 D.a_Residue___eq__ D.d_Residue___eq__ ["self", "other"] (spEq D) := by
  refine T.F_Residue___eq__.ok sc_Residue___eq__ (fun vs H Q E h => ?_) (fun cdv A outer s H vs Q E hr h => ?_)
  · obtain ⟨p, q, a, b, c, d, rfl, _⟩ := h
    rfl
  · obtain ⟨p, q, a, b, c, d, rfl, ⟨dx, hp⟩, ⟨dy, hq⟩, k1, k2⟩ := h
    refine ⟨_, (pss_one (ps_ret (pe_and (pe_callB call_isi (by rfl) T.n_isinstance (by decide +kernel) (pa_cons (pv 1) (pa_cons (pe_glob (v := .ref D.c_Residue) (by rfl) T.g_Residue rfl) pa_nil))) (pe_and (pe_cmpR op_eq (pe_fld (pv 0) rfl) (pe_fld (pv 1) rfl) (nomark _)) (pe_one (pe_cmpR op_eq (pe_fld (pv 0) rfl) (pe_fld (pv 1) rfl) (nomark _))))))), ?_⟩
    walk_at "rd"
    refine ⟨_, _, _, _, true, rfl, .own D.c_Residue, T_ty_Residue T hq, T.z_Residue, ?_⟩
    walk_at "rd"
    have kk := two_of k1 k2
    walk_at "br"
    · walk_at "rd"
      refine kk _ ?_
      simp_all
    · refine kk _ ?_
      simp_all
theorem sc_Residue___str__ : FnScope ["self"] ["self"] (defScope s_Residue___str__) := ⟨rfl, rfl, rfl, by decide +kernel, rfl, by decide +kernel, by decide +kernel⟩
theorem ok_Residue_str (T : Txt K mg D) : FnOk P w K mg base CX0 1 D.a_Residue___str__ D.d_Residue___str__ ["self"] (spStr D) := by
  refine T.F_Residue___str__.ok sc_Residue___str__ (fun vs H Q E h => ?_) (fun cdv A outer s H vs Q E hr h => ?_)
  · obtain ⟨p, a, b, rfl, _⟩ := h
    rfl
  · obtain ⟨p, a, b, rfl, ⟨dx, hp⟩, a1, a2, b1, b2, k⟩ := h
    refine ⟨_, (pss_one (ps_ret (pe_joined (PJ.cons (pe_fmt (pe_fld (pv 0) rfl)) (PJ.cons pe_str (PJ.cons (pe_fmt (pe_fld (pv 0) rfl)) PJ.nil)))))), ?_⟩
    have la := PyProof.Rows.int_text_len_1921 (i := a) (XR.log_lt (by omega) (by omega))
    have lb := PyProof.Rows.int_text_len_1921 (i := b) (XR.log_lt (by omega) (by omega))
    have l2 : (" mod " : Str).length = 5 := rfl
    have l0 : Str.empty.length = 0 := rfl
    have ez : sizeLine = 16777216 := sizeLine_eq
    walk_at "rd"
    refine ⟨by rw [Str.length_append]; omega, ?_⟩
    walk_at "rd"
    refine ⟨by rw [Str.length_append, Str.length_append]; omega, ?_⟩
    walk_at "rd"
    refine ⟨by rw [Str.length_append, Str.length_append, Str.length_append]; omega, ?_⟩
    exact k
theorem sc_Residue___contains__ : FnScope ["self", "day"] ["self", "day"] (defScope s_Residue___contains__) := ⟨rfl, rfl, rfl, by decide +kernel, rfl, by decide +kernel, by decide +kernel⟩
theorem ok_Residue_has (T : Txt K mg D) : FnOk P w K mg base CX0 1 D.a_Residue___contains__ D.d_Residue___contains__ ["self", "day"] (spHas D) := by
  refine T.F_Residue___contains__.ok sc_Residue___contains__ (fun vs H Q E h => ?_) (fun cdv A outer s H vs Q E hr h => ?_)
  · obtain ⟨p, a, b, m, rfl, _⟩ := h
    rfl
  · obtain ⟨p, a, b, m, rfl, ⟨dx, hp⟩, n1, n2, k⟩ := h
    refine ⟨_, (pss_one (ps_ret (pe_cmpR op_eq (pe_op op_mod (pe_op op_sub (pv 1) (pe_fld (pv 0) rfl)) (pe_fld (pv 0) rfl)) pe_int (nomark _)))), ?_⟩
    walk_at "rd"
    have kk : ∀ x : Bool, x = decide ((m - a) % b = 0) → Q (.bl x) H := fun x e => e ▸ k
    exact kk _ (by simp)
theorem sc_Residue___add__ : FnScope ["self", "many"] ["self", "many"] (defScope s_Residue___add__) := ⟨rfl, rfl, rfl, by decide +kernel, rfl, by decide +kernel, by decide +kernel⟩
theorem ok_Residue_add (T : Txt K mg D) : FnOk P w K mg base CX0 5 D.a_Residue___add__ D.d_Residue___add__ ["self", "many"] (spOpI D (fun a m => a + m)) := by
  have G_Residue_init := ok_Residue_init (P := P) (w := w) (base := base) T
  refine T.F_Residue___add__.ok sc_Residue___add__ (fun vs H Q E h => ?_) (fun cdv A outer s H vs Q E hr h => ?_)
  · obtain ⟨p, a, b, m, rfl, _⟩ := h
    rfl
  · obtain ⟨p, a, b, m, rfl, ⟨dx, hp⟩, n1, n2, k⟩ := h
    refine ⟨_, (pss_one (ps_ret (pe_make (T_mk_Residue T) G_Residue_init (hr.mono (by decide)) (by rfl) T.g_Residue T.b_Residue_init .nil passL (pa_cons (pe_op op_add (pe_fld (pv 0) rfl) (pv 1)) (pa_cons (pe_fld (pv 0) rfl) pa_nil))))), ?_⟩
    walk_at "rd"
    intro r dr nr nd ne
    exact mk2 nr nd ne n2 (fun h => by omega) fun _ H1 x1 s1 => ⟨rfl, k r H1 nr x1 s1⟩
theorem sc_Residue___sub__ : FnScope ["self", "many"] ["self", "many"] (defScope s_Residue___sub__) := ⟨rfl, rfl, rfl, by decide +kernel, rfl, by decide +kernel, by decide +kernel⟩
theorem ok_Residue_sub (T : Txt K mg D) : FnOk P w K mg base CX0 5 D.a_Residue___sub__ D.d_Residue___sub__ ["self", "many"] (spOpI D (fun a m => a - m)) := by
  have G_Residue_init := ok_Residue_init (P := P) (w := w) (base := base) T
  refine T.F_Residue___sub__.ok sc_Residue___sub__ (fun vs H Q E h => ?_) (fun cdv A outer s H vs Q E hr h => ?_)
  · obtain ⟨p, a, b, m, rfl, _⟩ := h
    rfl
  · obtain ⟨p, a, b, m, rfl, ⟨dx, hp⟩, n1, n2, k⟩ := h
    refine ⟨_, (pss_one (ps_ret (pe_make (T_mk_Residue T) G_Residue_init (hr.mono (by decide)) (by rfl) T.g_Residue T.b_Residue_init .nil passL (pa_cons (pe_op op_sub (pe_fld (pv 0) rfl) (pv 1)) (pa_cons (pe_fld (pv 0) rfl) pa_nil))))), ?_⟩
    walk_at "rd"
    intro r dr nr nd ne
    exact mk2 nr nd ne n2 (fun h => by omega) fun _ H1 x1 s1 => ⟨rfl, k r H1 nr x1 s1⟩
theorem sc_Residue___neg__ : FnScope ["self"] ["self"] (defScope s_Residue___neg__) := ⟨rfl, rfl, rfl, by decide +kernel, rfl, by decide +kernel, by decide +kernel⟩
theorem ok_Residue_neg (T : Txt K mg D) : FnOk P w K mg base CX0 5 D.a_Residue___neg__ D.d_Residue___neg__ ["self"] (spNeg D) := by
  have G_Residue_init := ok_Residue_init (P := P) (w := w) (base := base) T
  refine T.F_Residue___neg__.ok sc_Residue___neg__ (fun vs H Q E h => ?_) (fun cdv A outer s H vs Q E hr h => ?_)
  · obtain ⟨p, a, b, rfl, _⟩ := h
    rfl
  · obtain ⟨p, a, b, rfl, ⟨dx, hp⟩, n1, n2, k⟩ := h
    refine ⟨_, (pss_one (ps_ret (pe_make (T_mk_Residue T) G_Residue_init (hr.mono (by decide)) (by rfl) T.g_Residue T.b_Residue_init .nil passL (pa_cons (pe_un un_neg (pe_fld (pv 0) rfl)) (pa_cons (pe_fld (pv 0) rfl) pa_nil))))), ?_⟩
    walk_at "rd"
    intro r dr nr nd ne
    exact mk2 nr nd ne n2 (fun h => by omega) fun _ H1 x1 s1 => ⟨rfl, k r H1 nr x1 s1⟩
theorem T_kb_Residue_length_place (T : Txt K mg D) : KBn K D.d_Residue_init ["self", "place", "length"] 1 ["length", "place"] (fun us ws => us ++ ws.reverse) (fun us ws => us ++ ws.reverse) := by
  refine ⟨fun s us ws X l1 l2 => ?_, fun r1 r2 => r1.append r2.reverse⟩
  obtain ⟨oc, od, kV, doc, pm, an, cdv, ct, osl, e, lk, hcd⟩ := T.F_Residue_init.ex
  rw [e]
  match us, l1, ws, l2 with
  | [u], _, [a, b], _ => exact BindsTo.of_eq rfl
end
end Toy
set_option Elab.async false
set_option linter.all false
set_option maxRecDepth 100000
set_option maxHeartbeats 4000000
namespace Toy
open PySem L2 XR
local macro_rules | `(tactic| walk_at "ne") => `(tactic| first | assumption | (apply Ne.symm; assumption) | exact XR.ne_fresh (by assumption) (by walk_at "hp") | exact Ne.symm (XR.ne_fresh (by assumption) (by walk_at "hp")))
local macro_rules | `(tactic| walk_at "hp") => `(tactic| first | assumption | exact upd_same | (refine Eq.trans (upd_ne ?_) ?_; (walk_at "ne"); walk_at "hp"))
local macro_rules | `(tactic| walk_at "sq") => `(tactic| first | walk_at "hp" | exact SqL.of (by walk_at "hp") | exact SqT.of (by walk_at "hp"))
local macro_rules | `(tactic| walk_at "br") => `(tactic| (refine ite2 ?_ ?_ <;> intro hbr <;> (try simp only [decide_eq_true_eq, decide_eq_false_iff_not, V.int.injEq, V.bl.injEq, V.str.injEq, Bool.not_eq_true, Bool.not_eq_eq_eq_not, Bool.not_true, Bool.not_false, ne_eq, Int.reduceToNat, Int.reducePow, Int.reduceMul, Int.reduceAdd, Int.reduceSub, reduceCtorEq, not_true_eq_false, not_false_eq_true, Int.not_lt, Int.not_le] at hbr)))
local macro_rules | `(tactic| walk_at "side") => `(tactic| first
  | exact ⟨by decide, by decide, by decide⟩
  | exact .inl ⟨by decide, by decide⟩
  | exact .inr ⟨by decide, by decide⟩
  | exact XR.divw (by first | decide | omega) (by first | decide | omega)
  | (show (_ : Int) = _; first | rfl | omega)
  | (show (0 : Int) < _; first | decide | assumption | omega)
  | exact .inl ⟨by omega, by omega⟩
  | exact .inr ⟨by omega, by omega⟩
  | exact .inl (XR.cmul_mod (by decide))
  | exact XR.log_lt (by omega) (by omega)
  | decide
  | (rw [sizeLine_eq]; simp; done)
  | (show 2 ≤ sizeLine; decide) | (show 3 ≤ sizeLine; decide) | (show 4 ≤ sizeLine; decide) | (show 5 ≤ sizeLine; decide) | (show 6 ≤ sizeLine; decide) | (show 7 ≤ sizeLine; decide) | (show 1 ≤ sizeLine; decide) | (show 8 ≤ sizeLine; decide) | (show 0 ≤ sizeLine; decide))
local macro_rules | `(tactic| walk_at "rd1") => `(tactic| first
  | refine ⟨_, rfl, ?_⟩
  | refine ⟨_, _, rfl, rfl, ?_⟩
  | refine ⟨_, _, _, _, rfl, rfl, (by walk_at "sq"), rfl, ?_⟩
  | refine ⟨_, _, _, _, rfl, rfl, (by walk_at "hp"), (by walk_at "hp"), (by walk_at "side"), ?_⟩
  | refine ⟨_, _, rfl, .inl (by walk_at "sq"), ?_⟩
  | refine ⟨_, _, rfl, .inr (by walk_at "sq"), ?_⟩
  | refine ⟨_, _, _, _, _, rfl, (by walk_at "hp"), (by walk_at "cls"), (by walk_at "noat"), rfl, ?_⟩
  | refine ⟨rfl, ?_⟩
  | refine And.intro (by walk_at "side") ?_
  | refine .inl ⟨_, rfl, ?_⟩
  | refine And.intro ⟨_, (by walk_at "sq")⟩ ?_
  | refine ⟨_, _, rfl, (by walk_at "sq"), ?_⟩
  | refine ⟨_, _, rfl, ?_⟩
  | refine .inr ⟨_, rfl, (by walk_at "side"), ?_⟩
  | refine iteT ?_
  | refine iteF ?_)
local macro_rules | `(tactic| walk_at "rd") => `(tactic| repeat (walk_at "rd1"))
local macro_rules | `(tactic| walk_at "nn") => `(tactic| (simp only [Int.reduceToNat, Int.reducePow, Int.reduceMul, Int.reduceAdd, Int.reduceSub, Int.reduceNeg]))
local macro_rules | `(tactic| walk_at "dr") => `(tactic| repeat (first | refine And.intro (by first | assumption | walk_at "pre") ?_ | refine And.intro (by first | decide | omega) ?_))

local macro_rules | `(tactic| walk_at "cls") => `(tactic| exact T_cl_Residue (by assumption))
local macro_rules | `(tactic| walk_at "noat") => `(tactic| first | exact Txt.no_place (by assumption) | exact Txt.no_length (by assumption))
section
variable {P : Program} {w : World} {K : PySem.W.Frag} {mg : Str → Option Value} {base : Heap} {D : Ad}
def BoxAt (H : Hp) (b : Addr) : Prop := ∃ (c : Addr) (cs : List Int) (i big turn seed : Int), H b = some (.lst [.ref c, .int i, .int big, .int turn, .int seed]) ∧ H c = some (.lst (cs.map V.int)) ∧ c ≠ b ∧ 0 ≤ i ∧ 0 ≤ big
theorem BoxAt.new {H : Hp} {b t : Addr} {o : HO} (h : BoxAt H b) (n : H t = none) : BoxAt (L2.upd H t o) b := by
  obtain ⟨c, cs, i, g, t, s, e1, e2, r⟩ := h
  exact ⟨c, cs, i, g, t, s, by rw [upd_ne (ne_of_none e1 n)]; exact e1, by rw [upd_ne (ne_of_none e2 n)]; exact e2, r⟩
theorem BoxAt.ne {H : Hp} {b t : Addr} (h : BoxAt H b) (n : H t = none) : t ≠ b := by
  obtain ⟨c, cs, i, g, t, s, e1, _⟩ := h
  exact (ne_of_none e1 n).symm
theorem BoxAt.same {H H' : Hp} {b : Addr} (h : BoxAt H b) (x : Same H H') : BoxAt H' b := by
  obtain ⟨c, cs, i, g, t, s, e1, e2, r⟩ := h
  exact ⟨c, cs, i, g, t, s, x _ _ e1, x _ _ e2, r⟩
local macro_rules | `(tactic| walk_at "pre") => `(tactic| first | assumption | exact BoxAt.new (by walk_at "pre") (by assumption) | exact BoxAt.same (by walk_at "pre") (by assumption))
/-- a drawn number -/
def Drawn (b : Addr) (H : Hp) (lo hi : Int) (Q : VK) : Prop := ∀ r H', lo ≤ r → r < hi → BoxAt H' b → ExB b H H' → Q (.int r) H'
def spBox (K : PySem.W.Frag) : Sp := fun vs H Q _ => ∃ (a : Addr) (ns : List Int), vs = [.ref a] ∧ SqL K H a (ns.map V.int) ∧ ns.length ≤ 63 ∧ ∀ b H', H b = none → Same H H' → BoxAt H' b → Q (.ref b) H'
def spDraw : Sp := fun vs H Q _ => ∃ (b : Addr) (n : Int), vs = [.ref b, .int n] ∧ BoxAt H b ∧ 0 < n ∧ n < 2 ^ 63 ∧ Drawn b H 0 n Q
def spNum : Sp := fun vs H Q _ => ∃ (x : Int), vs = [.int x] ∧ Q (.bl true) H
def spSize : Sp := fun vs H Q _ => ∃ (b : Addr), vs = [.ref b] ∧ BoxAt H b ∧ Drawn b H 1 (10 ^ 18) Q
def spDay : Sp := fun vs H Q _ => ∃ (b : Addr), vs = [.ref b] ∧ BoxAt H b ∧ Drawn b H (-(10 ^ 18) + 1) (10 ^ 18) Q
theorem sc__law_box : FnScope ["_law_script", "_law_seed", "_law_k"] ["_law_script"] (defScope s__law_box) := ⟨rfl, rfl, rfl, by decide +kernel, rfl, by decide +kernel, by decide +kernel⟩
theorem ok__law_box (T : Txt K mg D) : FnOk P w K mg base CX0 1 D.a__law_box D.d__law_box ["_law_script"] (spBox K) := by
  refine T.F__law_box.ok sc__law_box (fun vs H Q E h => ?_) (fun cdv A outer s H vs Q E hr h => ?_)
  · obtain ⟨a, ns, rfl, _⟩ := h
    rfl
  · obtain ⟨a, ns, rfl, hS, hl, k⟩ := h
    refine ⟨_, (pss_cons (ps_set (i := 1) sc__law_box.nd rfl (Or.inl rfl) pe_int)
      (pss_cons (ps_for PassesOwn.never rfl (pi_range1 (by rfl) T.n_range (pa_cons (pe_callB (call_min2 rfl) (by rfl) T.n_min (by decide +kernel) (pa_cons pe_int (pa_cons (pe_callB call_len_seq (by rfl) T.n_len (by decide +kernel) (pa_cons (pv 0) pa_nil)) pa_nil))) pa_nil)) (pg_name (i := 2) sc__law_box.nd rfl (Or.inl rfl))
      (pss_one (ps_set (i := 1) sc__law_box.nd rfl (Or.inl rfl) (pe_op op_add (pv 1) (pe_op op_mul (pe_op op_mod (pe_callTy call_int1 (by rfl) T.n_int (by decide +kernel) (pa_cons (pe_ix ix_list (pv 0) (pv 2) (fun _ _ => rfl)) pa_nil)) pe_int) (pe_op op_add (pv 2) pe_int))))))
      (pss_one (ps_ret (pe_lst (pa_cons (pe_slice sl_list (pv 0) po_none (po_some pe_int)) (pa_cons pe_int (pa_cons pe_int (pa_cons pe_int (pa_cons (pv 1) pa_nil)))))))))), ?_⟩
    walk_at "rd"
    have e : (if ((ns.map V.int).length : Int) < 63 then ((ns.map V.int).length : Int) else 63) = (ns.length : Int) := by
      rw [List.length_map]
      split <;> omega
    rw [e, Int.toNat_natCast]
    refine ⟨by omega, by omega, ?_⟩
    refine for_range (fun i σ H2 => Stop (∃ (v : Option V) (sd : Int), σ = [some (.ref a), some (.int sd), v] ∧ H2 = H)) (.go ⟨none, 0, rfl, rfl⟩) ?_ ?_
    · intro i σ H2 hi hm
      obtain ⟨v, sd, rfl, rfl⟩ := hm.out
      obtain ⟨z, hz⟩ := at_ints (cs := ns) (i := 0 + (i : Int)) (by omega) (by rw [List.length_map]; omega)
      walk_at "rd"
      refine ⟨_, _, _, _, rfl, rfl, hS, hz, ?_⟩
      walk_at "rd"
      exact .go ⟨_, _, rfl, rfl⟩
    · intro σ H2 hm
      obtain ⟨v, sd, rfl, rfl⟩ := hm.out
      walk_at "rd"
      intro p hp
      walk_at "rd"
      intro q hq
      have npq : p ≠ q := XR.ne_fresh hq upd_same
      refine k q _ (none_back (Same.new (Same.refl _) hp) hq) (Same.new (Same.new (Same.refl _) hp) hq) ⟨p, ns.take 63, 0, 0, 0, sd, upd_same, ?_, npq, Int.le_refl _, Int.le_refl _⟩
      rw [upd_ne npq, upd_same]
      exact congrArg (fun l => some (HO.lst l)) (cutV_take ns 63)
theorem sc__law_draw : FnScope ["_law_box_here", "_law_size_here", "_law_turn", "_law_cell", "_law_rest", "_law_once", "_law_twice"] ["_law_box_here", "_law_size_here"] (defScope s__law_draw) := ⟨rfl, rfl, rfl, by decide +kernel, rfl, by decide +kernel, by decide +kernel⟩
theorem ok__law_draw (T : Txt K mg D) : FnOk P w K mg base CX0 1 D.a__law_draw D.d__law_draw ["_law_box_here", "_law_size_here"] spDraw := by
  refine T.F__law_draw.ok sc__law_draw (fun vs H Q E h => ?_) (fun cdv A outer s H vs Q E hr h => ?_)
  · obtain ⟨b, n, rfl, _⟩ := h
    rfl
  · obtain ⟨b, n, rfl, ⟨c, cs, i, big, turn, seed, hb, hc, hcb, hi, hbig⟩, hn, hn2, k⟩ := h
    refine ⟨_, (pss_cons (ps_set (i := 2) sc__law_draw.nd rfl (Or.inl rfl) (pe_ix ix_list (pv 0) pe_int (fun _ _ => rfl)))
      (pss_cons (ps_asg (pe_op op_add (pv 2) pe_int) (pg_sub (pv 0) pe_int set_list))
      (pss_cons (ps_set (i := 3) sc__law_draw.nd rfl (Or.inl rfl) (pe_ix ix_list (pv 0) pe_int (fun _ _ => rfl)))
      (Evl.pss_cut (ps_if (PW.pt (pw_and (pt_cmpR op_eq (pe_ix ix_list (pv 0) pe_int (fun _ _ => rfl)) pe_int (nomark _)) (pw_and1 (pt_cmpR op_lt (pe_ix ix_list (pv 0) pe_int (fun _ _ => rfl)) (pe_callB call_len_seq (by rfl) T.n_len (by decide +kernel) (pa_cons (pe_ix ix_list (pv 0) pe_int (fun _ _ => rfl)) pa_nil)) (nomark _)))))
      (pss_cons (ps_set (i := 3) sc__law_draw.nd rfl (Or.inl rfl) (pe_callTy call_int1 (by rfl) T.n_int (by decide +kernel) (pa_cons (pe_ix ix_list (pe_ix ix_list (pv 0) pe_int (fun _ _ => rfl)) (pe_ix ix_list (pv 0) pe_int (fun _ _ => rfl)) (fun _ _ => rfl)) pa_nil)))
      (pss_cons (ps_asg (pe_op op_add (pe_ix ix_list (pv 0) pe_int (fun _ _ => rfl)) pe_int) (pg_sub (pv 0) pe_int set_list))
      (pss_one (ps_if (pt_cmpR op_ge (pe_callB call_abs (by rfl) T.n_abs (by decide +kernel) (pa_cons (pv 3) pa_nil)) (pe_op op_pow pe_int pe_int) (nomark _))
      (pss_one (ps_asg (pe_callB call_abs (by rfl) T.n_abs (by decide +kernel) (pa_cons (pv 3) pa_nil)) (pg_sub (pv 0) pe_int set_list)))
      pss_nil))))
      pss_nil)
      (pss_cons (ps_if (pt_cmpR op_gt (pe_ix ix_list (pv 0) pe_int (fun _ _ => rfl)) pe_int (nomark _))
      (pss_cons (ps_set (i := 4) sc__law_draw.nd rfl (Or.inl rfl) (pe_callTy call_int1 (by rfl) T.n_int (by decide +kernel) (pa_cons (pe_ix ix_list (pv 0) pe_int (fun _ _ => rfl)) pa_nil)))
      (pss_cons (ps_asg (pe_op op_fdivW (pv 4) (pv 1)) (pg_sub (pv 0) pe_int set_list))
      (pss_one (ps_ret (pe_op op_mod (pv 4) (pv 1))))))
      pss_nil)
      (pss_cons (ps_set (i := 5) sc__law_draw.nd rfl (Or.inl rfl) (pe_op op_mod (pe_callTy call_int1 (by rfl) T.n_int (by decide +kernel) (pa_cons (pe_op op_add (pe_op op_add (pe_op op_mul (pv 3) pe_int) (pe_op op_mul (pv 2) pe_int)) pe_int) pa_nil)) pe_int))
      (pss_cons (ps_set (i := 6) sc__law_draw.nd rfl (Or.inl rfl) (pe_op op_mod (pe_callTy call_int1 (by rfl) T.n_int (by decide +kernel) (pa_cons (pe_op op_add (pe_op op_add (pe_op op_mul (pv 5) (pv 5)) (pe_op op_mul (pv 3) pe_int)) (pe_op op_mul (pv 2) pe_int)) pa_nil)) pe_int))
      (pss_one (ps_ret (pe_op op_mod (pe_callTy call_int1 (by rfl) T.n_int (by decide +kernel) (pa_cons (pe_op op_add (pe_op op_add (pv 6) (pe_op op_mul pe_int (pv 5))) (pe_op op_mul pe_int (pv 3))) pa_nil)) (pv 1))))))))))), ?_⟩
    walk_at "rd"
    refine ⟨fun σ' H' => Stop (∃ (cell i' big' : Int), σ' = [some (.ref b), some (.int n), some (.int turn), some (.int cell), none, none, none] ∧ 0 ≤ i' ∧ 0 ≤ big' ∧ H' b = some (.lst [.ref c, .int i', .int big', .int (turn + 1), .int seed]) ∧ ExB b H H'), ?_, ?_⟩
    · walk_at "rd"
      walk_at "br"
      · walk_at "rd"
        walk_at "br"
        · obtain ⟨z, hz⟩ := at_ints hi (by assumption)
          walk_at "rd"
          refine ⟨_, _, _, _, rfl, rfl, (by walk_at "sq"), hz, ?_⟩
          walk_at "rd"
          walk_at "br"
          · walk_at "rd"
            exact .go ⟨z, i + 1, _, rfl, by omega, (by split <;> omega), upd_same, ((ExB.refl.upd).upd).upd⟩
          · exact .go ⟨z, i + 1, big, rfl, by omega, hbig, upd_same, (ExB.refl.upd).upd⟩
        · exact .go ⟨seed, i, big, rfl, hi, hbig, upd_same, ExB.refl.upd⟩
      · walk_at "rd"
        exact .go ⟨seed, i, big, rfl, hi, hbig, upd_same, ExB.refl.upd⟩
    · intro σ1 H1 hm
      obtain ⟨cell, i1, big1, rfl, hi1, hbig1, hb1, x1⟩ := hm.out
      walk_at "rd"
      walk_at "br"
      · walk_at "rd"
        refine k _ _ (Int.emod_nonneg _ (by omega)) (Int.emod_lt_of_pos _ hn) ?_ x1.upd
        exact ⟨c, cs, i1, big1 / n, _, _, upd_same, by rw [upd_ne hcb]; exact x1 c _ hcb hc, hcb, hi1, Int.ediv_nonneg hbig1 (by omega)⟩
      · walk_at "rd"
        exact k _ _ (Int.emod_nonneg _ (by omega)) (Int.emod_lt_of_pos _ hn) ⟨c, cs, i1, big1, _, _, hb1, x1 c _ hcb hc, hcb, hi1, hbig1⟩ x1
theorem sc__law_is_number : FnScope ["_law_value"] ["_law_value"] (defScope s__law_is_number) := ⟨rfl, rfl, rfl, by decide +kernel, rfl, by decide +kernel, by decide +kernel⟩
theorem ok__law_is_number (T : Txt K mg D) : FnOk P w K mg base CX0 1 D.a__law_is_number D.d__law_is_number ["_law_value"] spNum := by
  refine T.F__law_is_number.ok sc__law_is_number (fun vs H Q E h => ?_) (fun cdv A outer s H vs Q E hr h => ?_)
  · obtain ⟨x, rfl, _⟩ := h
    rfl
  · obtain ⟨x, rfl, k⟩ := h
    refine ⟨_, (pss_one (ps_ret (pe_and (pe_callB call_isi (by rfl) T.n_isinstance (by decide +kernel) (pa_cons (pv 0) (pa_cons (pe_bltn (v := .ty "int") (u := .type "int") (by rfl) T.n_int (by decide +kernel) rfl) pa_nil))) (pe_one (pe_not (pe_callB call_isi (by rfl) T.n_isinstance (by decide +kernel) (pa_cons (pv 0) (pa_cons (pe_bltn (v := .ty "bool") (u := .type "bool") (by rfl) T.n_bool (by decide +kernel) rfl) pa_nil)))))))), ?_⟩
    walk_at "rd"
    refine ⟨_, _, _, _, true, rfl, .ty "int", .base (.int _), kit_ty (by decide +kernel), ?_⟩
    walk_at "rd"
    refine ⟨_, _, _, _, false, rfl, .ty "bool", .base (.int _), kit_ty (by decide +kernel), ?_⟩
    walk_at "rd"
    exact k
theorem okq__law_is_number (T : Txt K mg D) : XR.FnQ P w K mg base 1 D.a__law_is_number D.d__law_is_number ["_law_value"] (fun _ => spNum) := by
  refine XR.okQ T.F__law_is_number sc__law_is_number (fun p vs H Q E h => ?_) (fun cdv A outer s H vs Q p hr h => ?_)
  · obtain ⟨x, rfl, _⟩ := h
    rfl
  · obtain ⟨x, rfl, k⟩ := h
    refine ⟨_, (pss_one (ps_ret (pe_and (pe_callB call_isi (by rfl) T.n_isinstance (by decide +kernel) (pa_cons (pv 0) (pa_cons (pe_bltn (v := .ty "int") (u := .type "int") (by rfl) T.n_int (by decide +kernel) rfl) pa_nil))) (pe_one (pe_not (pe_callB call_isi (by rfl) T.n_isinstance (by decide +kernel) (pa_cons (pv 0) (pa_cons (pe_bltn (v := .ty "bool") (u := .type "bool") (by rfl) T.n_bool (by decide +kernel) rfl) pa_nil)))))))), ?_⟩
    walk_at "rd"
    refine ⟨_, _, _, _, true, rfl, .ty "int", .base (.int _), kit_ty (by decide +kernel), ?_⟩
    walk_at "rd"
    refine ⟨_, _, _, _, false, rfl, .ty "bool", .base (.int _), kit_ty (by decide +kernel), ?_⟩
    walk_at "rd"
    exact k
theorem sc__law_size : FnScope ["_law_box_here", "_law_top"] ["_law_box_here"] (defScope s__law_size) := ⟨rfl, rfl, rfl, by decide +kernel, rfl, by decide +kernel, by decide +kernel⟩
theorem ok__law_size (T : Txt K mg D) : FnOk P w K mg base CX0 2 D.a__law_size D.d__law_size ["_law_box_here"] spSize := by
  have G__law_draw := ok__law_draw (P := P) (w := w) (base := base) T
  refine T.F__law_size.ok sc__law_size (fun vs H Q E h => ?_) (fun cdv A outer s H vs Q E hr h => ?_)
  · obtain ⟨b, rfl, _⟩ := h
    rfl
  · obtain ⟨b, rfl, hb, k⟩ := h
    refine ⟨_, (pss_cons (ps_set (i := 1) sc__law_size.nd rfl (Or.inl rfl) (pe_ix ix_list (pe_lst (pa_cons pe_int (pa_cons pe_int (pa_cons (pe_op op_pow pe_int pe_int) (pa_cons (pe_op op_sub (pe_op op_pow pe_int pe_int) pe_int) pa_nil))))) (pe_call G__law_draw (hr.mono (by decide)) (by rfl) T.g__law_draw T.F__law_draw.kp T.b__law_draw .nil pass0 (pa_cons (pv 0) (pa_cons pe_int pa_nil))) (fun _ _ => rfl)))
      (pss_one (ps_ret (pe_op op_add pe_int (pe_call G__law_draw (hr.mono (by decide)) (by rfl) T.g__law_draw T.F__law_draw.kp T.b__law_draw .nil pass0 (pa_cons (pv 0) (pa_cons (pv 1) pa_nil))))))), ?_⟩
    walk_at "rd"
    intro l hl
    have nl : l ≠ b := BoxAt.ne hb hl
    walk_at "rd"
    walk_at "dr"
    intro r1 H1 p1 q1 B1 x1
    have all : ∀ v ∈ ([.int 12, .int 400, .int (10 ^ 9), .int (10 ^ 18 - 1)] : List V), ∃ z : Int, v = .int z ∧ 0 < z ∧ z ≤ 10 ^ 18 - 1 := by
      intro v hv
      simp only [List.mem_cons, List.not_mem_nil, or_false] at hv
      rcases hv with rfl | rfl | rfl | rfl <;> exact ⟨_, rfl, by decide, by decide⟩
    obtain ⟨v, a, m⟩ := at_lt (xs := [V.int 12, .int 400, .int (10 ^ 9), .int (10 ^ 18 - 1)]) p1 q1
    obtain ⟨z, rfl, z1, z2⟩ := all v m
    refine ⟨_, _, _, _, rfl, rfl, SqL.of (x1 l _ nl upd_same), a, ?_⟩
    walk_at "rd"
    walk_at "dr"
    intro r2 H2 p2 q2 B2 x2
    walk_at "rd"
    exact k _ _ (by omega) (by omega) B2 ((ExB.refl.new hl).trans (x1.trans x2))
theorem sc__law_day : FnScope ["_law_box_here", "_law_reach"] ["_law_box_here"] (defScope s__law_day) := ⟨rfl, rfl, rfl, by decide +kernel, rfl, by decide +kernel, by decide +kernel⟩
theorem ok__law_day (T : Txt K mg D) : FnOk P w K mg base CX0 2 D.a__law_day D.d__law_day ["_law_box_here"] spDay := by
  have G__law_draw := ok__law_draw (P := P) (w := w) (base := base) T
  refine T.F__law_day.ok sc__law_day (fun vs H Q E h => ?_) (fun cdv A outer s H vs Q E hr h => ?_)
  · obtain ⟨b, rfl, _⟩ := h
    rfl
  · obtain ⟨b, rfl, hb, k⟩ := h
    refine ⟨_, (pss_cons (ps_set (i := 1) sc__law_day.nd rfl (Or.inl rfl) (pe_ix ix_list (pe_lst (pa_cons pe_int (pa_cons pe_int (pa_cons (pe_op op_pow pe_int pe_int) (pa_cons (pe_op op_sub (pe_op op_pow pe_int pe_int) pe_int) pa_nil))))) (pe_call G__law_draw (hr.mono (by decide)) (by rfl) T.g__law_draw T.F__law_draw.kp T.b__law_draw .nil pass0 (pa_cons (pv 0) (pa_cons pe_int pa_nil))) (fun _ _ => rfl)))
      (pss_one (ps_ret (pe_op op_sub (pe_call G__law_draw (hr.mono (by decide)) (by rfl) T.g__law_draw T.F__law_draw.kp T.b__law_draw .nil pass0 (pa_cons (pv 0) (pa_cons (pe_op op_add (pe_op op_mul pe_int (pv 1)) pe_int) pa_nil))) (pv 1))))), ?_⟩
    walk_at "rd"
    intro l hl
    have nl : l ≠ b := BoxAt.ne hb hl
    walk_at "rd"
    walk_at "dr"
    intro r1 H1 p1 q1 B1 x1
    have all : ∀ v ∈ ([.int 9, .int 400, .int (10 ^ 9), .int (10 ^ 18 - 1)] : List V), ∃ z : Int, v = .int z ∧ 0 < z ∧ z ≤ 10 ^ 18 - 1 := by
      intro v hv
      simp only [List.mem_cons, List.not_mem_nil, or_false] at hv
      rcases hv with rfl | rfl | rfl | rfl <;> exact ⟨_, rfl, by decide, by decide⟩
    obtain ⟨v, a, m⟩ := at_lt (xs := [V.int 9, .int 400, .int (10 ^ 9), .int (10 ^ 18 - 1)]) p1 q1
    obtain ⟨z, rfl, z1, z2⟩ := all v m
    refine ⟨_, _, _, _, rfl, rfl, SqL.of (x1 l _ nl upd_same), a, ?_⟩
    walk_at "rd"
    walk_at "dr"
    intro r2 H2 p2 q2 B2 x2
    walk_at "rd"
    exact k _ _ (by omega) (by omega) B2 ((ExB.refl.new hl).trans (x1.trans x2))
def PlanAt (H : Hp) (t : Addr) (d n m r : Int) : Prop := H t = some (.lst [.int d, .int n, .int (d % n), .int m, .int r])
structure PlanOk (d n m r : Int) : Prop where
  n1 : 1 ≤ n
  n2 : n < 10 ^ 18
  d1 : -(10 ^ 18) < d
  d2 : d < 10 ^ 18
  m1 : -(10 ^ 18) < m
  m2 : m < 10 ^ 18
  r1 : -(10 ^ 18) < r
  r2 : r < 10 ^ 18
def spPlan : Sp := fun vs H Q _ => ∃ (b : Addr), vs = [.ref b] ∧ BoxAt H b ∧ ∀ t H' d n m r, PlanOk d n m r → BoxAt H' b → ExB b H H' → t ≠ b → PlanAt H' t d n m r → Q (.ref t) H'
theorem sc__law_plan : FnScope ["_law_box_here", "_law_size_here", "_law_day_here"] ["_law_box_here"] (defScope s__law_plan) := ⟨rfl, rfl, rfl, by decide +kernel, rfl, by decide +kernel, by decide +kernel⟩
theorem ok__law_plan (T : Txt K mg D) : FnOk P w K mg base CX0 3 D.a__law_plan D.d__law_plan ["_law_box_here"] spPlan := by
  have G__law_size := ok__law_size (P := P) (w := w) (base := base) T
  have G__law_day := ok__law_day (P := P) (w := w) (base := base) T
  refine T.F__law_plan.ok sc__law_plan (fun vs H Q E h => ?_) (fun cdv A outer s H vs Q E hr h => ?_)
  · obtain ⟨b, rfl, _⟩ := h
    rfl
  · obtain ⟨b, rfl, hb, k⟩ := h
    refine ⟨_, (pss_cons (ps_set (i := 1) sc__law_plan.nd rfl (Or.inl rfl) (pe_call G__law_size (hr.mono (by decide)) (by rfl) T.g__law_size T.F__law_size.kp T.b__law_size .nil pass0 (pa_cons (pv 0) pa_nil)))
      (pss_cons (ps_set (i := 2) sc__law_plan.nd rfl (Or.inl rfl) (pe_call G__law_day (hr.mono (by decide)) (by rfl) T.g__law_day T.F__law_day.kp T.b__law_day .nil pass0 (pa_cons (pv 0) pa_nil)))
      (pss_one (ps_ret (pe_lst (pa_cons (pv 2) (pa_cons (pv 1) (pa_cons (pe_op op_mod (pe_callTy call_int1 (by rfl) T.n_int (by decide +kernel) (pa_cons (pv 2) pa_nil)) (pv 1)) (pa_cons (pe_call G__law_day (hr.mono (by decide)) (by rfl) T.g__law_day T.F__law_day.kp T.b__law_day .nil pass0 (pa_cons (pv 0) pa_nil)) (pa_cons (pe_call G__law_day (hr.mono (by decide)) (by rfl) T.g__law_day T.F__law_day.kp T.b__law_day .nil pass0 (pa_cons (pv 0) pa_nil)) pa_nil)))))))))), ?_⟩
    walk_at "rd"
    walk_at "dr"
    intro n H1 p1 q1 B1 x1
    walk_at "rd"
    walk_at "dr"
    intro d H2 p2 q2 B2 x2
    walk_at "rd"
    walk_at "dr"
    intro m H3 p3 q3 B3 x3
    walk_at "rd"
    walk_at "dr"
    intro r H4 p4 q4 B4 x4
    walk_at "rd"
    intro t ht
    exact k t _ d n m r ⟨by omega, by omega, by omega, by omega, by omega, by omega, by omega, by omega⟩ (B4.new ht) (((x1.trans x2).trans (x3.trans x4)).new ht) (B4.ne ht) upd_same
def spTwin : Sp := fun vs H Q _ => ∃ (b t u : Addr) (d n m r d2 n2 m2 r2 : Int), vs = [.ref b, .ref t, .ref u] ∧ BoxAt H b ∧ t ≠ b ∧ u ≠ b ∧ PlanAt H t d n m r ∧ PlanAt H u d2 n2 m2 r2 ∧ PlanOk d n m r ∧ PlanOk d2 n2 m2 r2 ∧
  ∀ v H' d', PlanOk d' n m2 r2 → ExB b H H' → v ≠ b → PlanAt H' v d' n m2 r2 → Q (.ref v) H'
theorem sc__law_twin : FnScope ["_law_box_here", "_law_plan_here", "_law_other", "_law_day_here"] ["_law_box_here", "_law_plan_here", "_law_other"] (defScope s__law_twin) := ⟨rfl, rfl, rfl, by decide +kernel, rfl, by decide +kernel, by decide +kernel⟩
theorem ok__law_twin (T : Txt K mg D) : FnOk P w K mg base CX0 3 D.a__law_twin D.d__law_twin ["_law_box_here", "_law_plan_here", "_law_other"] spTwin := by
  have G__law_draw := ok__law_draw (P := P) (w := w) (base := base) T
  refine T.F__law_twin.ok sc__law_twin (fun vs H Q E h => ?_) (fun cdv A outer s H vs Q E hr h => ?_)
  · obtain ⟨b, t, u, d, n, m, r, d2, n2, m2, r2, rfl, _⟩ := h
    rfl
  · obtain ⟨b, t, u, d, n, m, r, d2, n2, m2, r2, rfl, hb, htb, hub, ht, hu, ok1, ok2, k⟩ := h
    unfold PlanAt at ht hu
    obtain ⟨a1, a2, a3, a4, a5, a6, a7, a8⟩ := id ok1
    obtain ⟨c1, c2, c3, c4, c5, c6, c7, c8⟩ := id ok2
    refine ⟨_, (pss_cons (ps_set (i := 3) sc__law_twin.nd rfl (Or.inl rfl) (pe_op op_add (pe_ix ix_list (pv 1) pe_int (fun _ _ => rfl)) (pe_op op_mul (pe_ix ix_list (pv 1) pe_int (fun _ _ => rfl)) (pe_op op_sub (pe_call G__law_draw (hr.mono (by decide)) (by rfl) T.g__law_draw T.F__law_draw.kp T.b__law_draw .nil pass0 (pa_cons (pv 0) (pa_cons pe_int pa_nil))) pe_int))))
      (Evl.pss_cut (ps_if (pt_cmpR op_ge (pe_callB call_abs (by rfl) T.n_abs (by decide +kernel) (pa_cons (pv 3) pa_nil)) (pe_op op_pow pe_int pe_int) (nomark _))
      (pss_one (ps_set (i := 3) sc__law_twin.nd rfl (Or.inl rfl) (pe_ix ix_list (pv 1) pe_int (fun _ _ => rfl))))
      pss_nil)
      (pss_one (ps_ret (pe_lst (pa_cons (pv 3) (pa_cons (pe_ix ix_list (pv 1) pe_int (fun _ _ => rfl)) (pa_cons (pe_ix ix_list (pv 1) pe_int (fun _ _ => rfl)) (pa_cons (pe_ix ix_list (pv 2) pe_int (fun _ _ => rfl)) (pa_cons (pe_ix ix_list (pv 2) pe_int (fun _ _ => rfl)) pa_nil)))))))))), ?_⟩
    walk_at "rd"
    walk_at "dr"
    intro e H1 p1 q1 B1 x1
    have ht1 := x1 _ _ htb ht
    have hu1 := x1 _ _ hub hu
    walk_at "rd"
    refine ⟨fun σ' H' => Stop (∃ d', σ' = [some (.ref b), some (.ref t), some (.ref u), some (.int d')] ∧ H' = H1 ∧ -(10 ^ 18) < d' ∧ d' < 10 ^ 18 ∧ d' % n = d % n), ?_, fun σ2 H2 hm => ?_⟩
    · walk_at "rd"
      walk_at "br"
      · walk_at "rd"
        exact .go ⟨d, rfl, rfl, a3, a4, rfl⟩
      · have hlt : -(10 ^ 18) < d + n * (e - 2) ∧ d + n * (e - 2) < 10 ^ 18 := by
          split at * <;> omega
        exact .go ⟨d + n * (e - 2), rfl, rfl, hlt.1, hlt.2, Int.add_mul_emod_self_left _ _ _⟩
    · obtain ⟨d', rfl, rfl, e1, e2, e3⟩ := hm.out
      walk_at "rd"
      intro v hv
      refine k v _ d' ⟨a1, a2, e1, e2, c5, c6, c7, c8⟩ (x1.new hv) (B1.ne hv) ?_
      unfold PlanAt
      rw [e3]
      exact upd_same
end
end Toy
set_option Elab.async false
set_option linter.all false
set_option maxRecDepth 100000
set_option maxHeartbeats 4000000
namespace Toy
open PySem L2 XR
local macro_rules | `(tactic| walk_at "ne") => `(tactic| first | assumption | (apply Ne.symm; assumption) | exact XR.ne_fresh (by assumption) (by walk_at "hp") | exact Ne.symm (XR.ne_fresh (by assumption) (by walk_at "hp")))
local macro_rules | `(tactic| walk_at "hp") => `(tactic| first | assumption | exact upd_same | (refine Eq.trans (upd_ne ?_) ?_; (walk_at "ne"); walk_at "hp"))
local macro_rules | `(tactic| walk_at "sq") => `(tactic| first | walk_at "hp" | exact SqL.of (by walk_at "hp") | exact SqT.of (by walk_at "hp"))
local macro_rules | `(tactic| walk_at "br") => `(tactic| (refine ite2 ?_ ?_ <;> intro hbr <;> (try simp only [decide_eq_true_eq, decide_eq_false_iff_not, V.int.injEq, V.bl.injEq, V.str.injEq, Bool.not_eq_true, Bool.not_eq_eq_eq_not, Bool.not_true, Bool.not_false, ne_eq, Int.reduceToNat, Int.reducePow, Int.reduceMul, Int.reduceAdd, Int.reduceSub, reduceCtorEq, not_true_eq_false, not_false_eq_true, Int.not_lt, Int.not_le] at hbr)))
local macro_rules | `(tactic| walk_at "side") => `(tactic| first
  | exact ⟨by decide, by decide, by decide⟩
  | exact .inl ⟨by decide, by decide⟩
  | exact .inr ⟨by decide, by decide⟩
  | exact XR.divw (by first | decide | omega) (by first | decide | omega)
  | (show (_ : Int) = _; first | rfl | omega)
  | (show (0 : Int) < _; first | decide | assumption | omega)
  | exact .inl ⟨by omega, by omega⟩
  | exact .inr ⟨by omega, by omega⟩
  | exact .inl (XR.cmul_mod (by decide))
  | exact XR.log_lt (by omega) (by omega)
  | decide
  | (rw [sizeLine_eq]; simp; done)
  | (show 2 ≤ sizeLine; decide) | (show 3 ≤ sizeLine; decide) | (show 4 ≤ sizeLine; decide) | (show 5 ≤ sizeLine; decide) | (show 6 ≤ sizeLine; decide) | (show 7 ≤ sizeLine; decide) | (show 1 ≤ sizeLine; decide) | (show 8 ≤ sizeLine; decide) | (show 0 ≤ sizeLine; decide))
local macro_rules | `(tactic| walk_at "rd1") => `(tactic| first
  | refine ⟨_, rfl, ?_⟩
  | refine ⟨_, _, rfl, rfl, ?_⟩
  | refine ⟨_, _, _, _, rfl, rfl, (by walk_at "sq"), rfl, ?_⟩
  | refine ⟨_, _, _, _, rfl, rfl, (by walk_at "hp"), (by walk_at "hp"), (by walk_at "side"), ?_⟩
  | refine ⟨_, _, rfl, .inl (by walk_at "sq"), ?_⟩
  | refine ⟨_, _, rfl, .inr (by walk_at "sq"), ?_⟩
  | refine ⟨_, _, _, _, _, rfl, (by walk_at "hp"), (by walk_at "cls"), (by walk_at "noat"), rfl, ?_⟩
  | refine ⟨rfl, ?_⟩
  | refine And.intro (by walk_at "side") ?_
  | refine .inl ⟨_, rfl, ?_⟩
  | refine And.intro ⟨_, (by walk_at "sq")⟩ ?_
  | refine ⟨_, _, rfl, (by walk_at "sq"), ?_⟩
  | refine ⟨_, _, rfl, ?_⟩
  | refine .inr ⟨_, rfl, (by walk_at "side"), ?_⟩
  | refine iteT ?_
  | refine iteF ?_)
local macro_rules | `(tactic| walk_at "rd") => `(tactic| repeat (walk_at "rd1"))
local macro_rules | `(tactic| walk_at "nn") => `(tactic| (simp only [Int.reduceToNat, Int.reducePow, Int.reduceMul, Int.reduceAdd, Int.reduceSub, Int.reduceNeg]))
local macro_rules | `(tactic| walk_at "dr") => `(tactic| repeat (first | refine And.intro (by first | assumption | walk_at "pre") ?_ | refine And.intro (by first | decide | omega) ?_))

local macro_rules | `(tactic| walk_at "cls") => `(tactic| exact T_cl_Residue (by assumption))
local macro_rules | `(tactic| walk_at "noat") => `(tactic| first | exact Txt.no_place (by assumption) | exact Txt.no_length (by assumption))
local macro_rules | `(tactic| walk_at "pre") => `(tactic| first | assumption | exact BoxAt.new (by walk_at "pre") (by assumption) | exact BoxAt.same (by walk_at "pre") (by assumption))
section
variable {P : Program} {w : World} {K : PySem.W.Frag} {mg : Str → Option Value} {base : Heap} {D : Ad}
/-- it gives True, all stands -/
def Yes (H : Hp) (Q : VK) : Prop := ∀ H', Same H H' → Q (.bl true) H'
theorem Yes.at {H H' : Hp} {Q : VK} {z : Bool} (k : Yes H Q) (e : z = true) (x : Same H H') : Q (.bl z) H' := e ▸ k H' x
def spIs (D : Ad) : Sp := fun vs H Q _ => ∃ (p : Addr) (a n : Int), vs = [.ref p, .int a, .int n] ∧ ResAt D H p a n ∧ Q (.bl true) H
def spDays (D : Ad) : Sp := fun vs H Q _ => ∃ (p : Addr) (a n r : Int), vs = [.ref p, .int a, .int n, .int r] ∧ ResAt D H p a n ∧ 1 ≤ n ∧ n < 2 ^ 63 ∧ Yes H Q
theorem sc__law_is : FnScope ["_law_residue", "_law_spot", "_law_size_here"] ["_law_residue", "_law_spot", "_law_size_here"] (defScope s__law_is) := ⟨rfl, rfl, rfl, by decide +kernel, rfl, by decide +kernel, by decide +kernel⟩
theorem ok__law_is (T : Txt K mg D) : FnOk P w K mg base CX0 2 D.a__law_is D.d__law_is ["_law_residue", "_law_spot", "_law_size_here"] (spIs D) := by
  have G__law_is_number := ok__law_is_number (P := P) (w := w) (base := base) T
  refine T.F__law_is.ok sc__law_is (fun vs H Q E h => ?_) (fun cdv A outer s H vs Q E hr h => ?_)
  · obtain ⟨p, a, n, rfl, _⟩ := h
    rfl
  · obtain ⟨p, a, n, rfl, ⟨dx, hp⟩, k⟩ := h
    refine ⟨_, (pss_cons (ps_if (pt_not (pt_val (pe_callB call_isi (by rfl) T.n_isinstance (by decide +kernel) (pa_cons (pv 0) (pa_cons (pe_glob (v := .ref D.c_Residue) (by rfl) T.g_Residue rfl) pa_nil)))))
      (pss_one (ps_ret pe_bl))
      pss_nil)
      (pss_cons (ps_if (PW.pt (pw_or (pt_not (pt_val (pe_call G__law_is_number (hr.mono (by decide)) (by rfl) T.g__law_is_number T.F__law_is_number.kp T.b__law_is_number .nil pass0 (pa_cons (pe_fld (pv 0) rfl) pa_nil)))) (pw_or1 (pt_not (pt_val (pe_call G__law_is_number (hr.mono (by decide)) (by rfl) T.g__law_is_number T.F__law_is_number.kp T.b__law_is_number .nil pass0 (pa_cons (pe_fld (pv 0) rfl) pa_nil)))))))
      (pss_one (ps_ret pe_bl))
      pss_nil)
      (pss_one (ps_ret (pe_and (pe_cmpR op_eq (pe_fld (pv 0) rfl) (pv 1) (nomark _)) (pe_one (pe_cmpR op_eq (pe_fld (pv 0) rfl) (pv 2) (nomark _)))))))), ?_⟩
    walk_at "rd"
    refine ⟨_, _, _, _, true, rfl, .own D.c_Residue, T_ty_Residue T hp, T.z_Residue, ?_⟩
    walk_at "rd"
    have kk : ∀ z : Bool, z = true → Q (.bl z) H := fun z e => e ▸ k
    walk_at "br"
    · walk_at "rd"
      exact kk _ (by simp)
theorem sc__law_days : FnScope ["_law_residue", "_law_spot", "_law_size_here", "_law_near", "_law_hit", "_law_days_here", "_law_day_here", "_law_due", "_law_k"] ["_law_residue", "_law_spot", "_law_size_here", "_law_near"] (defScope s__law_days) := ⟨rfl, rfl, rfl, by decide +kernel, rfl, by decide +kernel, by decide +kernel⟩
theorem ok__law_days (T : Txt K mg D) : FnOk P w K mg base CX0 2 D.a__law_days D.d__law_days ["_law_residue", "_law_spot", "_law_size_here", "_law_near"] (spDays D) := by
  have G_Residue___contains__ := ok_Residue_has (P := P) (w := w) (base := base) T
  refine T.F__law_days.ok sc__law_days (fun vs H Q E h => ?_) (fun cdv A outer s H vs Q E hr h => ?_)
  · obtain ⟨p, a, n, r, rfl, _⟩ := h
    rfl
  · obtain ⟨p, a, n, r, rfl, ⟨dx, hp⟩, n1, n2, k⟩ := h
    refine ⟨_, (pss_cons (ps_set (i := 4) sc__law_days.nd rfl (Or.inl rfl) (pe_op op_sub (pv 3) (pe_op op_mod (pe_callTy call_int1 (by rfl) T.n_int (by decide +kernel) (pa_cons (pe_op op_sub (pv 3) (pv 1)) pa_nil)) (pv 2))))
      (pss_cons (ps_setLc (i := 5) (own := [("_law_k", 8)]) (g := gName 8) (tt := tYes) (by rfl) sc__law_days.nd rfl rfl (sw_true rfl rfl rfl (by decide +kernel)) (pi_range2 (by rfl) T.n_range (pa_cons (pe_un un_neg pe_int) (pa_cons pe_int pa_nil))) (blkOk_by (own := [("_law_k", 8)]) (N := ["_law_residue", "_law_spot", "_law_size_here", "_law_near", "_law_hit", "_law_days_here", "_law_day_here", "_law_due", "_law_k"]) (sc := defScope s__law_days) (by decide +kernel)) (fun _ _ _ _ _ => (pg_name (i := 8) sc__law_days.nd rfl (Or.inl rfl))) (fun _ _ _ _ _ => pts_nil) (fun _ _ _ _ _ => (pe_op op_add (pv 3) (pv 8))))
      (pss_cons (ps_set (i := 5) sc__law_days.nd rfl (Or.inl rfl) (pe_op op_cat (pv 5) (pe_lst (pa_cons (pe_op op_sub (pv 4) (pv 2)) (pa_cons (pe_op op_sub (pv 4) pe_int) (pa_cons (pv 4) (pa_cons (pe_op op_add (pv 4) pe_int) (pa_cons (pe_op op_add (pv 4) (pv 2)) pa_nil))))))))
      (pss_cons (ps_for PassesOwn.never rfl (pi_list (pv 5)) (pg_name (i := 6) sc__law_days.nd rfl (Or.inl rfl))
      (pss_one (ps_if (pt_cmpR op_lt (pe_callB call_abs (by rfl) T.n_abs (by decide +kernel) (pa_cons (pv 6) pa_nil)) (pe_op op_pow pe_int pe_int) (nomark _))
      (pss_cons (ps_set (i := 7) sc__law_days.nd rfl (Or.inl rfl) (pe_cmpR op_eq (pe_op op_mod (pe_callTy call_int1 (by rfl) T.n_int (by decide +kernel) (pa_cons (pe_op op_sub (pv 6) (pv 1)) pa_nil)) (pv 2)) pe_int (nomark _)))
      (pss_one (ps_if (pt_cmpR op_ne (pe_cmpR (XR.op_in_own (T_o_Residue___contains__ T) G_Residue___contains__ (hr.mono (by decide)) T.b_Residue___contains__ pass0) (pv 6) (pv 0) rfl) (pv 7) (nomark _))
      (pss_one (ps_ret pe_bl))
      pss_nil)))
      pss_nil)))
      (pss_one (ps_ret pe_bl)))))), ?_⟩
    walk_at "rd"
    intro Dl hD
    refine lc_range (fun i H' => ∃ ms : List Int, ms.length = i ∧ H' Dl = some (.lst (ms.map V.int)) ∧ (∀ q o, q ≠ Dl → H q = some o → H' q = some o))
      ⟨[], rfl, upd_same, fun q o hq e => by rw [upd_ne hq]; exact e⟩ ?_ ?_
    · rintro i H' hi ⟨ms, lm, e1, e2⟩
      walk_at "rd"
      refine ⟨_, e1, by rw [List.length_map, lm]; exact Nat.lt_of_lt_of_le hi (by decide), ms ++ [r + (-20 + (i : Int))], by simp [lm], ?_, fun q o hq e => by rw [upd_ne hq]; exact e2 q o hq e⟩
      rw [upd_same, List.map_append]
      rfl
    · rintro H' ⟨ms, lm, e1, e2⟩
      have x1 : Same H H' := fun q o e => e2 q o (ne_of_none e hD) e
      walk_at "rd"
      intro p2 hp2
      walk_at "rd"
      refine ⟨_, _, _, _, rfl, rfl, (by walk_at "hp"), upd_same, (by rw [List.length_map, lm, sizeLine_eq]; show (21 - -20 : Int).toNat + 5 ≤ 16777216; decide), fun p3 hp3 => ?_⟩
      walk_at "rd"
      have all : ∀ v ∈ (ms.map V.int ++ [.int (r - (r - a) % n - n), .int (r - (r - a) % n - 1), .int (r - (r - a) % n), .int (r - (r - a) % n + 1), .int (r - (r - a) % n + n)] : List V), ∃ z : Int, v = .int z := by
        intro v hv
        rcases List.mem_append.mp hv with h | h
        · obtain ⟨z, _, rfl⟩ := List.mem_map.mp h
          exact ⟨z, rfl⟩
        · simp only [List.mem_cons, List.not_mem_nil, or_false] at h
          rcases h with rfl | rfl | rfl | rfl | rfl <;> exact ⟨_, rfl⟩
      generalize hL : (ms.map V.int ++ [.int (r - (r - a) % n - n), .int (r - (r - a) % n - 1), .int (r - (r - a) % n), .int (r - (r - a) % n + 1), .int (r - (r - a) % n + n)] : List V) = L at all
      refine for_list (K := K) (a := p3) (xs := L) (fun i σ H2 => Stop (∃ (v1 v2 : Option V), σ = [some (.ref p), some (.int a), some (.int n), some (.int r), some (.int (r - (r - a) % n)), some (.ref p3), v1, v2, none] ∧ Same H H2 ∧ H2 p3 = some (.lst L)))
        (.go ⟨none, none, rfl, Same.new (Same.new x1 hp2) hp3, hL ▸ upd_same⟩) (fun i σ H2 _ h => by obtain ⟨_, _, _, _, e1⟩ := h.out; exact SqL.of e1) ?_ ?_
      · intro i x σ H2 hi hm
        obtain ⟨v1, v2, rfl, x2, e2⟩ := hm.out
        obtain ⟨z, rfl⟩ := all x (List.mem_of_getElem? hi)
        have hp2 := x2 _ _ hp
        walk_at "rd"
        walk_at "br"
        · walk_at "rd"
          refine ⟨_, _, _, rfl, hp2, p, a, n, z, rfl, ⟨dx, hp2⟩, n1, n2, ?_⟩
          walk_at "rd"
          refine ifF (by simp) ?_
          exact .go ⟨_, _, rfl, x2, e2⟩
        · exact .go ⟨_, _, rfl, x2, e2⟩
      · intro σ H2 hm
        obtain ⟨v1, v2, rfl, x2, e2⟩ := hm.out
        walk_at "rd"
        exact k _ x2
theorem sc__law_right : FnScope ["_law_residue", "_law_spot", "_law_size_here", "_law_near"] ["_law_residue", "_law_spot", "_law_size_here", "_law_near"] (defScope s__law_right) := ⟨rfl, rfl, rfl, by decide +kernel, rfl, by decide +kernel, by decide +kernel⟩
theorem ok__law_right (T : Txt K mg D) : FnOk P w K mg base CX0 3 D.a__law_right D.d__law_right ["_law_residue", "_law_spot", "_law_size_here", "_law_near"] (spDays D) := by
  have G__law_is := ok__law_is (P := P) (w := w) (base := base) T
  have G__law_days := ok__law_days (P := P) (w := w) (base := base) T
  refine T.F__law_right.ok sc__law_right (fun vs H Q E h => ?_) (fun cdv A outer s H vs Q E hr h => ?_)
  · obtain ⟨p, a, n, r, rfl, _⟩ := h
    rfl
  · obtain ⟨p, a, n, r, rfl, S, n1, n2, k⟩ := h
    refine ⟨_, (pss_one (ps_ret (pe_and (pe_call G__law_is (hr.mono (by decide)) (by rfl) T.g__law_is T.F__law_is.kp T.b__law_is .nil pass0 (pa_cons (pv 0) (pa_cons (pv 1) (pa_cons (pv 2) pa_nil)))) (pe_one (pe_call G__law_days (hr.mono (by decide)) (by rfl) T.g__law_days T.F__law_days.kp T.b__law_days .nil pass0 (pa_cons (pv 0) (pa_cons (pv 1) (pa_cons (pv 2) (pa_cons (pv 3) pa_nil))))))))), ?_⟩
    walk_at "rd"
    refine ⟨p, a, n, rfl, S, ?_⟩
    walk_at "rd"
    exact ⟨p, a, n, r, rfl, S, n1, n2, k⟩
theorem sc__law_refused : FnScope ["_law_day_here", "_law_size_here", "e"] ["_law_day_here", "_law_size_here"] (defScope s__law_refused) := ⟨rfl, rfl, rfl, by decide +kernel, rfl, by decide +kernel, by decide +kernel⟩
theorem ok__law_refused (T : Txt K mg D) : FnOk P w K mg base CX0 6 D.a__law_refused D.d__law_refused ["_law_day_here", "_law_size_here"] (fun vs H Q _ => ∃ (a n : Int), vs = [.int a, .int n] ∧ n < 1 ∧ Yes H Q) := by
  have G_Residue_init := ok_Residue_init (P := P) (w := w) (base := base) T
  have G__law_is_numberq := okq__law_is_number (P := P) (w := w) (base := base) T
  refine T.F__law_refused.ok sc__law_refused (fun vs H Q E h => ?_) (fun cdv A outer s H vs Q E hr h => ?_)
  · obtain ⟨a, n, rfl, _⟩ := h
    rfl
  · obtain ⟨a, n, rfl, hn, k⟩ := h
    refine ⟨_, (pss_cons (ps_try_as (i := 2) (Wout := fun _ _ _ _ => False) rfl rfl sc__law_refused.nd rfl rfl ⟨rfl, by decide, Or.inl T.g_ArchiveError⟩ takes0 (fun W pn xe tk _ => (pss_one (ps_expr (XR.pe_makeS (T_mk_Residue T) G_Residue_init (hr.mono (by decide)) (by rfl) T.g_Residue T.b_Residue_init (fun σ => passAt tk σ) (pa_cons (pv 0) (pa_cons (pv 1) pa_nil)))))) (fun a oe cls d pn hz hf => XR.cong_ts (by exact (pss_cons (ps_if (PW.pt (pw_or (pt_not (pt_val (pe_callB (id := "isinstance") (XR.call_isPs hz hf) (by rfl) T.n_isinstance (by decide +kernel) (pa_cons (pv 2) (pa_cons (pe_glob (v := .ref D.c_OutOfRange) (by rfl) T.g_OutOfRange rfl) pa_nil))))) (pw_or1 (pt_not (pt_val (pe_callB (id := "isinstance") (XR.call_isPs hz hf) (by rfl) T.n_isinstance (by decide +kernel) (pa_cons (pv 2) (pa_cons (pe_bltn (v := .ty "ValueError") (u := .type "ValueError") (by rfl) T.n_ValueError (by decide +kernel) rfl) pa_nil))))))))
      (pss_one (ps_ret pe_bl))
      pss_nil)
      (pss_cons (ps_if (pt_val (pe_callB (id := "isinstance") (XR.call_isPTs hz hf) (by rfl) T.n_isinstance (by decide +kernel) (pa_cons (pv 2) (pa_cons (pe_tup (pa_cons (pe_glob (v := .ref D.c_UnknownError) (by rfl) T.g_UnknownError rfl) (pa_cons (pe_glob (v := .ref D.c_TextError) (by rfl) T.g_TextError rfl) (pa_cons (pe_glob (v := .ref D.c_ImpossibleError) (by rfl) T.g_ImpossibleError rfl) pa_nil)))) pa_nil))))
      (pss_one (ps_ret pe_bl))
      pss_nil)
      (pss_one (ps_ret (pe_and (XR.pe_callQs G__law_is_numberq (XR.hot_of (hr.mono (by decide))) (by rfl) T.g__law_is_number T.F__law_is_number.kp T.b__law_is_number (pa_cons (XR.pe_pfs hz hf (pv 2)) pa_nil)) (pe_one (pe_cmpR op_eq (XR.pe_pfs hz hf (pv 2)) (pv 1) (nomark _))))))))) (by rfl)))
      (pss_one (ps_ret pe_bl))), ?_⟩
    walk_at "rd"
    intro r dr nr nd ne
    refine mk2 nr nd ne (by omega) (fun _ => ?_) (fun h => by omega)
    intro e H1 he x1
    refine ⟨true, T.m_oa, fun _ ea hea => ?_, fun h => by cases h⟩
    walk_at "rd"
    refine ⟨_, e, _, _, _, true, rfl, rfl, by walk_at "hp", T_as_OutOfRange T, rfl, .own _, T.z_oO, ?_⟩
    walk_at "rd"
    refine ⟨_, e, _, _, _, true, rfl, rfl, by walk_at "hp", T_as_OutOfRange T, rfl, .ty _, T.z_oV, ?_⟩
    walk_at "rd"
    intro tp htp
    walk_at "rd"
    refine ⟨_, e, tp, _, _, _, false, rfl, rfl, by walk_at "hp", T_as_OutOfRange T, rfl, upd_same, .cons (.own _) (.cons (.own _) (.cons (.own _) .nil)), XR.kitAny_cons T.z_oU (XR.kitAny_cons T.z_oT (XR.kitAny_cons T.z_oI rfl)), ?_⟩
    walk_at "rd"
    refine ⟨_, e, _, _, rfl, rfl, rfl, by walk_at "hp", T_xf_OutOfRange T, T.e_value, rfl, ?_⟩
    walk_at "rd"
    refine ⟨_, e, _, _, rfl, rfl, rfl, by walk_at "hp", T_xf_OutOfRange T, T.e_value, rfl, ?_⟩
    walk_at "rd"
    exact k.at (by simp) (Same.new x1 htp)

theorem back_sub {s m n : Int} (h0 : 0 ≤ s) (h1 : s < n) : ((s + m) % n - m) % n = s := by
  rw [Int.sub_emod, Int.emod_emod_of_dvd _ (Int.dvd_refl n), ← Int.sub_emod, show s + m - m = s by omega]
  exact Int.emod_eq_of_lt h0 h1
theorem back_add {s m n : Int} (h0 : 0 ≤ s) (h1 : s < n) : ((s - m) % n + m) % n = s := by
  rw [Int.add_emod, Int.emod_emod_of_dvd _ (Int.dvd_refl n), ← Int.add_emod, show s - m + m = s by omega]
  exact Int.emod_eq_of_lt h0 h1
theorem back_neg {s n : Int} (h0 : 0 ≤ s) (h1 : s < n) : (-(-s % n)) % n = s := by
  rw [show -(-s % n) = 0 - (-s % n) by omega, Int.sub_emod, Int.emod_emod_of_dvd _ (Int.dvd_refl n), ← Int.sub_emod, show 0 - -s = s by omega]
  exact Int.emod_eq_of_lt h0 h1
theorem next_eq {d n : Int} (h : 1 ≤ n) : d % n = (d + 1) % n ↔ n = 1 := by
  constructor
  · intro e
    have h2 : (d + 1 - d) % n = 0 := Int.emod_eq_emod_iff_emod_sub_eq_zero.mp e.symm
    rw [show d + 1 - d = 1 by omega] at h2
    by_cases z : n = 1
    · exact z
    · rw [Int.emod_eq_of_lt (by omega) (by omega)] at h2
      omega
  · rintro rfl
    rw [Int.emod_one, Int.emod_one]
def spOne (D : Ad) : Sp := fun vs H Q _ => ∃ (p t : Addr) (d n m r : Int), vs = [.ref p, .ref t] ∧ ResAt D H p (d % n) n ∧ PlanAt H t d n m r ∧ PlanOk d n m r ∧ Yes H Q
theorem sc__law_one : FnScope ["_law_residue", "_law_plan_here", "_law_size_here", "_law_spot", "_law_many", "_law_near", "_law_up", "_law_down", "_law_about"] ["_law_residue", "_law_plan_here"] (defScope s__law_one) := ⟨rfl, rfl, rfl, by decide +kernel, rfl, by decide +kernel, by decide +kernel⟩
theorem ok__law_one (T : Txt K mg D) : FnOk P w K mg base CX0 6 D.a__law_one D.d__law_one ["_law_residue", "_law_plan_here"] (spOne D) := by
  have G__law_is := ok__law_is (P := P) (w := w) (base := base) T
  have G__law_right := ok__law_right (P := P) (w := w) (base := base) T
  have G_Residue___str__ := ok_Residue_str (P := P) (w := w) (base := base) T
  have G_Residue___add__ := ok_Residue_add (P := P) (w := w) (base := base) T
  have G_Residue___sub__ := ok_Residue_sub (P := P) (w := w) (base := base) T
  have G_Residue___neg__ := ok_Residue_neg (P := P) (w := w) (base := base) T
  have G_Residue___eq__ := ok_Residue_eq (P := P) (w := w) (base := base) T
  refine T.F__law_one.ok sc__law_one (fun vs H Q E h => ?_) (fun cdv A outer s H vs Q E hr h => ?_)
  · obtain ⟨p, t, d, n, m, r, rfl, _⟩ := h
    rfl
  · obtain ⟨p, t, d, n, m, r, rfl, S, ht, ⟨n1, n2, d1, d2, m1, m2, r1, r2⟩, k⟩ := h
    unfold PlanAt at ht
    have s0 := Int.emod_nonneg d (b := n) (by omega)
    have s1 := Int.emod_lt_of_pos d (b := n) (by omega)
    generalize d % n = s2 at *
    have ez : sizeLine = 16777216 := sizeLine_eq
    have la := PyProof.Rows.int_text_len_1921 (i := s2) (XR.log_lt (by omega) (by omega))
    have lb := PyProof.Rows.int_text_len_1921 (i := n) (XR.log_lt (by omega) (by omega))
    have l2 : (Str.ofString " mod ").length = 5 := rfl
    refine ⟨_, (pss_cons (ps_set (i := 2) sc__law_one.nd rfl (Or.inl rfl) (pe_ix ix_list (pv 1) pe_int (fun _ _ => rfl)))
      (pss_cons (ps_set (i := 3) sc__law_one.nd rfl (Or.inl rfl) (pe_ix ix_list (pv 1) pe_int (fun _ _ => rfl)))
      (pss_cons (ps_set (i := 4) sc__law_one.nd rfl (Or.inl rfl) (pe_ix ix_list (pv 1) pe_int (fun _ _ => rfl)))
      (pss_cons (ps_set (i := 5) sc__law_one.nd rfl (Or.inl rfl) (pe_ix ix_list (pv 1) pe_int (fun _ _ => rfl)))
      (pss_cons (ps_if (pt_not (pt_val (pe_call G__law_right (hr.mono (by decide)) (by rfl) T.g__law_right T.F__law_right.kp T.b__law_right .nil pass0 (pa_cons (pv 0) (pa_cons (pv 3) (pa_cons (pv 2) (pa_cons (pv 5) pa_nil)))))))
      (pss_one (ps_ret pe_bl))
      pss_nil)
      (pss_cons (ps_if (pt_cmpR op_ne (pe_callTy (XR.call_str_own (T_o_Residue___str__ T) G_Residue___str__ (hr.mono (by decide)) T.b_Residue___str__ pass0) (by rfl) T.n_str (by decide +kernel) (pa_cons (pv 0) pa_nil)) (pe_op op_add_str (pe_op op_add_str (pe_callTy call_str_int (by rfl) T.n_str (by decide +kernel) (pa_cons (pv 3) pa_nil)) pe_str) (pe_callTy call_str_int (by rfl) T.n_str (by decide +kernel) (pa_cons (pv 2) pa_nil))) (nomark _))
      (pss_one (ps_ret pe_bl))
      pss_nil)
      (pss_cons (ps_set (i := 6) sc__law_one.nd rfl (Or.inl rfl) (pe_op (XR.op_ownI (T_o_Residue___add__ T) (T_i_Residue___add__ T) G_Residue___add__ (hr.mono (by decide)) T.b_Residue___add__ pass0) (pv 0) (pv 4)))
      (pss_cons (ps_if (pt_not (pt_val (pe_call G__law_right (hr.mono (by decide)) (by rfl) T.g__law_right T.F__law_right.kp T.b__law_right .nil pass0 (pa_cons (pv 6) (pa_cons (pe_op op_mod (pe_callTy call_int1 (by rfl) T.n_int (by decide +kernel) (pa_cons (pe_op op_add (pv 3) (pv 4)) pa_nil)) (pv 2)) (pa_cons (pv 2) (pa_cons (pv 5) pa_nil)))))))
      (pss_one (ps_ret pe_bl))
      pss_nil)
      (pss_cons (ps_set (i := 7) sc__law_one.nd rfl (Or.inl rfl) (pe_op (XR.op_ownI (T_o_Residue___sub__ T) (T_i_Residue___sub__ T) G_Residue___sub__ (hr.mono (by decide)) T.b_Residue___sub__ pass0) (pv 0) (pv 4)))
      (pss_cons (ps_if (pt_not (pt_val (pe_call G__law_right (hr.mono (by decide)) (by rfl) T.g__law_right T.F__law_right.kp T.b__law_right .nil pass0 (pa_cons (pv 7) (pa_cons (pe_op op_mod (pe_callTy call_int1 (by rfl) T.n_int (by decide +kernel) (pa_cons (pe_op op_sub (pv 3) (pv 4)) pa_nil)) (pv 2)) (pa_cons (pv 2) (pa_cons (pv 5) pa_nil)))))))
      (pss_one (ps_ret pe_bl))
      pss_nil)
      (pss_cons (ps_set (i := 8) sc__law_one.nd rfl (Or.inl rfl) (pe_un (XR.un_neg_own (T_o_Residue___neg__ T) G_Residue___neg__ (hr.mono (by decide)) T.b_Residue___neg__ pass0) (pv 0)))
      (pss_cons (ps_if (pt_not (pt_val (pe_call G__law_right (hr.mono (by decide)) (by rfl) T.g__law_right T.F__law_right.kp T.b__law_right .nil pass0 (pa_cons (pv 8) (pa_cons (pe_op op_mod (pe_callTy call_int1 (by rfl) T.n_int (by decide +kernel) (pa_cons (pe_un un_neg (pv 3)) pa_nil)) (pv 2)) (pa_cons (pv 2) (pa_cons (pv 5) pa_nil)))))))
      (pss_one (ps_ret pe_bl))
      pss_nil)
      (pss_cons (ps_if (PW.pt (pw_or (pt_not (pt_cmpR (XR.op_eq_own (T_o_Residue___eq__ T) G_Residue___eq__ (hr.mono (by decide)) T.b_Residue___eq__ pass0) (pe_op (XR.op_ownI (T_o_Residue___sub__ T) (T_i_Residue___sub__ T) G_Residue___sub__ (hr.mono (by decide)) T.b_Residue___sub__ pass0) (pv 6) (pv 4)) (pv 0) (nomark _))) (pw_or1 (pt_not (pt_cmpR (XR.op_eq_own (T_o_Residue___eq__ T) G_Residue___eq__ (hr.mono (by decide)) T.b_Residue___eq__ pass0) (pe_op (XR.op_ownI (T_o_Residue___add__ T) (T_i_Residue___add__ T) G_Residue___add__ (hr.mono (by decide)) T.b_Residue___add__ pass0) (pv 7) (pv 4)) (pv 0) (nomark _))))))
      (pss_one (ps_ret pe_bl))
      pss_nil)
      (pss_cons (ps_if (PW.pt (pw_or (pt_not (pt_cmpR (XR.op_eq_own (T_o_Residue___eq__ T) G_Residue___eq__ (hr.mono (by decide)) T.b_Residue___eq__ pass0) (pe_un (XR.un_neg_own (T_o_Residue___neg__ T) G_Residue___neg__ (hr.mono (by decide)) T.b_Residue___neg__ pass0) (pv 8)) (pv 0) (nomark _))) (pw_or1 (pt_not (pt_val (pe_call G__law_is (hr.mono (by decide)) (by rfl) T.g__law_is T.F__law_is.kp T.b__law_is .nil pass0 (pa_cons (pe_un (XR.un_neg_own (T_o_Residue___neg__ T) G_Residue___neg__ (hr.mono (by decide)) T.b_Residue___neg__ pass0) (pv 8)) (pa_cons (pv 3) (pa_cons (pv 2) pa_nil)))))))))
      (pss_one (ps_ret pe_bl))
      pss_nil)
      (pss_one (ps_ret (pe_call G__law_is (hr.mono (by decide)) (by rfl) T.g__law_is T.F__law_is.kp T.b__law_is .nil pass0 (pa_cons (pv 0) (pa_cons (pv 3) (pa_cons (pv 2) pa_nil)))))))))))))))))))), ?_⟩
    walk_at "rd"
    refine ⟨p, s2, n, r, rfl, S, n1, by omega, fun H1 x1 => ?_⟩
    obtain ⟨dx, hp⟩ := S.same x1
    walk_at "rd"
    refine ⟨_, _, _, rfl, hp, p, s2, n, rfl, ⟨dx, hp⟩, by omega, by omega, by omega, by omega, ?_⟩
    walk_at "rd"
    refine ⟨by omega, ?_⟩
    walk_at "rd"
    refine ⟨by rw [Str.length_append]; omega, ?_⟩
    have et : textOf s2 n = Str.ofString (toString s2) ++ Str.ofString " mod " ++ Str.ofString (toString n) := by
      unfold textOf
      rw [empty_app]
    rw [et]
    walk_at "rd"
    refine ifF (by simp) ?_
    walk_at "rd"
    refine ⟨_, _, _, _, rfl, rfl, hp, p, s2, n, m, rfl, ⟨dx, hp⟩, n1, by omega, fun q2 H2 k2 x2 S2 => ?_⟩
    walk_at "rd"
    refine ⟨q2, _, n, r, rfl, S2, n1, by omega, fun H3 x3 => ?_⟩
    obtain ⟨dx3, hp3⟩ := S.same (x1.trans (x2.trans x3))
    walk_at "rd"
    refine ⟨_, _, _, _, rfl, rfl, hp3, p, s2, n, m, rfl, ⟨dx3, hp3⟩, n1, by omega, fun q4 H4 k4 x4 S4 => ?_⟩
    walk_at "rd"
    refine ⟨q4, _, n, r, rfl, S4, n1, by omega, fun H5 x5 => ?_⟩
    have S5 : ResAt D H5 p s2 n := ResAt.same ⟨dx3, hp3⟩ (x4.trans x5)
    obtain ⟨dx5, hp5⟩ := id S5
    walk_at "rd"
    refine ⟨_, _, _, rfl, hp5, p, s2, n, rfl, ⟨dx5, hp5⟩, n1, by omega, fun q6 H6 k6 x6 S6 => ?_⟩
    walk_at "rd"
    refine ⟨q6, _, n, r, rfl, S6, n1, by omega, fun H7 x7 => ?_⟩
    have S7 := S5.same (x6.trans x7)
    have S6' := S6.same x7
    have S4' := S4.same (x5.trans (x6.trans x7))
    obtain ⟨d7, h7⟩ := S2.same ((x3.trans x4).trans (x5.trans (x6.trans x7)))
    walk_at "rd"
    refine ⟨_, _, _, _, rfl, rfl, h7, q2, _, n, m, rfl, ⟨d7, h7⟩, n1, by omega, fun q8 H8 k8 x8 S8 => ?_⟩
    obtain ⟨d8, h8⟩ := id S8
    obtain ⟨d9, h9⟩ := S7.same x8
    walk_at "rd"
    refine ⟨_, _, _, _, _, _, rfl, rfl, h8, h9, q8, p, _, n, s2, n, rfl, S8, ⟨d9, h9⟩, fun _ => ?_, fun z => (z ⟨back_sub s0 s1, rfl⟩).elim⟩
    obtain ⟨d10, h10⟩ := S4'.same x8
    walk_at "rd"
    refine ⟨_, _, _, _, rfl, rfl, h10, q4, _, n, m, rfl, ⟨d10, h10⟩, n1, by omega, fun q9 H9 k9 x9 S9 => ?_⟩
    obtain ⟨d11, h11⟩ := id S9
    obtain ⟨d12, h12⟩ := S7.same (x8.trans x9)
    walk_at "rd"
    refine ⟨_, _, _, _, _, _, rfl, rfl, h11, h12, q9, p, _, n, s2, n, rfl, S9, ⟨d12, h12⟩, fun _ => ?_, fun z => (z ⟨back_add s0 s1, rfl⟩).elim⟩
    obtain ⟨d13, h13⟩ := S6'.same (x8.trans x9)
    walk_at "rd"
    refine ⟨_, _, _, rfl, h13, q6, _, n, rfl, ⟨d13, h13⟩, n1, by omega, fun q14 H14 k14 x14 S14 => ?_⟩
    obtain ⟨d14, h14⟩ := id S14
    obtain ⟨d15, h15⟩ := S7.same ((x8.trans x9).trans x14)
    walk_at "rd"
    refine ⟨_, _, _, _, _, _, rfl, rfl, h14, h15, q14, p, _, n, s2, n, rfl, S14, ⟨d15, h15⟩, fun _ => ?_, fun z => (z ⟨back_neg s0 s1, rfl⟩).elim⟩
    obtain ⟨d16, h16⟩ := S6'.same ((x8.trans x9).trans x14)
    walk_at "rd"
    refine ⟨_, _, _, rfl, h16, q6, _, n, rfl, ⟨d16, h16⟩, n1, by omega, fun q17 H17 k17 x17 S17 => ?_⟩
    walk_at "rd"
    refine ⟨q17, s2, n, rfl, (by have e := back_neg s0 s1; rw [e] at S17; exact S17), ?_⟩
    walk_at "rd"
    refine ⟨p, s2, n, rfl, S7.same ((x8.trans x9).trans (x14.trans x17)), ?_⟩
    exact k _ ((((x1.trans x2).trans (x3.trans x4)).trans ((x5.trans x6).trans x7)).trans ((x8.trans x9).trans (x14.trans x17)))
end
end Toy
set_option Elab.async false
set_option linter.all false
set_option maxRecDepth 100000
set_option maxHeartbeats 4000000
namespace Toy
open PySem L2 XR
local macro_rules | `(tactic| walk_at "ne") => `(tactic| first | assumption | (apply Ne.symm; assumption) | exact XR.ne_fresh (by assumption) (by walk_at "hp") | exact Ne.symm (XR.ne_fresh (by assumption) (by walk_at "hp")))
local macro_rules | `(tactic| walk_at "hp") => `(tactic| first | assumption | exact upd_same | (refine Eq.trans (upd_ne ?_) ?_; (walk_at "ne"); walk_at "hp"))
local macro_rules | `(tactic| walk_at "sq") => `(tactic| first | walk_at "hp" | exact SqL.of (by walk_at "hp") | exact SqT.of (by walk_at "hp"))
local macro_rules | `(tactic| walk_at "br") => `(tactic| (refine ite2 ?_ ?_ <;> intro hbr <;> (try simp only [decide_eq_true_eq, decide_eq_false_iff_not, V.int.injEq, V.bl.injEq, V.str.injEq, Bool.not_eq_true, Bool.not_eq_eq_eq_not, Bool.not_true, Bool.not_false, ne_eq, Int.reduceToNat, Int.reducePow, Int.reduceMul, Int.reduceAdd, Int.reduceSub, reduceCtorEq, not_true_eq_false, not_false_eq_true, Int.not_lt, Int.not_le] at hbr)))
local macro_rules | `(tactic| walk_at "side") => `(tactic| first
  | exact ⟨by decide, by decide, by decide⟩
  | exact .inl ⟨by decide, by decide⟩
  | exact .inr ⟨by decide, by decide⟩
  | exact XR.divw (by first | decide | omega) (by first | decide | omega)
  | (show (_ : Int) = _; first | rfl | omega)
  | (show (0 : Int) < _; first | decide | assumption | omega)
  | exact .inl ⟨by omega, by omega⟩
  | exact .inr ⟨by omega, by omega⟩
  | exact .inl (XR.cmul_mod (by decide))
  | exact XR.log_lt (by omega) (by omega)
  | decide
  | (rw [sizeLine_eq]; simp; done)
  | (show 2 ≤ sizeLine; decide) | (show 3 ≤ sizeLine; decide) | (show 4 ≤ sizeLine; decide) | (show 5 ≤ sizeLine; decide) | (show 6 ≤ sizeLine; decide) | (show 7 ≤ sizeLine; decide) | (show 1 ≤ sizeLine; decide) | (show 8 ≤ sizeLine; decide) | (show 0 ≤ sizeLine; decide))
local macro_rules | `(tactic| walk_at "rd1") => `(tactic| first
  | refine ⟨_, rfl, ?_⟩
  | refine ⟨_, _, rfl, rfl, ?_⟩
  | refine ⟨_, _, _, _, rfl, rfl, (by walk_at "sq"), rfl, ?_⟩
  | refine ⟨_, _, _, _, rfl, rfl, (by walk_at "hp"), (by walk_at "hp"), (by walk_at "side"), ?_⟩
  | refine ⟨_, _, rfl, .inl (by walk_at "sq"), ?_⟩
  | refine ⟨_, _, rfl, .inr (by walk_at "sq"), ?_⟩
  | refine ⟨_, _, _, _, _, rfl, (by walk_at "hp"), (by walk_at "cls"), (by walk_at "noat"), rfl, ?_⟩
  | refine ⟨rfl, ?_⟩
  | refine And.intro (by walk_at "side") ?_
  | refine .inl ⟨_, rfl, ?_⟩
  | refine And.intro ⟨_, (by walk_at "sq")⟩ ?_
  | refine ⟨_, _, rfl, (by walk_at "sq"), ?_⟩
  | refine ⟨_, _, rfl, ?_⟩
  | refine .inr ⟨_, rfl, (by walk_at "side"), ?_⟩
  | refine iteT ?_
  | refine iteF ?_)
local macro_rules | `(tactic| walk_at "rd") => `(tactic| repeat (walk_at "rd1"))
local macro_rules | `(tactic| walk_at "nn") => `(tactic| (simp only [Int.reduceToNat, Int.reducePow, Int.reduceMul, Int.reduceAdd, Int.reduceSub, Int.reduceNeg]))
local macro_rules | `(tactic| walk_at "dr") => `(tactic| repeat (first | refine And.intro (by first | assumption | walk_at "pre") ?_ | refine And.intro (by first | decide | omega) ?_))

local macro_rules | `(tactic| walk_at "cls") => `(tactic| exact T_cl_Residue (by assumption))
local macro_rules | `(tactic| walk_at "noat") => `(tactic| first | exact Txt.no_place (by assumption) | exact Txt.no_length (by assumption))
local macro_rules | `(tactic| walk_at "pre") => `(tactic| first | assumption | exact BoxAt.new (by walk_at "pre") (by assumption) | exact BoxAt.same (by walk_at "pre") (by assumption))
section
variable {P : Program} {w : World} {K : PySem.W.Frag} {mg : Str → Option Value} {base : Heap} {D : Ad}
def spEqual (D : Ad) : Sp := fun vs H Q _ => ∃ (p t : Addr) (d n m r : Int), vs = [.ref p, .ref t] ∧ ResAt D H p (d % n) n ∧ PlanAt H t d n m r ∧ PlanOk d n m r ∧ Yes H Q
theorem sc__law_equal : FnScope ["_law_residue", "_law_plan_here", "_law_size_here", "_law_k", "_law_day_here"] ["_law_residue", "_law_plan_here"] (defScope s__law_equal) := ⟨rfl, rfl, rfl, by decide +kernel, rfl, by decide +kernel, by decide +kernel⟩
theorem ok__law_equal (T : Txt K mg D) : FnOk P w K mg base CX0 6 D.a__law_equal D.d__law_equal ["_law_residue", "_law_plan_here"] (spEqual D) := by
  have G_Residue_init := ok_Residue_init (P := P) (w := w) (base := base) T
  have G_Residue___eq__ := ok_Residue_eq (P := P) (w := w) (base := base) T
  refine T.F__law_equal.ok sc__law_equal (fun vs H Q E h => ?_) (fun cdv A outer s H vs Q E hr h => ?_)
  · obtain ⟨p, t, d, n, m, r, rfl, _⟩ := h
    rfl
  · obtain ⟨p, t, d, n, m, r, rfl, S, ht, ⟨n1, n2, d1, d2, m1, m2, r1, r2⟩, k⟩ := h
    unfold PlanAt at ht
    refine ⟨_, (pss_cons (ps_set (i := 2) sc__law_equal.nd rfl (Or.inl rfl) (pe_ix ix_list (pv 1) pe_int (fun _ _ => rfl)))
      (pss_cons (ps_for PassesOwn.never rfl (pi_range2 (by rfl) T.n_range (pa_cons (pe_un un_neg pe_int) (pa_cons pe_int pa_nil))) (pg_name (i := 3) sc__law_equal.nd rfl (Or.inl rfl))
      (pss_cons (ps_set (i := 4) sc__law_equal.nd rfl (Or.inl rfl) (pe_op op_add (pe_ix ix_list (pv 1) pe_int (fun _ _ => rfl)) (pe_op op_mul (pv 3) (pv 2))))
      (pss_one (ps_if (PW.pt (pw_and (pt_cmpR op_lt (pe_callB call_abs (by rfl) T.n_abs (by decide +kernel) (pa_cons (pv 4) pa_nil)) (pe_op op_pow pe_int pe_int) (nomark _)) (pw_and1 (pt_not (pt_cmpR (XR.op_eq_own (T_o_Residue___eq__ T) G_Residue___eq__ (hr.mono (by decide)) T.b_Residue___eq__ pass0) (pv 0) (pe_make (T_mk_Residue T) G_Residue_init (hr.mono (by decide)) (by rfl) T.g_Residue T.b_Residue_init .nil passL (pa_cons (pv 4) (pa_cons (pv 2) pa_nil))) (nomark _))))))
      (pss_one (ps_ret pe_bl))
      pss_nil))))
      (Evl.pss_cut (ps_if (pt_cmpR op_lt (pe_callB call_abs (by rfl) T.n_abs (by decide +kernel) (pa_cons (pe_op op_add (pe_ix ix_list (pv 1) pe_int (fun _ _ => rfl)) pe_int) pa_nil)) (pe_op op_pow pe_int pe_int) (nomark _))
      (pss_one (ps_if (pt_cmpR op_ne (pe_cmpR (XR.op_eq_own (T_o_Residue___eq__ T) G_Residue___eq__ (hr.mono (by decide)) T.b_Residue___eq__ pass0) (pv 0) (pe_make (T_mk_Residue T) G_Residue_init (hr.mono (by decide)) (by rfl) T.g_Residue T.b_Residue_init .nil passL (pa_cons (pe_op op_add (pe_ix ix_list (pv 1) pe_int (fun _ _ => rfl)) pe_int) (pa_cons (pv 2) pa_nil))) (nomark _)) (pe_cmpR op_eq (pv 2) pe_int (nomark _)) (nomark _))
      (pss_one (ps_ret pe_bl))
      pss_nil))
      pss_nil)
      (Evl.pss_cut (ps_if (PW.pt (pw_and (pt_cmpR op_lt (pe_op op_add (pv 2) pe_int) (pe_op op_pow pe_int pe_int) (nomark _)) (pw_and1 (pt_cmpR (XR.op_eq_own (T_o_Residue___eq__ T) G_Residue___eq__ (hr.mono (by decide)) T.b_Residue___eq__ pass0) (pv 0) (pe_make (T_mk_Residue T) G_Residue_init (hr.mono (by decide)) (by rfl) T.g_Residue T.b_Residue_init .nil passL (pa_cons (pe_ix ix_list (pv 1) pe_int (fun _ _ => rfl)) (pa_cons (pe_op op_add (pv 2) pe_int) pa_nil))) (nomark _)))))
      (pss_one (ps_ret pe_bl))
      pss_nil)
      (pss_one (ps_ret (pe_not (pe_and (pe_cmpR op_lt (pe_op op_mul pe_int (pv 2)) (pe_op op_pow pe_int pe_int) (nomark _)) (pe_one (pe_cmpR (XR.op_eq_own (T_o_Residue___eq__ T) G_Residue___eq__ (hr.mono (by decide)) T.b_Residue___eq__ pass0) (pv 0) (pe_make (T_mk_Residue T) G_Residue_init (hr.mono (by decide)) (by rfl) T.g_Residue T.b_Residue_init .nil passL (pa_cons (pe_ix ix_list (pv 1) pe_int (fun _ _ => rfl)) (pa_cons (pe_op op_mul pe_int (pv 2)) pa_nil))) (nomark _))))))))))), ?_⟩
    walk_at "rd"
    refine for_range (fun i σ H2 => Stop (∃ (v1 v2 : Option V), σ = [some (.ref p), some (.ref t), some (.int n), v1, v2] ∧ Same H H2)) (.go ⟨none, none, rfl, Same.refl H⟩) ?_ ?_
    · intro i σ H2 hi hm
      obtain ⟨v1, v2, rfl, x2⟩ := hm.out
      have hi : i < 5 := hi
      have ht2 := x2 _ _ ht
      walk_at "rd"
      walk_at "br"
      · walk_at "rd"
        intro q dq nq nd ne
        refine mk2 nq nd ne (by omega) (fun h => by omega) fun _ H3 x3 S3 => ?_
        obtain ⟨d3, h3⟩ := id S3
        obtain ⟨d4, h4⟩ := S.same (x2.trans x3)
        walk_at "rd"
        refine ⟨_, _, _, _, _, _, rfl, rfl, h4, h3, p, q, d % n, n, _, n, rfl, ⟨d4, h4⟩, S3, fun _ => ?_, fun z => (z ⟨(Int.add_mul_emod_self_right _ _ _).symm, rfl⟩).elim⟩
        walk_at "rd"
        exact .go ⟨_, _, rfl, x2.trans x3⟩
      · walk_at "rd"
        exact .go ⟨_, _, rfl, x2⟩
    · intro σ H2 hm
      obtain ⟨v1, v2, rfl, x2⟩ := hm.out
      have ht2 := x2 _ _ ht
      walk_at "rd"
      refine ⟨fun σ' H' => Stop (σ' = [some (.ref p), some (.ref t), some (.int n), v1, v2] ∧ Same H H'), ?_, fun σ3 H3 hm => ?_⟩
      · walk_at "rd"
        walk_at "br"
        · walk_at "rd"
          intro q dq nq nd ne
          refine mk2 nq nd ne (by omega) (fun h => by omega) fun _ H3 x3 S3 => ?_
          obtain ⟨d3, h3⟩ := id S3
          obtain ⟨d4, h4⟩ := S.same (x2.trans x3)
          walk_at "rd"
          refine ⟨_, _, _, _, _, _, rfl, rfl, h4, h3, p, q, d % n, n, _, n, rfl, ⟨d4, h4⟩, S3, fun y => ?_, fun y => ?_⟩
          · have hn := (next_eq n1).mp y.1
            walk_at "rd"
            refine ifF (by simp [hn]) ?_
            exact .go ⟨rfl, x2.trans x3⟩
          · have hn : n ≠ 1 := fun z => y ⟨(next_eq n1).mpr z, rfl⟩
            walk_at "rd"
            refine ifF (by simp [hn]) ?_
            exact .go ⟨rfl, x2.trans x3⟩
        · exact .go ⟨rfl, x2⟩
      · obtain ⟨rfl, x3⟩ := hm.out
        have ht3 := x3 _ _ ht
        refine ⟨fun σ' H' => Stop (σ' = [some (.ref p), some (.ref t), some (.int n), v1, v2] ∧ Same H H'), ?_, fun σ4 H4 hm => ?_⟩
        · walk_at "rd"
          walk_at "br"
          · walk_at "rd"
            intro q dq nq nd ne
            refine mk2 nq nd ne (by omega) (fun h => by omega) fun _ H4 x4 S4 => ?_
            obtain ⟨d4, h4⟩ := id S4
            obtain ⟨d5, h5⟩ := S.same (x3.trans x4)
            walk_at "rd"
            refine ⟨_, _, _, _, _, _, rfl, rfl, h5, h4, p, q, d % n, n, _, _, rfl, ⟨d5, h5⟩, S4, fun y => by omega, fun _ => ?_⟩
            walk_at "rd"
            exact .go ⟨rfl, x3.trans x4⟩
          · walk_at "rd"
            exact .go ⟨rfl, x3⟩
        · obtain ⟨rfl, x4⟩ := hm.out
          have ht4 := x4 _ _ ht
          walk_at "rd"
          walk_at "br"
          · walk_at "rd"
            intro q dq nq nd ne
            refine mk2 nq nd ne (by omega) (fun h => by omega) fun _ H5 x5 S5 => ?_
            obtain ⟨d5, h5⟩ := id S5
            obtain ⟨d6, h6⟩ := S.same (x4.trans x5)
            walk_at "rd"
            refine ⟨_, _, _, _, _, _, rfl, rfl, h6, h5, p, q, d % n, n, _, _, rfl, ⟨d6, h6⟩, S5, fun y => by omega, fun _ => ?_⟩
            walk_at "rd"
            exact k _ (x4.trans x5)
          · walk_at "rd"
            exact k _ x4

def spLaw (K : PySem.W.Frag) : Sp := fun vs H Q _ => ∃ (a : Addr) (ns : List Int), vs = [.ref a] ∧ SqL K H a (ns.map V.int) ∧ ns.length ≤ 63 ∧ ∀ H', Q (.bl true) H'
/-- a list that holds two objects: not the box, not its cells -/
theorem BoxAt.set {H : Hp} {b p x : Addr} {l : List V} {o : HO} (h : BoxAt H b) (n : p ≠ b) (e : H p = some (.lst (.ref x :: l))) : BoxAt (L2.upd H p o) b := by
  obtain ⟨c, cs, i, g, t, s, e1, e2, r⟩ := h
  have hc : c ≠ p := fun z => by
    rw [z, e] at e2
    cases cs with
    | nil => cases e2
    | cons _ _ => cases e2
  exact ⟨c, cs, i, g, t, s, by rw [upd_ne n.symm]; exact e1, by rw [upd_ne hc]; exact e2, r⟩
def Held (D : Ad) (Dl : Addr) (a n b m : Int) : Nat → Hp → Prop
  | 0, H => H Dl = some (.lst [])
  | 1, H => ∃ p, H Dl = some (.lst [.ref p]) ∧ ResAt D H p a n ∧ p ≠ Dl
  | _, H => ∃ p q, H Dl = some (.lst [.ref p, .ref q]) ∧ ResAt D H p a n ∧ ResAt D H q b m ∧ p ≠ Dl ∧ q ≠ Dl
theorem ResAt.upd {D : Ad} {H : Hp} {p q : Addr} {a n : Int} {o : HO} (s : ResAt D H p a n) (h : p ≠ q) : ResAt D (L2.upd H q o) p a n := let ⟨dx, e⟩ := s; ⟨dx, by rw [upd_ne h]; exact e⟩
theorem sc_law : FnScope ["_law_script", "_law_box_here", "_law_plans", "_law_held", "_law_k", "_law_same", "_law_named", "_law_bad", "_law_plan_here"] ["_law_script"] (defScope s_law) := ⟨rfl, rfl, rfl, by decide +kernel, rfl, by decide +kernel, by decide +kernel⟩
theorem ok_law (T : Txt K mg D) : FnOk P w K mg base CX0 10 D.a_law D.d_law ["_law_script"] (spLaw K) := by
  have G__law_box := ok__law_box (P := P) (w := w) (base := base) T
  have G__law_plan := ok__law_plan (P := P) (w := w) (base := base) T
  have G__law_draw := ok__law_draw (P := P) (w := w) (base := base) T
  have G__law_twin := ok__law_twin (P := P) (w := w) (base := base) T
  have G__law_one := ok__law_one (P := P) (w := w) (base := base) T
  have G__law_equal := ok__law_equal (P := P) (w := w) (base := base) T
  have G__law_is := ok__law_is (P := P) (w := w) (base := base) T
  have G__law_refused := ok__law_refused (P := P) (w := w) (base := base) T
  have G_Residue_init := ok_Residue_init (P := P) (w := w) (base := base) T
  have G_Residue___eq__ := ok_Residue_eq (P := P) (w := w) (base := base) T
  refine T.F_law.ok sc_law (fun vs H Q E h => ?_) (fun cdv A outer s H vs Q E hr h => ?_)
  · obtain ⟨a, ns, rfl, _⟩ := h
    rfl
  · obtain ⟨l, ns, rfl, hS, hl, k⟩ := h
    refine ⟨_, (pss_cons (ps_set (i := 1) sc_law.nd rfl (Or.inl rfl) (pe_call G__law_box (hr.mono (by decide)) (by rfl) T.g__law_box T.F__law_box.kp T.b__law_box .nil pass0 (pa_cons (pv 0) pa_nil)))
      (pss_cons (ps_set (i := 2) sc_law.nd rfl (Or.inl rfl) (pe_lst (pa_cons (pe_call G__law_plan (hr.mono (by decide)) (by rfl) T.g__law_plan T.F__law_plan.kp T.b__law_plan .nil pass0 (pa_cons (pv 1) pa_nil)) (pa_cons (pe_call G__law_plan (hr.mono (by decide)) (by rfl) T.g__law_plan T.F__law_plan.kp T.b__law_plan .nil pass0 (pa_cons (pv 1) pa_nil)) pa_nil))))
      (Evl.pss_cut (ps_if (pt_cmpR op_eq (pe_call G__law_draw (hr.mono (by decide)) (by rfl) T.g__law_draw T.F__law_draw.kp T.b__law_draw .nil pass0 (pa_cons (pv 1) (pa_cons pe_int pa_nil))) pe_int (nomark _))
      (pss_one (ps_asg (pe_call G__law_twin (hr.mono (by decide)) (by rfl) T.g__law_twin T.F__law_twin.kp T.b__law_twin .nil pass0 (pa_cons (pv 1) (pa_cons (pe_ix ix_list (pv 2) pe_int (fun _ _ => rfl)) (pa_cons (pe_ix ix_list (pv 2) pe_int (fun _ _ => rfl)) pa_nil)))) (pg_sub (pv 2) pe_int set_list)))
      pss_nil)
      (pss_cons (ps_setLc (i := 3) (own := [("_law_plan_here", 8)]) (g := gName 8) (tt := tYes) (by rfl) sc_law.nd rfl rfl (sw_true rfl rfl rfl (by decide +kernel)) (pi_list (pv 2)) (blkOk_by (own := [("_law_plan_here", 8)]) (N := ["_law_script", "_law_box_here", "_law_plans", "_law_held", "_law_k", "_law_same", "_law_named", "_law_bad", "_law_plan_here"]) (sc := defScope s_law) (by decide +kernel)) (fun _ _ _ _ _ => (pg_name (i := 8) sc_law.nd rfl (Or.inl rfl))) (fun _ _ _ _ _ => pts_nil) (fun _ _ _ _ _ => (pe_make (T_mk_Residue T) G_Residue_init (hr.mono (by decide)) (by rfl) T.g_Residue T.b_Residue_init .nil passL (pa_cons (pe_ix XR.ix_listb (pv 8) pe_int (fun _ _ => rfl)) (pa_cons (pe_ix XR.ix_listb (pv 8) pe_int (fun _ _ => rfl)) pa_nil)))))
      (pss_cons (ps_for PassesOwn.never rfl (pi_list (pe_lst (pa_cons pe_int (pa_cons pe_int (pa_cons pe_int pa_nil))))) (pg_name (i := 4) sc_law.nd rfl (Or.inl rfl))
      (pss_one (ps_if (PW.pt (pw_or (pt_not (pt_val (pe_call G__law_one (hr.mono (by decide)) (by rfl) T.g__law_one T.F__law_one.kp T.b__law_one .nil pass0 (pa_cons (pe_ix ix_list (pv 3) (pv 4) (fun _ _ => rfl)) (pa_cons (pe_ix ix_list (pv 2) (pv 4) (fun _ _ => rfl)) pa_nil))))) (pw_or1 (pt_not (pt_val (pe_call G__law_equal (hr.mono (by decide)) (by rfl) T.g__law_equal T.F__law_equal.kp T.b__law_equal .nil pass0 (pa_cons (pe_ix ix_list (pv 3) (pv 4) (fun _ _ => rfl)) (pa_cons (pe_ix ix_list (pv 2) (pv 4) (fun _ _ => rfl)) pa_nil))))))))
      (pss_one (ps_ret pe_bl))
      pss_nil)))
      (Evl.pss_cut (ps_set (i := 5) sc_law.nd rfl (Or.inl rfl) (pe_and (pe_cmpR op_eq (pe_ix ix_list (pe_ix ix_list (pv 2) pe_int (fun _ _ => rfl)) pe_int (fun _ _ => rfl)) (pe_ix ix_list (pe_ix ix_list (pv 2) pe_int (fun _ _ => rfl)) pe_int (fun _ _ => rfl)) (nomark _)) (pe_one (pe_cmpR op_eq (pe_ix ix_list (pe_ix ix_list (pv 2) pe_int (fun _ _ => rfl)) pe_int (fun _ _ => rfl)) (pe_ix ix_list (pe_ix ix_list (pv 2) pe_int (fun _ _ => rfl)) pe_int (fun _ _ => rfl)) (nomark _)))))
      (Evl.pss_cut (ps_if (PW.pt (pw_or (pt_cmpR op_ne (pe_cmpR (XR.op_eq_own (T_o_Residue___eq__ T) G_Residue___eq__ (hr.mono (by decide)) T.b_Residue___eq__ pass0) (pe_ix ix_list (pv 3) pe_int (fun _ _ => rfl)) (pe_ix ix_list (pv 3) pe_int (fun _ _ => rfl)) (nomark _)) (pv 5) (nomark _)) (pw_or1 (pt_cmpR op_ne (pe_cmpR (XR.op_eq_own (T_o_Residue___eq__ T) G_Residue___eq__ (hr.mono (by decide)) T.b_Residue___eq__ pass0) (pe_ix ix_list (pv 3) pe_int (fun _ _ => rfl)) (pe_ix ix_list (pv 3) pe_int (fun _ _ => rfl)) (nomark _)) (pv 5) (nomark _)))))
      (pss_one (ps_ret pe_bl))
      pss_nil)
      (pss_cons (ps_set (i := 6) sc_law.nd rfl (Or.inl rfl) (pe_makeK0 (T_mk_Residue T) G_Residue_init (hr.mono (by decide)) (by rfl) T.g_Residue (T_kb_Residue_length_place T) passL (pk_cons (pe_ix ix_list (pe_ix ix_list (pv 2) pe_int (fun _ _ => rfl)) pe_int (fun _ _ => rfl)) (pk_cons (pe_ix ix_list (pe_ix ix_list (pv 2) pe_int (fun _ _ => rfl)) pe_int (fun _ _ => rfl)) pk_nil))))
      (pss_cons (ps_if (pt_not (pt_val (pe_call G__law_is (hr.mono (by decide)) (by rfl) T.g__law_is T.F__law_is.kp T.b__law_is .nil pass0 (pa_cons (pv 6) (pa_cons (pe_ix ix_list (pe_ix ix_list (pv 2) pe_int (fun _ _ => rfl)) pe_int (fun _ _ => rfl)) (pa_cons (pe_ix ix_list (pe_ix ix_list (pv 2) pe_int (fun _ _ => rfl)) pe_int (fun _ _ => rfl)) pa_nil))))))
      (pss_one (ps_ret pe_bl))
      pss_nil)
      (pss_cons (ps_for PassesOwn.never rfl (pi_list (pe_lst (pa_cons pe_int (pa_cons (pe_un un_neg pe_int) (pa_cons (pe_un un_neg (pe_ix ix_list (pe_ix ix_list (pv 2) pe_int (fun _ _ => rfl)) pe_int (fun _ _ => rfl))) (pa_cons (pe_un un_neg (pe_ix ix_list (pe_ix ix_list (pv 2) pe_int (fun _ _ => rfl)) pe_int (fun _ _ => rfl))) pa_nil)))))) (pg_name (i := 7) sc_law.nd rfl (Or.inl rfl))
      (pss_one (ps_if (pt_not (pt_val (pe_call G__law_refused (hr.mono (by decide)) (by rfl) T.g__law_refused T.F__law_refused.kp T.b__law_refused .nil pass0 (pa_cons (pe_ix ix_list (pe_ix ix_list (pv 2) pe_int (fun _ _ => rfl)) pe_int (fun _ _ => rfl)) (pa_cons (pv 7) pa_nil)))))
      (pss_one (ps_ret pe_bl))
      pss_nil)))
      (pss_one (ps_ret (pe_call G__law_is (hr.mono (by decide)) (by rfl) T.g__law_is T.F__law_is.kp T.b__law_is .nil pass0 (pa_cons (pe_make (T_mk_Residue T) G_Residue_init (hr.mono (by decide)) (by rfl) T.g_Residue T.b_Residue_init .nil passL (pa_cons (pe_ix ix_list (pe_ix ix_list (pv 2) pe_int (fun _ _ => rfl)) pe_int (fun _ _ => rfl)) (pa_cons pe_int pa_nil))) (pa_cons pe_int (pa_cons pe_int pa_nil)))))))))))))))), ?_⟩
    walk_at "rd"
    refine ⟨hl, fun bx H1 hb x1 B1 => ?_⟩
    walk_at "rd"
    refine ⟨B1, fun t H2 d n m r ok1 B2 x2 htb ht => ?_⟩
    walk_at "rd"
    refine ⟨B2, fun u H3 d2 n2 m2 r2 ok2 B3 x3 hub hu => ?_⟩
    have ht3 := x3 _ _ htb ht
    walk_at "rd"
    intro ps hps
    have npb := B3.ne hps
    walk_at "rd"
    refine ⟨fun σ' H' => Stop (∃ v d' n' m' r', σ' = [some (.ref l), some (.ref bx), some (.ref ps), none, none, none, none, none, none] ∧ H' ps = some (.lst [.ref t, .ref v]) ∧ PlanAt H' t d n m r ∧ PlanAt H' v d' n' m' r' ∧ PlanOk d' n' m' r'), ?_, fun σ4 H4 hm => ?_⟩
    · walk_at "rd"
      walk_at "dr"
      intro e H4 p4 q4 B4 x4
      have ht4 := x4 _ _ htb (Same.new (Same.refl H3) hps _ _ ht3)
      have hu4 := x4 _ _ hub (Same.new (Same.refl H3) hps _ _ hu)
      have hps4 := x4 _ _ npb upd_same
      walk_at "rd"
      walk_at "br"
      · walk_at "rd"
        refine ⟨bx, t, u, d, n, m, r, d2, n2, m2, r2, rfl, B4, htb, hub, ht4, hu4, ok1, ok2, fun v H5 d' ok' x5 hv hat => ?_⟩
        have ht5 := x5 _ _ htb ht4
        have hps5 := x5 _ _ npb hps4
        have ntp : t ≠ ps := ne_of_none ht3 hps
        have nvp : v ≠ ps := fun z => by
          unfold PlanAt at hat
          rw [z, hps5] at hat
          cases hat
        walk_at "rd"
        exact .go ⟨v, d', n, m2, r2, rfl, upd_same, by unfold PlanAt; rw [upd_ne ntp]; exact ht5, by unfold PlanAt; rw [upd_ne nvp]; exact hat, ok'⟩
      · exact .go ⟨u, d2, n2, m2, r2, rfl, hps4, ht4, hu4, ok2⟩
    · obtain ⟨v, d', n', m', r', rfl, hps4, ht4, hv4, ok'⟩ := hm.out
      obtain ⟨a1, a2, a3, a4, a5, a6, a7, a8⟩ := id ok1
      obtain ⟨c1, c2, c3, c4, c5, c6, c7, c8⟩ := id ok'
      unfold PlanAt at ht4 hv4
      walk_at "rd"
      intro Dl hD
      refine lc_list (K := K) (a := ps) (xs := [.ref t, .ref v]) (fun i H' => (∀ q o, q ≠ Dl → H4 q = some o → H' q = some o) ∧ Held D Dl (d % n) n (d' % n') n' i H')
        ⟨fun q o hq e => by rw [upd_ne hq]; exact e, upd_same⟩ (fun i H' _ h => SqL.of (h.1 _ _ (ne_of_none hps4 hD) hps4)) ?_ ?_
      · rintro i x H' hi ⟨ex, hs⟩
        have ht5 := ex _ _ (ne_of_none ht4 hD) ht4
        have hv5 := ex _ _ (ne_of_none hv4 hD) hv4
        match i, hi, hs with
        | 0, hi, hs =>
          cases hi
          walk_at "rd"
          intro q dq nq nd ne
          refine mk2 nq nd ne (by omega) (fun h => by omega) fun _ H5 x5 S5 => ?_
          have nqD : q ≠ Dl := fun z => by rw [z] at nq; exact absurd (hs.symm.trans nq) (by intro z; cases z)
          walk_at "rd"
          exact ⟨[], x5 _ _ hs, by rw [sizeLine_eq]; decide, fun y o hy e => by rw [upd_ne hy]; exact x5 _ _ (ex _ _ hy e), q, upd_same, S5.upd nqD, nqD⟩
        | 1, hi, hs =>
          cases hi
          obtain ⟨p, eD, Sp, pD⟩ := hs
          walk_at "rd"
          intro q dq nq nd ne
          refine mk2 nq nd ne (by omega) (fun h => by omega) fun _ H5 x5 S5 => ?_
          have nqD : q ≠ Dl := fun z => by rw [z] at nq; exact absurd (eD.symm.trans nq) (by intro z; cases z)
          walk_at "rd"
          exact ⟨[.ref p], x5 _ _ eD, (by rw [sizeLine_eq]; show 1 < 16777216; decide), fun y o hy e => by rw [upd_ne hy]; exact x5 _ _ (ex _ _ hy e), p, q, upd_same, (Sp.same x5).upd pD, S5.upd nqD, pD, nqD⟩
      · rintro H' ⟨ex, p, q, eD, Sp, Sq, pD, qD⟩
        have hps5 := ex _ _ (ne_of_none hps4 hD) hps4
        have ht5 := ex _ _ (ne_of_none ht4 hD) ht4
        have hv5 := ex _ _ (ne_of_none hv4 hD) hv4
        walk_at "rd"
        intro ls hls
        walk_at "rd"
        have hls6 : (L2.upd H' ls (.lst [.int 0, .int 1, .int 0])) ls = some (.lst [.int 0, .int 1, .int 0]) := upd_same
        refine for_list (K := K) (a := ls) (xs := [.int 0, .int 1, .int 0]) (fun i σ H2 => Stop (∃ kv, σ = [some (.ref l), some (.ref bx), some (.ref ps), some (.ref Dl), kv, none, none, none, none] ∧ Same (L2.upd H' ls (.lst [.int 0, .int 1, .int 0])) H2))
          (.go ⟨none, rfl, Same.refl _⟩) (fun i σ H2 _ h => by obtain ⟨_, _, y⟩ := h.out; exact SqL.of (y _ _ hls6)) ?_ ?_
        · intro i x σ H2 hi hm
          obtain ⟨kv, rfl, y⟩ := hm.out
          have y2 := (Same.new (Same.refl H') hls).trans y
          have hD2 := y2 _ _ eD
          have hps6 := y2 _ _ hps5
          have hx : x = .int 0 ∨ x = .int 1 := by
            have hm := List.mem_of_getElem? hi
            simp only [List.mem_cons, List.not_mem_nil, or_false] at hm
            rcases hm with h | h | h
            · exact .inl h
            · exact .inr h
            · exact .inl h
          rcases hx with rfl | rfl
          · walk_at "rd"
            refine ⟨p, t, d, n, m, r, rfl, Sp.same y2, y2 _ _ ht5, ok1, fun H3 x3 => ?_⟩
            have hD3 := x3 _ _ hD2
            have hps7 := x3 _ _ hps6
            walk_at "rd"
            refine ⟨p, t, d, n, m, r, rfl, Sp.same (y2.trans x3), (y2.trans x3) _ _ ht5, ok1, fun H5 x5 => ?_⟩
            walk_at "rd"
            exact .go ⟨_, rfl, y.trans (x3.trans x5)⟩
          · walk_at "rd"
            refine ⟨q, v, d', n', m', r', rfl, Sq.same y2, y2 _ _ hv5, ok', fun H3 x3 => ?_⟩
            have hD3 := x3 _ _ hD2
            have hps7 := x3 _ _ hps6
            walk_at "rd"
            refine ⟨q, v, d', n', m', r', rfl, Sq.same (y2.trans x3), (y2.trans x3) _ _ hv5, ok', fun H5 x5 => ?_⟩
            walk_at "rd"
            exact .go ⟨_, rfl, y.trans (x3.trans x5)⟩
        · intro σ H2 hm
          obtain ⟨kv, rfl, y⟩ := hm.out
          have y2 := (Same.new (Same.refl H') hls).trans y
          have hD2 := y2 _ _ eD
          have hps6 := y2 _ _ hps5
          have ht6 := y2 _ _ ht5
          have hv6 := y2 _ _ hv5
          have Sp6 := Sp.same y2
          have Sq6 := Sq.same y2
          refine ⟨fun σ' H' => Stop (∃ sv, σ' = [some (.ref l), some (.ref bx), some (.ref ps), some (.ref Dl), kv, some (.bl sv), none, none, none] ∧ sv = decide (n = n' ∧ d % n = d' % n') ∧ H' = H2), ?_, fun σ7 H7 hm => ?_⟩
          · walk_at "rd"
            walk_at "br"
            · rename_i hb
              walk_at "rd"
              exact .go ⟨_, rfl, by simp [hb], rfl⟩
            · rename_i hb
              exact .go ⟨_, rfl, by simp [hb], rfl⟩
          · obtain ⟨sv, rfl, hsv, rfl⟩ := hm.out
            refine ⟨fun σ' H' => Stop (σ' = [some (.ref l), some (.ref bx), some (.ref ps), some (.ref Dl), kv, some (.bl sv), none, none, none] ∧ H' = H7), ?_, fun σ8 H8 hm => ?_⟩
            · obtain ⟨dp, hp6⟩ := id Sp6
              obtain ⟨dq, hq6⟩ := id Sq6
              walk_at "rd"
              refine ⟨_, _, _, _, _, _, rfl, rfl, hp6, hq6, p, q, _, _, _, _, rfl, Sp6, Sq6, fun y => ?_, fun y => ?_⟩
              · have e : sv = true := by rw [hsv]; exact decide_eq_true ⟨y.2, y.1⟩
                subst e
                walk_at "rd"
                refine ⟨_, _, _, _, _, _, rfl, rfl, hq6, hp6, q, p, _, _, _, _, rfl, Sq6, Sp6, fun _ => ?_, fun z => (z ⟨y.1.symm, y.2.symm⟩).elim⟩
                walk_at "rd"
                exact .go ⟨rfl, rfl⟩
              · have e : sv = false := by rw [hsv]; exact decide_eq_false fun z => y ⟨z.2, z.1⟩
                subst e
                walk_at "rd"
                refine ⟨_, _, _, _, _, _, rfl, rfl, hq6, hp6, q, p, _, _, _, _, rfl, Sq6, Sp6, fun z => (y ⟨z.1.symm, z.2.symm⟩).elim, fun _ => ?_⟩
                walk_at "rd"
                exact .go ⟨rfl, rfl⟩
            · obtain ⟨rfl, rfl⟩ := hm.out
              walk_at "rd"
              intro a dx na nd ne
              refine mk2 na nd ne (by omega) (fun h => by omega) fun _ H9 x9 S9 => ?_
              have hps9 := x9 _ _ hps6
              have hv9 := x9 _ _ hv6
              have ht9 := x9 _ _ ht6
              walk_at "rd"
              refine ⟨a, _, _, rfl, S9, ?_⟩
              walk_at "rd"
              intro ls2 hls2
              walk_at "rd"
              have all : ∀ x ∈ ([.int 0, .int (-1), .int (-n), .int (-n')] : List V), ∃ z : Int, x = .int z ∧ z < 1 := by
                intro v hv
                simp only [List.mem_cons, List.not_mem_nil, or_false] at hv
                rcases hv with rfl | rfl | rfl | rfl <;> exact ⟨_, rfl, by omega⟩
              generalize hL : ([.int 0, .int (-1), .int (-n), .int (-n')] : List V) = L at all
              have z10 := Same.new (o := .lst L) (Same.refl H9) hls2
              have hl10 : (L2.upd H9 ls2 (.lst L)) ls2 = some (.lst L) := upd_same
              refine for_list (K := K) (a := ls2) (xs := L) (fun i σ H2 => Stop (∃ kb, σ = [some (.ref l), some (.ref bx), some (.ref ps), some (.ref Dl), kv, some (.bl sv), some (.ref a), kb, none] ∧ Same (L2.upd H9 ls2 (.lst L)) H2))
                (.go ⟨none, rfl, hL ▸ Same.refl _⟩) (fun i σ H2 _ h => by obtain ⟨_, _, y⟩ := h.out; exact SqL.of (y _ _ hl10)) ?_ ?_
              · intro i x σ H2 hi hm
                obtain ⟨kb, rfl, y⟩ := hm.out
                obtain ⟨z, rfl, hz⟩ := all x (List.mem_of_getElem? hi)
                have hps10 := y _ _ (z10 _ _ hps9)
                have ht10 := y _ _ (z10 _ _ ht9)
                walk_at "rd"
                intro H3 x3
                walk_at "rd"
                exact .go ⟨_, rfl, y.trans x3⟩
              · intro σ H2 hm
                obtain ⟨kb, rfl, y⟩ := hm.out
                have hps10 := y _ _ (z10 _ _ hps9)
                have ht10 := y _ _ (z10 _ _ ht9)
                walk_at "rd"
                intro a3 dx3 na3 nd3 ne3
                refine mk2 na3 nd3 ne3 (by decide) (fun h => absurd h (by decide)) fun _ H11 x11 S11 => ?_
                rw [Int.emod_one] at S11
                walk_at "rd"
                refine ⟨a3, 0, 1, rfl, S11, ?_⟩
                exact k _
end
end Toy
set_option Elab.async false
set_option linter.all false
set_option maxRecDepth 100000
set_option maxHeartbeats 4000000
namespace Toy
open PySem L2 XR
theorem all_mk {l : PySem.W.OpenLaw} {w : World} {K : PySem.W.Frag} {h : Heap} {mg : Str → Option Value} {fa : Addr} (X : K.In h) (G : h.Ns mainGlobals mg) (hfa : mg "law" = some (.ref fa))
    {x_Disjoint_init x_OutOfRange_init x__inverse x_Residue_init x_Residue___eq__ x_Residue___str__ x_Residue___contains__ x_Residue___add__ x_Residue___sub__ x_Residue___neg__ x_Residue___and__ x__law_box x__law_draw x__law_is_number x__law_size x__law_day x__law_plan x__law_twin x__law_is x__law_days x__law_right x__law_one x__law_equal x__law_refused x_law x_ArchiveError x_UnknownError x_TextError x_ImpossibleError x_Disjoint x_OutOfRange x_Residue : Addr}
    {od_Disjoint_init an_Disjoint_init : Option Addr} {sl_Disjoint_init : Array (Option Value)} {oc_Disjoint_init kV_Disjoint_init dc_Disjoint_init pm_Disjoint_init cd_Disjoint_init ct_Disjoint_init : Value}
    {od_OutOfRange_init an_OutOfRange_init : Option Addr} {sl_OutOfRange_init : Array (Option Value)} {oc_OutOfRange_init kV_OutOfRange_init dc_OutOfRange_init pm_OutOfRange_init cd_OutOfRange_init ct_OutOfRange_init : Value}
    {od__inverse an__inverse : Option Addr} {sl__inverse : Array (Option Value)} {oc__inverse kV__inverse dc__inverse pm__inverse cd__inverse ct__inverse : Value}
    {od_Residue_init an_Residue_init : Option Addr} {sl_Residue_init : Array (Option Value)} {oc_Residue_init kV_Residue_init dc_Residue_init pm_Residue_init cd_Residue_init ct_Residue_init : Value}
    {od_Residue___eq__ an_Residue___eq__ : Option Addr} {sl_Residue___eq__ : Array (Option Value)} {oc_Residue___eq__ kV_Residue___eq__ dc_Residue___eq__ pm_Residue___eq__ cd_Residue___eq__ ct_Residue___eq__ : Value}
    {od_Residue___str__ an_Residue___str__ : Option Addr} {sl_Residue___str__ : Array (Option Value)} {oc_Residue___str__ kV_Residue___str__ dc_Residue___str__ pm_Residue___str__ cd_Residue___str__ ct_Residue___str__ : Value}
    {od_Residue___contains__ an_Residue___contains__ : Option Addr} {sl_Residue___contains__ : Array (Option Value)} {oc_Residue___contains__ kV_Residue___contains__ dc_Residue___contains__ pm_Residue___contains__ cd_Residue___contains__ ct_Residue___contains__ : Value}
    {od_Residue___add__ an_Residue___add__ : Option Addr} {sl_Residue___add__ : Array (Option Value)} {oc_Residue___add__ kV_Residue___add__ dc_Residue___add__ pm_Residue___add__ cd_Residue___add__ ct_Residue___add__ : Value}
    {od_Residue___sub__ an_Residue___sub__ : Option Addr} {sl_Residue___sub__ : Array (Option Value)} {oc_Residue___sub__ kV_Residue___sub__ dc_Residue___sub__ pm_Residue___sub__ cd_Residue___sub__ ct_Residue___sub__ : Value}
    {od_Residue___neg__ an_Residue___neg__ : Option Addr} {sl_Residue___neg__ : Array (Option Value)} {oc_Residue___neg__ kV_Residue___neg__ dc_Residue___neg__ pm_Residue___neg__ cd_Residue___neg__ ct_Residue___neg__ : Value}
    {od_Residue___and__ an_Residue___and__ : Option Addr} {sl_Residue___and__ : Array (Option Value)} {oc_Residue___and__ kV_Residue___and__ dc_Residue___and__ pm_Residue___and__ cd_Residue___and__ ct_Residue___and__ : Value}
    {od__law_box an__law_box : Option Addr} {sl__law_box : Array (Option Value)} {oc__law_box kV__law_box dc__law_box pm__law_box cd__law_box ct__law_box : Value}
    {od__law_draw an__law_draw : Option Addr} {sl__law_draw : Array (Option Value)} {oc__law_draw kV__law_draw dc__law_draw pm__law_draw cd__law_draw ct__law_draw : Value}
    {od__law_is_number an__law_is_number : Option Addr} {sl__law_is_number : Array (Option Value)} {oc__law_is_number kV__law_is_number dc__law_is_number pm__law_is_number cd__law_is_number ct__law_is_number : Value}
    {od__law_size an__law_size : Option Addr} {sl__law_size : Array (Option Value)} {oc__law_size kV__law_size dc__law_size pm__law_size cd__law_size ct__law_size : Value}
    {od__law_day an__law_day : Option Addr} {sl__law_day : Array (Option Value)} {oc__law_day kV__law_day dc__law_day pm__law_day cd__law_day ct__law_day : Value}
    {od__law_plan an__law_plan : Option Addr} {sl__law_plan : Array (Option Value)} {oc__law_plan kV__law_plan dc__law_plan pm__law_plan cd__law_plan ct__law_plan : Value}
    {od__law_twin an__law_twin : Option Addr} {sl__law_twin : Array (Option Value)} {oc__law_twin kV__law_twin dc__law_twin pm__law_twin cd__law_twin ct__law_twin : Value}
    {od__law_is an__law_is : Option Addr} {sl__law_is : Array (Option Value)} {oc__law_is kV__law_is dc__law_is pm__law_is cd__law_is ct__law_is : Value}
    {od__law_days an__law_days : Option Addr} {sl__law_days : Array (Option Value)} {oc__law_days kV__law_days dc__law_days pm__law_days cd__law_days ct__law_days : Value}
    {od__law_right an__law_right : Option Addr} {sl__law_right : Array (Option Value)} {oc__law_right kV__law_right dc__law_right pm__law_right cd__law_right ct__law_right : Value}
    {od__law_one an__law_one : Option Addr} {sl__law_one : Array (Option Value)} {oc__law_one kV__law_one dc__law_one pm__law_one cd__law_one ct__law_one : Value}
    {od__law_equal an__law_equal : Option Addr} {sl__law_equal : Array (Option Value)} {oc__law_equal kV__law_equal dc__law_equal pm__law_equal cd__law_equal ct__law_equal : Value}
    {od__law_refused an__law_refused : Option Addr} {sl__law_refused : Array (Option Value)} {oc__law_refused kV__law_refused dc__law_refused pm__law_refused cd__law_refused ct__law_refused : Value}
    {od_law an_law : Option Addr} {sl_law : Array (Option Value)} {oc_law kV_law dc_law pm_law cd_law ct_law : Value}
    {nm_OutOfRange q_OutOfRange : Str} {N_OutOfRange : Addr} {bs_OutOfRange bm_OutOfRange : List Value} {sn_OutOfRange : List Str} {sub_OutOfRange : List Value} {ab_OutOfRange : Bool} {col_OutOfRange : Option Bool} {dd_OutOfRange : Option Addr} {m0_OutOfRange m1_OutOfRange m2_OutOfRange m3_OutOfRange m5_OutOfRange : Option Value}
    {i_add_fo : Option Value}
    {j_add_fo : Option Value}
    {i_sub_fo : Option Value}
    {j_sub_fo : Option Value}
    (hC_ArchiveError : PySem.W.nsIn K mainGlobals "ArchiveError" = some (some (.ref x_ArchiveError)))
    (hK_ArchiveError : PySem.W.keepIn K (.ref x_ArchiveError) = true)
    (hC_UnknownError : PySem.W.nsIn K mainGlobals "UnknownError" = some (some (.ref x_UnknownError)))
    (hK_UnknownError : PySem.W.keepIn K (.ref x_UnknownError) = true)
    (hC_TextError : PySem.W.nsIn K mainGlobals "TextError" = some (some (.ref x_TextError)))
    (hK_TextError : PySem.W.keepIn K (.ref x_TextError) = true)
    (hC_ImpossibleError : PySem.W.nsIn K mainGlobals "ImpossibleError" = some (some (.ref x_ImpossibleError)))
    (hK_ImpossibleError : PySem.W.keepIn K (.ref x_ImpossibleError) = true)
    (hC_Disjoint : PySem.W.nsIn K mainGlobals "Disjoint" = some (some (.ref x_Disjoint)))
    (hK_Disjoint : PySem.W.keepIn K (.ref x_Disjoint) = true)
    (hC_OutOfRange : PySem.W.nsIn K mainGlobals "OutOfRange" = some (some (.ref x_OutOfRange)))
    (hK_OutOfRange : PySem.W.keepIn K (.ref x_OutOfRange) = true)
    (hC_Residue : PySem.W.nsIn K mainGlobals "Residue" = some (some (.ref x_Residue)))
    (hK_Residue : PySem.W.keepIn K (.ref x_Residue) = true)
    (ha_Disjoint_init : PySem.W.findIn K (.ref x_Disjoint) "__init__" = some (some (.ref x_Disjoint_init)))
    (hi_Disjoint_init : PySem.W.isFn K (.ref x_Disjoint_init) = true)
    (hl_Disjoint_init : K.lookup x_Disjoint_init = some ⟨oc_Disjoint_init, od_Disjoint_init, .func (PySem.W.fnOf "__init__" "Disjoint.__init__" (defArgs s_Disjoint_init) (defBody s_Disjoint_init) (defScope s_Disjoint_init) .none kV_Disjoint_init dc_Disjoint_init pm_Disjoint_init an_Disjoint_init cd_Disjoint_init ct_Disjoint_init), sl_Disjoint_init⟩)
    (hc_Disjoint_init : PySem.W.codeIn K cd_Disjoint_init "Disjoint.__init__" = true)
    (hk_Disjoint_init : PySem.W.keepIn K (.ref x_Disjoint_init) = true)
    (ha_OutOfRange_init : PySem.W.findIn K (.ref x_OutOfRange) "__init__" = some (some (.ref x_OutOfRange_init)))
    (hi_OutOfRange_init : PySem.W.isFn K (.ref x_OutOfRange_init) = true)
    (hl_OutOfRange_init : K.lookup x_OutOfRange_init = some ⟨oc_OutOfRange_init, od_OutOfRange_init, .func (PySem.W.fnOf "__init__" "OutOfRange.__init__" (defArgs s_OutOfRange_init) (defBody s_OutOfRange_init) (defScope s_OutOfRange_init) .none kV_OutOfRange_init dc_OutOfRange_init pm_OutOfRange_init an_OutOfRange_init cd_OutOfRange_init ct_OutOfRange_init), sl_OutOfRange_init⟩)
    (hc_OutOfRange_init : PySem.W.codeIn K cd_OutOfRange_init "OutOfRange.__init__" = true)
    (hk_OutOfRange_init : PySem.W.keepIn K (.ref x_OutOfRange_init) = true)
    (ha__inverse : PySem.W.nsIn K mainGlobals "_inverse" = some (some (.ref x__inverse)))
    (hl__inverse : K.lookup x__inverse = some ⟨oc__inverse, od__inverse, .func (PySem.W.fnOf "_inverse" "_inverse" (defArgs s__inverse) (defBody s__inverse) (defScope s__inverse) .none kV__inverse dc__inverse pm__inverse an__inverse cd__inverse ct__inverse), sl__inverse⟩)
    (hc__inverse : PySem.W.codeIn K cd__inverse "_inverse" = true)
    (hk__inverse : PySem.W.keepIn K (.ref x__inverse) = true)
    (ha_Residue_init : PySem.W.findIn K (.ref x_Residue) "__init__" = some (some (.ref x_Residue_init)))
    (hi_Residue_init : PySem.W.isFn K (.ref x_Residue_init) = true)
    (hl_Residue_init : K.lookup x_Residue_init = some ⟨oc_Residue_init, od_Residue_init, .func (PySem.W.fnOf "__init__" "Residue.__init__" (defArgs s_Residue_init) (defBody s_Residue_init) (defScope s_Residue_init) .none kV_Residue_init dc_Residue_init pm_Residue_init an_Residue_init cd_Residue_init ct_Residue_init), sl_Residue_init⟩)
    (hc_Residue_init : PySem.W.codeIn K cd_Residue_init "Residue.__init__" = true)
    (hk_Residue_init : PySem.W.keepIn K (.ref x_Residue_init) = true)
    (ha_Residue___eq__ : PySem.W.findIn K (.ref x_Residue) "__eq__" = some (some (.ref x_Residue___eq__)))
    (hi_Residue___eq__ : PySem.W.isFn K (.ref x_Residue___eq__) = true)
    (hl_Residue___eq__ : K.lookup x_Residue___eq__ = some ⟨oc_Residue___eq__, od_Residue___eq__, .func (PySem.W.fnOf "__eq__" "Residue.__eq__" (defArgs s_Residue___eq__) (defBody s_Residue___eq__) (defScope s_Residue___eq__) .none kV_Residue___eq__ dc_Residue___eq__ pm_Residue___eq__ an_Residue___eq__ cd_Residue___eq__ ct_Residue___eq__), sl_Residue___eq__⟩)
    (hc_Residue___eq__ : PySem.W.codeIn K cd_Residue___eq__ "Residue.__eq__" = true)
    (hk_Residue___eq__ : PySem.W.keepIn K (.ref x_Residue___eq__) = true)
    (ha_Residue___str__ : PySem.W.findIn K (.ref x_Residue) "__str__" = some (some (.ref x_Residue___str__)))
    (hi_Residue___str__ : PySem.W.isFn K (.ref x_Residue___str__) = true)
    (hl_Residue___str__ : K.lookup x_Residue___str__ = some ⟨oc_Residue___str__, od_Residue___str__, .func (PySem.W.fnOf "__str__" "Residue.__str__" (defArgs s_Residue___str__) (defBody s_Residue___str__) (defScope s_Residue___str__) .none kV_Residue___str__ dc_Residue___str__ pm_Residue___str__ an_Residue___str__ cd_Residue___str__ ct_Residue___str__), sl_Residue___str__⟩)
    (hc_Residue___str__ : PySem.W.codeIn K cd_Residue___str__ "Residue.__str__" = true)
    (hk_Residue___str__ : PySem.W.keepIn K (.ref x_Residue___str__) = true)
    (ha_Residue___contains__ : PySem.W.findIn K (.ref x_Residue) "__contains__" = some (some (.ref x_Residue___contains__)))
    (hi_Residue___contains__ : PySem.W.isFn K (.ref x_Residue___contains__) = true)
    (hl_Residue___contains__ : K.lookup x_Residue___contains__ = some ⟨oc_Residue___contains__, od_Residue___contains__, .func (PySem.W.fnOf "__contains__" "Residue.__contains__" (defArgs s_Residue___contains__) (defBody s_Residue___contains__) (defScope s_Residue___contains__) .none kV_Residue___contains__ dc_Residue___contains__ pm_Residue___contains__ an_Residue___contains__ cd_Residue___contains__ ct_Residue___contains__), sl_Residue___contains__⟩)
    (hc_Residue___contains__ : PySem.W.codeIn K cd_Residue___contains__ "Residue.__contains__" = true)
    (hk_Residue___contains__ : PySem.W.keepIn K (.ref x_Residue___contains__) = true)
    (ha_Residue___add__ : PySem.W.findIn K (.ref x_Residue) "__add__" = some (some (.ref x_Residue___add__)))
    (hi_Residue___add__ : PySem.W.isFn K (.ref x_Residue___add__) = true)
    (hl_Residue___add__ : K.lookup x_Residue___add__ = some ⟨oc_Residue___add__, od_Residue___add__, .func (PySem.W.fnOf "__add__" "Residue.__add__" (defArgs s_Residue___add__) (defBody s_Residue___add__) (defScope s_Residue___add__) .none kV_Residue___add__ dc_Residue___add__ pm_Residue___add__ an_Residue___add__ cd_Residue___add__ ct_Residue___add__), sl_Residue___add__⟩)
    (hc_Residue___add__ : PySem.W.codeIn K cd_Residue___add__ "Residue.__add__" = true)
    (hk_Residue___add__ : PySem.W.keepIn K (.ref x_Residue___add__) = true)
    (ha_Residue___sub__ : PySem.W.findIn K (.ref x_Residue) "__sub__" = some (some (.ref x_Residue___sub__)))
    (hi_Residue___sub__ : PySem.W.isFn K (.ref x_Residue___sub__) = true)
    (hl_Residue___sub__ : K.lookup x_Residue___sub__ = some ⟨oc_Residue___sub__, od_Residue___sub__, .func (PySem.W.fnOf "__sub__" "Residue.__sub__" (defArgs s_Residue___sub__) (defBody s_Residue___sub__) (defScope s_Residue___sub__) .none kV_Residue___sub__ dc_Residue___sub__ pm_Residue___sub__ an_Residue___sub__ cd_Residue___sub__ ct_Residue___sub__), sl_Residue___sub__⟩)
    (hc_Residue___sub__ : PySem.W.codeIn K cd_Residue___sub__ "Residue.__sub__" = true)
    (hk_Residue___sub__ : PySem.W.keepIn K (.ref x_Residue___sub__) = true)
    (ha_Residue___neg__ : PySem.W.findIn K (.ref x_Residue) "__neg__" = some (some (.ref x_Residue___neg__)))
    (hi_Residue___neg__ : PySem.W.isFn K (.ref x_Residue___neg__) = true)
    (hl_Residue___neg__ : K.lookup x_Residue___neg__ = some ⟨oc_Residue___neg__, od_Residue___neg__, .func (PySem.W.fnOf "__neg__" "Residue.__neg__" (defArgs s_Residue___neg__) (defBody s_Residue___neg__) (defScope s_Residue___neg__) .none kV_Residue___neg__ dc_Residue___neg__ pm_Residue___neg__ an_Residue___neg__ cd_Residue___neg__ ct_Residue___neg__), sl_Residue___neg__⟩)
    (hc_Residue___neg__ : PySem.W.codeIn K cd_Residue___neg__ "Residue.__neg__" = true)
    (hk_Residue___neg__ : PySem.W.keepIn K (.ref x_Residue___neg__) = true)
    (ha_Residue___and__ : PySem.W.findIn K (.ref x_Residue) "__and__" = some (some (.ref x_Residue___and__)))
    (hi_Residue___and__ : PySem.W.isFn K (.ref x_Residue___and__) = true)
    (hl_Residue___and__ : K.lookup x_Residue___and__ = some ⟨oc_Residue___and__, od_Residue___and__, .func (PySem.W.fnOf "__and__" "Residue.__and__" (defArgs s_Residue___and__) (defBody s_Residue___and__) (defScope s_Residue___and__) .none kV_Residue___and__ dc_Residue___and__ pm_Residue___and__ an_Residue___and__ cd_Residue___and__ ct_Residue___and__), sl_Residue___and__⟩)
    (hc_Residue___and__ : PySem.W.codeIn K cd_Residue___and__ "Residue.__and__" = true)
    (hk_Residue___and__ : PySem.W.keepIn K (.ref x_Residue___and__) = true)
    (ha__law_box : PySem.W.nsIn K mainGlobals "_law_box" = some (some (.ref x__law_box)))
    (hl__law_box : K.lookup x__law_box = some ⟨oc__law_box, od__law_box, .func (PySem.W.fnOf "_law_box" "_law_box" (defArgs s__law_box) (defBody s__law_box) (defScope s__law_box) .none kV__law_box dc__law_box pm__law_box an__law_box cd__law_box ct__law_box), sl__law_box⟩)
    (hc__law_box : PySem.W.codeIn K cd__law_box "_law_box" = true)
    (hk__law_box : PySem.W.keepIn K (.ref x__law_box) = true)
    (ha__law_draw : PySem.W.nsIn K mainGlobals "_law_draw" = some (some (.ref x__law_draw)))
    (hl__law_draw : K.lookup x__law_draw = some ⟨oc__law_draw, od__law_draw, .func (PySem.W.fnOf "_law_draw" "_law_draw" (defArgs s__law_draw) (defBody s__law_draw) (defScope s__law_draw) .none kV__law_draw dc__law_draw pm__law_draw an__law_draw cd__law_draw ct__law_draw), sl__law_draw⟩)
    (hc__law_draw : PySem.W.codeIn K cd__law_draw "_law_draw" = true)
    (hk__law_draw : PySem.W.keepIn K (.ref x__law_draw) = true)
    (ha__law_is_number : PySem.W.nsIn K mainGlobals "_law_is_number" = some (some (.ref x__law_is_number)))
    (hl__law_is_number : K.lookup x__law_is_number = some ⟨oc__law_is_number, od__law_is_number, .func (PySem.W.fnOf "_law_is_number" "_law_is_number" (defArgs s__law_is_number) (defBody s__law_is_number) (defScope s__law_is_number) .none kV__law_is_number dc__law_is_number pm__law_is_number an__law_is_number cd__law_is_number ct__law_is_number), sl__law_is_number⟩)
    (hc__law_is_number : PySem.W.codeIn K cd__law_is_number "_law_is_number" = true)
    (hk__law_is_number : PySem.W.keepIn K (.ref x__law_is_number) = true)
    (ha__law_size : PySem.W.nsIn K mainGlobals "_law_size" = some (some (.ref x__law_size)))
    (hl__law_size : K.lookup x__law_size = some ⟨oc__law_size, od__law_size, .func (PySem.W.fnOf "_law_size" "_law_size" (defArgs s__law_size) (defBody s__law_size) (defScope s__law_size) .none kV__law_size dc__law_size pm__law_size an__law_size cd__law_size ct__law_size), sl__law_size⟩)
    (hc__law_size : PySem.W.codeIn K cd__law_size "_law_size" = true)
    (hk__law_size : PySem.W.keepIn K (.ref x__law_size) = true)
    (ha__law_day : PySem.W.nsIn K mainGlobals "_law_day" = some (some (.ref x__law_day)))
    (hl__law_day : K.lookup x__law_day = some ⟨oc__law_day, od__law_day, .func (PySem.W.fnOf "_law_day" "_law_day" (defArgs s__law_day) (defBody s__law_day) (defScope s__law_day) .none kV__law_day dc__law_day pm__law_day an__law_day cd__law_day ct__law_day), sl__law_day⟩)
    (hc__law_day : PySem.W.codeIn K cd__law_day "_law_day" = true)
    (hk__law_day : PySem.W.keepIn K (.ref x__law_day) = true)
    (ha__law_plan : PySem.W.nsIn K mainGlobals "_law_plan" = some (some (.ref x__law_plan)))
    (hl__law_plan : K.lookup x__law_plan = some ⟨oc__law_plan, od__law_plan, .func (PySem.W.fnOf "_law_plan" "_law_plan" (defArgs s__law_plan) (defBody s__law_plan) (defScope s__law_plan) .none kV__law_plan dc__law_plan pm__law_plan an__law_plan cd__law_plan ct__law_plan), sl__law_plan⟩)
    (hc__law_plan : PySem.W.codeIn K cd__law_plan "_law_plan" = true)
    (hk__law_plan : PySem.W.keepIn K (.ref x__law_plan) = true)
    (ha__law_twin : PySem.W.nsIn K mainGlobals "_law_twin" = some (some (.ref x__law_twin)))
    (hl__law_twin : K.lookup x__law_twin = some ⟨oc__law_twin, od__law_twin, .func (PySem.W.fnOf "_law_twin" "_law_twin" (defArgs s__law_twin) (defBody s__law_twin) (defScope s__law_twin) .none kV__law_twin dc__law_twin pm__law_twin an__law_twin cd__law_twin ct__law_twin), sl__law_twin⟩)
    (hc__law_twin : PySem.W.codeIn K cd__law_twin "_law_twin" = true)
    (hk__law_twin : PySem.W.keepIn K (.ref x__law_twin) = true)
    (ha__law_is : PySem.W.nsIn K mainGlobals "_law_is" = some (some (.ref x__law_is)))
    (hl__law_is : K.lookup x__law_is = some ⟨oc__law_is, od__law_is, .func (PySem.W.fnOf "_law_is" "_law_is" (defArgs s__law_is) (defBody s__law_is) (defScope s__law_is) .none kV__law_is dc__law_is pm__law_is an__law_is cd__law_is ct__law_is), sl__law_is⟩)
    (hc__law_is : PySem.W.codeIn K cd__law_is "_law_is" = true)
    (hk__law_is : PySem.W.keepIn K (.ref x__law_is) = true)
    (ha__law_days : PySem.W.nsIn K mainGlobals "_law_days" = some (some (.ref x__law_days)))
    (hl__law_days : K.lookup x__law_days = some ⟨oc__law_days, od__law_days, .func (PySem.W.fnOf "_law_days" "_law_days" (defArgs s__law_days) (defBody s__law_days) (defScope s__law_days) .none kV__law_days dc__law_days pm__law_days an__law_days cd__law_days ct__law_days), sl__law_days⟩)
    (hc__law_days : PySem.W.codeIn K cd__law_days "_law_days" = true)
    (hk__law_days : PySem.W.keepIn K (.ref x__law_days) = true)
    (ha__law_right : PySem.W.nsIn K mainGlobals "_law_right" = some (some (.ref x__law_right)))
    (hl__law_right : K.lookup x__law_right = some ⟨oc__law_right, od__law_right, .func (PySem.W.fnOf "_law_right" "_law_right" (defArgs s__law_right) (defBody s__law_right) (defScope s__law_right) .none kV__law_right dc__law_right pm__law_right an__law_right cd__law_right ct__law_right), sl__law_right⟩)
    (hc__law_right : PySem.W.codeIn K cd__law_right "_law_right" = true)
    (hk__law_right : PySem.W.keepIn K (.ref x__law_right) = true)
    (ha__law_one : PySem.W.nsIn K mainGlobals "_law_one" = some (some (.ref x__law_one)))
    (hl__law_one : K.lookup x__law_one = some ⟨oc__law_one, od__law_one, .func (PySem.W.fnOf "_law_one" "_law_one" (defArgs s__law_one) (defBody s__law_one) (defScope s__law_one) .none kV__law_one dc__law_one pm__law_one an__law_one cd__law_one ct__law_one), sl__law_one⟩)
    (hc__law_one : PySem.W.codeIn K cd__law_one "_law_one" = true)
    (hk__law_one : PySem.W.keepIn K (.ref x__law_one) = true)
    (ha__law_equal : PySem.W.nsIn K mainGlobals "_law_equal" = some (some (.ref x__law_equal)))
    (hl__law_equal : K.lookup x__law_equal = some ⟨oc__law_equal, od__law_equal, .func (PySem.W.fnOf "_law_equal" "_law_equal" (defArgs s__law_equal) (defBody s__law_equal) (defScope s__law_equal) .none kV__law_equal dc__law_equal pm__law_equal an__law_equal cd__law_equal ct__law_equal), sl__law_equal⟩)
    (hc__law_equal : PySem.W.codeIn K cd__law_equal "_law_equal" = true)
    (hk__law_equal : PySem.W.keepIn K (.ref x__law_equal) = true)
    (ha__law_refused : PySem.W.nsIn K mainGlobals "_law_refused" = some (some (.ref x__law_refused)))
    (hl__law_refused : K.lookup x__law_refused = some ⟨oc__law_refused, od__law_refused, .func (PySem.W.fnOf "_law_refused" "_law_refused" (defArgs s__law_refused) (defBody s__law_refused) (defScope s__law_refused) .none kV__law_refused dc__law_refused pm__law_refused an__law_refused cd__law_refused ct__law_refused), sl__law_refused⟩)
    (hc__law_refused : PySem.W.codeIn K cd__law_refused "_law_refused" = true)
    (hk__law_refused : PySem.W.keepIn K (.ref x__law_refused) = true)
    (ha_law : PySem.W.nsIn K mainGlobals "law" = some (some (.ref x_law)))
    (hl_law : K.lookup x_law = some ⟨oc_law, od_law, .func (PySem.W.fnOf "law" "law" (defArgs s_law) (defBody s_law) (defScope s_law) .none kV_law dc_law pm_law an_law cd_law ct_law), sl_law⟩)
    (hc_law : PySem.W.codeIn K cd_law "law" = true)
    (hk_law : PySem.W.keepIn K (.ref x_law) = true)
    (hn_ValueError : PySem.W.nsIn K mainGlobals "ValueError" = some none)
    (hn_abs : PySem.W.nsIn K mainGlobals "abs" = some none)
    (hn_bool : PySem.W.nsIn K mainGlobals "bool" = some none)
    (hn_int : PySem.W.nsIn K mainGlobals "int" = some none)
    (hn_isinstance : PySem.W.nsIn K mainGlobals "isinstance" = some none)
    (hn_len : PySem.W.nsIn K mainGlobals "len" = some none)
    (hn_min : PySem.W.nsIn K mainGlobals "min" = some none)
    (hn_range : PySem.W.nsIn K mainGlobals "range" = some none)
    (hn_str : PySem.W.nsIn K mainGlobals "str" = some none)
    (ol_OutOfRange : K.lookup x_OutOfRange = some (excClassObj nm_OutOfRange q_OutOfRange x_OutOfRange N_OutOfRange bs_OutOfRange bm_OutOfRange true sn_OutOfRange sub_OutOfRange ab_OutOfRange col_OutOfRange dd_OutOfRange m0_OutOfRange m1_OutOfRange m2_OutOfRange m3_OutOfRange m5_OutOfRange "ValueError.__new__"))
    (or_OutOfRange : PySem.HandSPX.refsVE bm_OutOfRange = true)
    (hx_xsa_OutOfRange : PySem.W.findIn K (.ref x_OutOfRange) "__setattr__" = some (some (.builtin "object.__setattr__")))
    (hx_xga_OutOfRange : PySem.W.findIn K (.ref x_OutOfRange) "__getattribute__" = some (some (.builtin "BaseException.__getattribute__")))
    (hx_xgg_OutOfRange : PySem.W.findIn K (.ref x_OutOfRange) "__getattr__" = some none)
    (hx_xbe_OutOfRange : PySem.W.subIn K (.ref x_OutOfRange) (.type "BaseException") = some true)
    (hx_xty_OutOfRange : PySem.W.typeIn K (.ref x_OutOfRange) = some (.type "type"))
    (hx_xhd_OutOfRange : PySem.W.hasDictIn K x_OutOfRange = true)
    (hx_xca_OutOfRange : PySem.W.findIn K (.ref x_OutOfRange) "__class__" = some (some (.builtin "object.__class__")))
    (hx_xmo_OutOfRange : PySem.W.mroIn K x_OutOfRange (.type "object") = some true)
    (hx_xti_OutOfRange : PySem.W.typeIn K (.ref x_OutOfRange_init) = some (.type "function"))
    (hx_cn_ : PySem.W.specialIn K (.builtin "object.__class__") "__get__" = some (some (.builtin "getset_descriptor.__get__")))
    (hx_ct_ : PySem.W.takesIn K (.builtin "object.__class__") = some true)
    (hx_ymk_Residue : PySem.W.makesIn K x_Residue = true)
    (hx_ypg_Residue : PySem.W.plainGet K x_Residue Str.empty = true)
    (hx_yhd_Residue : PySem.W.hasDictIn K x_Residue = true)
    (hx_ypo_Residue : PySem.W.plainOver K x_Residue = true)
    (hx_ysa_Residue : PySem.W.findIn K (.ref x_Residue) "__setattr__" = some (some (.builtin "object.__setattr__")))
    (hx_ysf_Residue : PySem.W.selfFirst K x_Residue = true)
    (hx_yca_Residue : PySem.W.findIn K (.ref x_Residue) "__class__" = some (some (.builtin "object.__class__")))
    (hx_ymo_Residue : PySem.W.mroIn K x_Residue (.type "object") = some true)
    (hx_no_place : PySem.W.findIn K (.ref x_Residue) "place" = some none)
    (hx_no_length : PySem.W.findIn K (.ref x_Residue) "length" = some none)
    (hx_e_value : PySem.W.findIn K (.ref x_OutOfRange) "value" = some none)
    (hx_ne_ : PySem.W.findIn K (.ref x_Residue) "__ne__" = some (some (.builtin "object.__ne__")))
    (hx_h_add : PySem.W.findIn K (.ref x_Residue) (PySem.dunder Operator.Add.info.2) = some (some (.ref x_Residue___add__)))
    (hx_h_sub : PySem.W.findIn K (.ref x_Residue) (PySem.dunder Operator.Sub.info.2) = some (some (.ref x_Residue___sub__)))
    (hx_r_add : PySem.W.findIn K (.ref x_Residue) (PySem.dunderR Operator.Add.info.2) = some none)
    (hx_r_sub : PySem.W.findIn K (.ref x_Residue) (PySem.dunderR Operator.Sub.info.2) = some none)
    (hx_i_add : PySem.W.findIn K (.type "int") (PySem.dunder Operator.Add.info.2) = some i_add_fo)
    (hx_j_add : PySem.W.findIn K (.type "int") (PySem.dunderR Operator.Add.info.2) = some j_add_fo)
    (hx_i_sub : PySem.W.findIn K (.type "int") (PySem.dunder Operator.Sub.info.2) = some i_sub_fo)
    (hx_j_sub : PySem.W.findIn K (.type "int") (PySem.dunderR Operator.Sub.info.2) = some j_sub_fo)
    (hx_s_int : PySem.W.subIn K (.type "int") (.ref x_Residue) = some false)
    (hx_z_Residue : PySem.W.kitOne K (.ref x_Residue) (.ref x_Residue) = some true)
    (hx_z_oU : PySem.W.kitOne K (.ref x_OutOfRange) (.ref x_UnknownError) = some false)
    (hx_z_oT : PySem.W.kitOne K (.ref x_OutOfRange) (.ref x_TextError) = some false)
    (hx_z_oI : PySem.W.kitOne K (.ref x_OutOfRange) (.ref x_ImpossibleError) = some false)
    (hx_z_oO : PySem.W.kitOne K (.ref x_OutOfRange) (.ref x_OutOfRange) = some true)
    (hx_z_oV : PySem.W.kitOne K (.ref x_OutOfRange) (.type "ValueError") = some true)
    (hx_m_oa : PySem.W.exmOne K (.ref x_OutOfRange) (.ref x_ArchiveError) = some true) :
    ∃ fd : FuncData, (∀ (s : Shared) (v : Value), BindsTo s fd ⟨[v], []⟩ [("_law_script", v)]) ∧ ∀ base : Heap, K.In base → base.Ns mainGlobals mg → FnOk l.prog w K mg base CX0 10 fa fd ["_law_script"] (spLaw K) := by
  have e := hfa.symm.trans (PySem.W.mg_of X G ha_law)
  cases e
  have F_Disjoint_init := fun_mk (st := s_Disjoint_init) hl_Disjoint_init hc_Disjoint_init hk_Disjoint_init
  have b_Disjoint_init := F_Disjoint_init.binds (ps := ["self", "divisor"]) fun _ _ _ _ _ _ us hl => match us, hl with | [_, _], _ => rfl
  have F_OutOfRange_init := fun_mk (st := s_OutOfRange_init) hl_OutOfRange_init hc_OutOfRange_init hk_OutOfRange_init
  have b_OutOfRange_init := F_OutOfRange_init.binds (ps := ["self", "value"]) fun _ _ _ _ _ _ us hl => match us, hl with | [_, _], _ => rfl
  have F__inverse := fun_mk (st := s__inverse) hl__inverse hc__inverse hk__inverse
  have b__inverse := F__inverse.binds (ps := ["number", "length"]) fun _ _ _ _ _ _ us hl => match us, hl with | [_, _], _ => rfl
  have F_Residue_init := fun_mk (st := s_Residue_init) hl_Residue_init hc_Residue_init hk_Residue_init
  have b_Residue_init := F_Residue_init.binds (ps := ["self", "place", "length"]) fun _ _ _ _ _ _ us hl => match us, hl with | [_, _, _], _ => rfl
  have F_Residue___eq__ := fun_mk (st := s_Residue___eq__) hl_Residue___eq__ hc_Residue___eq__ hk_Residue___eq__
  have b_Residue___eq__ := F_Residue___eq__.binds (ps := ["self", "other"]) fun _ _ _ _ _ _ us hl => match us, hl with | [_, _], _ => rfl
  have F_Residue___str__ := fun_mk (st := s_Residue___str__) hl_Residue___str__ hc_Residue___str__ hk_Residue___str__
  have b_Residue___str__ := F_Residue___str__.binds (ps := ["self"]) fun _ _ _ _ _ _ us hl => match us, hl with | [_], _ => rfl
  have F_Residue___contains__ := fun_mk (st := s_Residue___contains__) hl_Residue___contains__ hc_Residue___contains__ hk_Residue___contains__
  have b_Residue___contains__ := F_Residue___contains__.binds (ps := ["self", "day"]) fun _ _ _ _ _ _ us hl => match us, hl with | [_, _], _ => rfl
  have F_Residue___add__ := fun_mk (st := s_Residue___add__) hl_Residue___add__ hc_Residue___add__ hk_Residue___add__
  have b_Residue___add__ := F_Residue___add__.binds (ps := ["self", "many"]) fun _ _ _ _ _ _ us hl => match us, hl with | [_, _], _ => rfl
  have F_Residue___sub__ := fun_mk (st := s_Residue___sub__) hl_Residue___sub__ hc_Residue___sub__ hk_Residue___sub__
  have b_Residue___sub__ := F_Residue___sub__.binds (ps := ["self", "many"]) fun _ _ _ _ _ _ us hl => match us, hl with | [_, _], _ => rfl
  have F_Residue___neg__ := fun_mk (st := s_Residue___neg__) hl_Residue___neg__ hc_Residue___neg__ hk_Residue___neg__
  have b_Residue___neg__ := F_Residue___neg__.binds (ps := ["self"]) fun _ _ _ _ _ _ us hl => match us, hl with | [_], _ => rfl
  have F_Residue___and__ := fun_mk (st := s_Residue___and__) hl_Residue___and__ hc_Residue___and__ hk_Residue___and__
  have b_Residue___and__ := F_Residue___and__.binds (ps := ["self", "other"]) fun _ _ _ _ _ _ us hl => match us, hl with | [_, _], _ => rfl
  have F__law_box := fun_mk (st := s__law_box) hl__law_box hc__law_box hk__law_box
  have b__law_box := F__law_box.binds (ps := ["_law_script"]) fun _ _ _ _ _ _ us hl => match us, hl with | [_], _ => rfl
  have F__law_draw := fun_mk (st := s__law_draw) hl__law_draw hc__law_draw hk__law_draw
  have b__law_draw := F__law_draw.binds (ps := ["_law_box_here", "_law_size_here"]) fun _ _ _ _ _ _ us hl => match us, hl with | [_, _], _ => rfl
  have F__law_is_number := fun_mk (st := s__law_is_number) hl__law_is_number hc__law_is_number hk__law_is_number
  have b__law_is_number := F__law_is_number.binds (ps := ["_law_value"]) fun _ _ _ _ _ _ us hl => match us, hl with | [_], _ => rfl
  have F__law_size := fun_mk (st := s__law_size) hl__law_size hc__law_size hk__law_size
  have b__law_size := F__law_size.binds (ps := ["_law_box_here"]) fun _ _ _ _ _ _ us hl => match us, hl with | [_], _ => rfl
  have F__law_day := fun_mk (st := s__law_day) hl__law_day hc__law_day hk__law_day
  have b__law_day := F__law_day.binds (ps := ["_law_box_here"]) fun _ _ _ _ _ _ us hl => match us, hl with | [_], _ => rfl
  have F__law_plan := fun_mk (st := s__law_plan) hl__law_plan hc__law_plan hk__law_plan
  have b__law_plan := F__law_plan.binds (ps := ["_law_box_here"]) fun _ _ _ _ _ _ us hl => match us, hl with | [_], _ => rfl
  have F__law_twin := fun_mk (st := s__law_twin) hl__law_twin hc__law_twin hk__law_twin
  have b__law_twin := F__law_twin.binds (ps := ["_law_box_here", "_law_plan_here", "_law_other"]) fun _ _ _ _ _ _ us hl => match us, hl with | [_, _, _], _ => rfl
  have F__law_is := fun_mk (st := s__law_is) hl__law_is hc__law_is hk__law_is
  have b__law_is := F__law_is.binds (ps := ["_law_residue", "_law_spot", "_law_size_here"]) fun _ _ _ _ _ _ us hl => match us, hl with | [_, _, _], _ => rfl
  have F__law_days := fun_mk (st := s__law_days) hl__law_days hc__law_days hk__law_days
  have b__law_days := F__law_days.binds (ps := ["_law_residue", "_law_spot", "_law_size_here", "_law_near"]) fun _ _ _ _ _ _ us hl => match us, hl with | [_, _, _, _], _ => rfl
  have F__law_right := fun_mk (st := s__law_right) hl__law_right hc__law_right hk__law_right
  have b__law_right := F__law_right.binds (ps := ["_law_residue", "_law_spot", "_law_size_here", "_law_near"]) fun _ _ _ _ _ _ us hl => match us, hl with | [_, _, _, _], _ => rfl
  have F__law_one := fun_mk (st := s__law_one) hl__law_one hc__law_one hk__law_one
  have b__law_one := F__law_one.binds (ps := ["_law_residue", "_law_plan_here"]) fun _ _ _ _ _ _ us hl => match us, hl with | [_, _], _ => rfl
  have F__law_equal := fun_mk (st := s__law_equal) hl__law_equal hc__law_equal hk__law_equal
  have b__law_equal := F__law_equal.binds (ps := ["_law_residue", "_law_plan_here"]) fun _ _ _ _ _ _ us hl => match us, hl with | [_, _], _ => rfl
  have F__law_refused := fun_mk (st := s__law_refused) hl__law_refused hc__law_refused hk__law_refused
  have b__law_refused := F__law_refused.binds (ps := ["_law_day_here", "_law_size_here"]) fun _ _ _ _ _ _ us hl => match us, hl with | [_, _], _ => rfl
  have F_law := fun_mk (st := s_law) hl_law hc_law hk_law
  have b_law := F_law.binds (ps := ["_law_script"]) fun _ _ _ _ _ _ us hl => match us, hl with | [_], _ => rfl
  let D : Ad := {
    a_Disjoint_init := x_Disjoint_init, d_Disjoint_init := PySem.W.fnOf "__init__" "Disjoint.__init__" (defArgs s_Disjoint_init) (defBody s_Disjoint_init) (defScope s_Disjoint_init) .none kV_Disjoint_init dc_Disjoint_init pm_Disjoint_init an_Disjoint_init cd_Disjoint_init ct_Disjoint_init,
    a_OutOfRange_init := x_OutOfRange_init, d_OutOfRange_init := PySem.W.fnOf "__init__" "OutOfRange.__init__" (defArgs s_OutOfRange_init) (defBody s_OutOfRange_init) (defScope s_OutOfRange_init) .none kV_OutOfRange_init dc_OutOfRange_init pm_OutOfRange_init an_OutOfRange_init cd_OutOfRange_init ct_OutOfRange_init,
    a__inverse := x__inverse, d__inverse := PySem.W.fnOf "_inverse" "_inverse" (defArgs s__inverse) (defBody s__inverse) (defScope s__inverse) .none kV__inverse dc__inverse pm__inverse an__inverse cd__inverse ct__inverse,
    a_Residue_init := x_Residue_init, d_Residue_init := PySem.W.fnOf "__init__" "Residue.__init__" (defArgs s_Residue_init) (defBody s_Residue_init) (defScope s_Residue_init) .none kV_Residue_init dc_Residue_init pm_Residue_init an_Residue_init cd_Residue_init ct_Residue_init,
    a_Residue___eq__ := x_Residue___eq__, d_Residue___eq__ := PySem.W.fnOf "__eq__" "Residue.__eq__" (defArgs s_Residue___eq__) (defBody s_Residue___eq__) (defScope s_Residue___eq__) .none kV_Residue___eq__ dc_Residue___eq__ pm_Residue___eq__ an_Residue___eq__ cd_Residue___eq__ ct_Residue___eq__,
    a_Residue___str__ := x_Residue___str__, d_Residue___str__ := PySem.W.fnOf "__str__" "Residue.__str__" (defArgs s_Residue___str__) (defBody s_Residue___str__) (defScope s_Residue___str__) .none kV_Residue___str__ dc_Residue___str__ pm_Residue___str__ an_Residue___str__ cd_Residue___str__ ct_Residue___str__,
    a_Residue___contains__ := x_Residue___contains__, d_Residue___contains__ := PySem.W.fnOf "__contains__" "Residue.__contains__" (defArgs s_Residue___contains__) (defBody s_Residue___contains__) (defScope s_Residue___contains__) .none kV_Residue___contains__ dc_Residue___contains__ pm_Residue___contains__ an_Residue___contains__ cd_Residue___contains__ ct_Residue___contains__,
    a_Residue___add__ := x_Residue___add__, d_Residue___add__ := PySem.W.fnOf "__add__" "Residue.__add__" (defArgs s_Residue___add__) (defBody s_Residue___add__) (defScope s_Residue___add__) .none kV_Residue___add__ dc_Residue___add__ pm_Residue___add__ an_Residue___add__ cd_Residue___add__ ct_Residue___add__,
    a_Residue___sub__ := x_Residue___sub__, d_Residue___sub__ := PySem.W.fnOf "__sub__" "Residue.__sub__" (defArgs s_Residue___sub__) (defBody s_Residue___sub__) (defScope s_Residue___sub__) .none kV_Residue___sub__ dc_Residue___sub__ pm_Residue___sub__ an_Residue___sub__ cd_Residue___sub__ ct_Residue___sub__,
    a_Residue___neg__ := x_Residue___neg__, d_Residue___neg__ := PySem.W.fnOf "__neg__" "Residue.__neg__" (defArgs s_Residue___neg__) (defBody s_Residue___neg__) (defScope s_Residue___neg__) .none kV_Residue___neg__ dc_Residue___neg__ pm_Residue___neg__ an_Residue___neg__ cd_Residue___neg__ ct_Residue___neg__,
    a_Residue___and__ := x_Residue___and__, d_Residue___and__ := PySem.W.fnOf "__and__" "Residue.__and__" (defArgs s_Residue___and__) (defBody s_Residue___and__) (defScope s_Residue___and__) .none kV_Residue___and__ dc_Residue___and__ pm_Residue___and__ an_Residue___and__ cd_Residue___and__ ct_Residue___and__,
    a__law_box := x__law_box, d__law_box := PySem.W.fnOf "_law_box" "_law_box" (defArgs s__law_box) (defBody s__law_box) (defScope s__law_box) .none kV__law_box dc__law_box pm__law_box an__law_box cd__law_box ct__law_box,
    a__law_draw := x__law_draw, d__law_draw := PySem.W.fnOf "_law_draw" "_law_draw" (defArgs s__law_draw) (defBody s__law_draw) (defScope s__law_draw) .none kV__law_draw dc__law_draw pm__law_draw an__law_draw cd__law_draw ct__law_draw,
    a__law_is_number := x__law_is_number, d__law_is_number := PySem.W.fnOf "_law_is_number" "_law_is_number" (defArgs s__law_is_number) (defBody s__law_is_number) (defScope s__law_is_number) .none kV__law_is_number dc__law_is_number pm__law_is_number an__law_is_number cd__law_is_number ct__law_is_number,
    a__law_size := x__law_size, d__law_size := PySem.W.fnOf "_law_size" "_law_size" (defArgs s__law_size) (defBody s__law_size) (defScope s__law_size) .none kV__law_size dc__law_size pm__law_size an__law_size cd__law_size ct__law_size,
    a__law_day := x__law_day, d__law_day := PySem.W.fnOf "_law_day" "_law_day" (defArgs s__law_day) (defBody s__law_day) (defScope s__law_day) .none kV__law_day dc__law_day pm__law_day an__law_day cd__law_day ct__law_day,
    a__law_plan := x__law_plan, d__law_plan := PySem.W.fnOf "_law_plan" "_law_plan" (defArgs s__law_plan) (defBody s__law_plan) (defScope s__law_plan) .none kV__law_plan dc__law_plan pm__law_plan an__law_plan cd__law_plan ct__law_plan,
    a__law_twin := x__law_twin, d__law_twin := PySem.W.fnOf "_law_twin" "_law_twin" (defArgs s__law_twin) (defBody s__law_twin) (defScope s__law_twin) .none kV__law_twin dc__law_twin pm__law_twin an__law_twin cd__law_twin ct__law_twin,
    a__law_is := x__law_is, d__law_is := PySem.W.fnOf "_law_is" "_law_is" (defArgs s__law_is) (defBody s__law_is) (defScope s__law_is) .none kV__law_is dc__law_is pm__law_is an__law_is cd__law_is ct__law_is,
    a__law_days := x__law_days, d__law_days := PySem.W.fnOf "_law_days" "_law_days" (defArgs s__law_days) (defBody s__law_days) (defScope s__law_days) .none kV__law_days dc__law_days pm__law_days an__law_days cd__law_days ct__law_days,
    a__law_right := x__law_right, d__law_right := PySem.W.fnOf "_law_right" "_law_right" (defArgs s__law_right) (defBody s__law_right) (defScope s__law_right) .none kV__law_right dc__law_right pm__law_right an__law_right cd__law_right ct__law_right,
    a__law_one := x__law_one, d__law_one := PySem.W.fnOf "_law_one" "_law_one" (defArgs s__law_one) (defBody s__law_one) (defScope s__law_one) .none kV__law_one dc__law_one pm__law_one an__law_one cd__law_one ct__law_one,
    a__law_equal := x__law_equal, d__law_equal := PySem.W.fnOf "_law_equal" "_law_equal" (defArgs s__law_equal) (defBody s__law_equal) (defScope s__law_equal) .none kV__law_equal dc__law_equal pm__law_equal an__law_equal cd__law_equal ct__law_equal,
    a__law_refused := x__law_refused, d__law_refused := PySem.W.fnOf "_law_refused" "_law_refused" (defArgs s__law_refused) (defBody s__law_refused) (defScope s__law_refused) .none kV__law_refused dc__law_refused pm__law_refused an__law_refused cd__law_refused ct__law_refused,
    a_law := fa, d_law := PySem.W.fnOf "law" "law" (defArgs s_law) (defBody s_law) (defScope s_law) .none kV_law dc_law pm_law an_law cd_law ct_law,
    c_ArchiveError := x_ArchiveError,
    c_UnknownError := x_UnknownError,
    c_TextError := x_TextError,
    c_ImpossibleError := x_ImpossibleError,
    c_Disjoint := x_Disjoint,
    c_OutOfRange := x_OutOfRange,
    c_Residue := x_Residue }
  have T : Txt K mg D := { F_Disjoint_init := F_Disjoint_init, b_Disjoint_init := b_Disjoint_init, m_Disjoint_init := ha_Disjoint_init, i_Disjoint_init := hi_Disjoint_init, F_OutOfRange_init := F_OutOfRange_init, b_OutOfRange_init := b_OutOfRange_init, m_OutOfRange_init := ha_OutOfRange_init, i_OutOfRange_init := hi_OutOfRange_init, F__inverse := F__inverse, b__inverse := b__inverse, g__inverse := PySem.W.mg_of X G ha__inverse, F_Residue_init := F_Residue_init, b_Residue_init := b_Residue_init, m_Residue_init := ha_Residue_init, i_Residue_init := hi_Residue_init, F_Residue___eq__ := F_Residue___eq__, b_Residue___eq__ := b_Residue___eq__, m_Residue___eq__ := ha_Residue___eq__, i_Residue___eq__ := hi_Residue___eq__, F_Residue___str__ := F_Residue___str__, b_Residue___str__ := b_Residue___str__, m_Residue___str__ := ha_Residue___str__, i_Residue___str__ := hi_Residue___str__, F_Residue___contains__ := F_Residue___contains__, b_Residue___contains__ := b_Residue___contains__, m_Residue___contains__ := ha_Residue___contains__, i_Residue___contains__ := hi_Residue___contains__, F_Residue___add__ := F_Residue___add__, b_Residue___add__ := b_Residue___add__, m_Residue___add__ := ha_Residue___add__, i_Residue___add__ := hi_Residue___add__, F_Residue___sub__ := F_Residue___sub__, b_Residue___sub__ := b_Residue___sub__, m_Residue___sub__ := ha_Residue___sub__, i_Residue___sub__ := hi_Residue___sub__, F_Residue___neg__ := F_Residue___neg__, b_Residue___neg__ := b_Residue___neg__, m_Residue___neg__ := ha_Residue___neg__, i_Residue___neg__ := hi_Residue___neg__, F_Residue___and__ := F_Residue___and__, b_Residue___and__ := b_Residue___and__, m_Residue___and__ := ha_Residue___and__, i_Residue___and__ := hi_Residue___and__, F__law_box := F__law_box, b__law_box := b__law_box, g__law_box := PySem.W.mg_of X G ha__law_box, F__law_draw := F__law_draw, b__law_draw := b__law_draw, g__law_draw := PySem.W.mg_of X G ha__law_draw, F__law_is_number := F__law_is_number, b__law_is_number := b__law_is_number, g__law_is_number := PySem.W.mg_of X G ha__law_is_number, F__law_size := F__law_size, b__law_size := b__law_size, g__law_size := PySem.W.mg_of X G ha__law_size, F__law_day := F__law_day, b__law_day := b__law_day, g__law_day := PySem.W.mg_of X G ha__law_day, F__law_plan := F__law_plan, b__law_plan := b__law_plan, g__law_plan := PySem.W.mg_of X G ha__law_plan, F__law_twin := F__law_twin, b__law_twin := b__law_twin, g__law_twin := PySem.W.mg_of X G ha__law_twin, F__law_is := F__law_is, b__law_is := b__law_is, g__law_is := PySem.W.mg_of X G ha__law_is, F__law_days := F__law_days, b__law_days := b__law_days, g__law_days := PySem.W.mg_of X G ha__law_days, F__law_right := F__law_right, b__law_right := b__law_right, g__law_right := PySem.W.mg_of X G ha__law_right, F__law_one := F__law_one, b__law_one := b__law_one, g__law_one := PySem.W.mg_of X G ha__law_one, F__law_equal := F__law_equal, b__law_equal := b__law_equal, g__law_equal := PySem.W.mg_of X G ha__law_equal, F__law_refused := F__law_refused, b__law_refused := b__law_refused, g__law_refused := PySem.W.mg_of X G ha__law_refused, F_law := F_law, b_law := b_law, g_law := PySem.W.mg_of X G ha_law, g_ArchiveError := PySem.W.mg_of X G hC_ArchiveError, k_ArchiveError := hK_ArchiveError, g_UnknownError := PySem.W.mg_of X G hC_UnknownError, k_UnknownError := hK_UnknownError, g_TextError := PySem.W.mg_of X G hC_TextError, k_TextError := hK_TextError, g_ImpossibleError := PySem.W.mg_of X G hC_ImpossibleError, k_ImpossibleError := hK_ImpossibleError, g_Disjoint := PySem.W.mg_of X G hC_Disjoint, k_Disjoint := hK_Disjoint, g_OutOfRange := PySem.W.mg_of X G hC_OutOfRange, k_OutOfRange := hK_OutOfRange, g_Residue := PySem.W.mg_of X G hC_Residue, k_Residue := hK_Residue, n_ValueError := PySem.W.mg_none_of X G hn_ValueError, n_abs := PySem.W.mg_none_of X G hn_abs, n_bool := PySem.W.mg_none_of X G hn_bool, n_int := PySem.W.mg_none_of X G hn_int, n_isinstance := PySem.W.mg_none_of X G hn_isinstance, n_len := PySem.W.mg_none_of X G hn_len, n_min := PySem.W.mg_none_of X G hn_min, n_range := PySem.W.mg_none_of X G hn_range, n_str := PySem.W.mg_none_of X G hn_str, oxl_OutOfRange := ⟨_, _, _, _, _, _, _, _, _, _, _, _, _, _, _, ol_OutOfRange, or_OutOfRange⟩, xsa_OutOfRange := hx_xsa_OutOfRange, xga_OutOfRange := hx_xga_OutOfRange, xgg_OutOfRange := hx_xgg_OutOfRange, xbe_OutOfRange := hx_xbe_OutOfRange, xty_OutOfRange := hx_xty_OutOfRange, xhd_OutOfRange := hx_xhd_OutOfRange, xca_OutOfRange := hx_xca_OutOfRange, xmo_OutOfRange := hx_xmo_OutOfRange, xti_OutOfRange := hx_xti_OutOfRange, cn_ := hx_cn_, ct_ := hx_ct_, ymk_Residue := hx_ymk_Residue, ypg_Residue := hx_ypg_Residue, yhd_Residue := hx_yhd_Residue, ypo_Residue := hx_ypo_Residue, ysa_Residue := hx_ysa_Residue, ysf_Residue := hx_ysf_Residue, yca_Residue := hx_yca_Residue, ymo_Residue := hx_ymo_Residue, no_place := hx_no_place, no_length := hx_no_length, e_value := hx_e_value, ne_ := hx_ne_, h_add := hx_h_add, h_sub := hx_h_sub, r_add := hx_r_add, r_sub := hx_r_sub, i_add := ⟨_, hx_i_add⟩, j_add := ⟨_, hx_j_add⟩, i_sub := ⟨_, hx_i_sub⟩, j_sub := ⟨_, hx_j_sub⟩, s_int := hx_s_int, z_Residue := hx_z_Residue, z_oU := hx_z_oU, z_oT := hx_z_oT, z_oI := hx_z_oI, z_oO := hx_z_oO, z_oV := hx_z_oV, m_oa := hx_m_oa }
  exact ⟨D.d_law, fun s v => .of_eq rfl, fun base _ _ => ok_law (D := D) T⟩

theorem walk {l : PySem.W.OpenLaw} {q : Program} {loose : List Str} {XP : (Str → Option Value) → Heap → Prop} {YP : World → Heap → Prop} {d : DefRec} {K : Params → PySem.W.Frag} (hn : l.most = some 63) (hdf : d.params.defaults = [])
    (hY : ∀ (w : World) (h : Heap), YP w h → (K w.params).In h)
    (F : ∀ (w : World) (mg : Str → Option Value) (fa : Addr) (h : Heap), (K w.params).In h → h.Ns mainGlobals mg → mg d.name = some (.ref fa) →
      ∃ fd : FuncData, (∀ (s : Shared) (u : Value), BindsTo s fd ⟨[u], []⟩ [("_law_script", u)]) ∧ ∀ base : Heap, (K w.params).In base → base.Ns mainGlobals mg → FnOk l.prog w (K w.params) mg base CX0 10 fa fd ["_law_script"] (spLaw (K w.params))) :
    PySem.W.WalkO q loose XP YP l.row.toRowW d [] (fun f vs => PySem.call f vs) :=
  L2.walk_of (n := 63) (k := 10) (x := "_law_script") (CX := fun _ => CX0) (sp := fun w => spLaw (K w.params)) hn (by decide) hdf ⟨rfl, by decide, by decide⟩ hY F (fun _ _ a ns hl _ hS => ⟨a, ns, rfl, hS, hl, fun _ => rfl⟩) fun _ _ _ _ _ z => z
end Toy

open PySem PySem.W PyProof.Rows in
set_option maxRecDepth 100000 in
set_option maxHeartbeats 0 in
theorem PySem.Challenge.cw_fittingpasts_k00_residue_days_holds : PySem.Challenge.rw_fittingpasts_k00_residue_days.Holds := by
  w_on; o_law; k_head; (case hw => w_witness2)
  k_fill
  refine Toy.walk (l := PySem.Challenge.rw_fittingpasts_k00_residue_days) rfl rfl (fun w h Y => PySem.W.kIn_of Y) ?F
  case F =>
    intro w mg fa h KX G hmg
    refine' Toy.all_mk KX G hmg ?hC_ArchiveError ?hK_ArchiveError ?hC_UnknownError ?hK_UnknownError ?hC_TextError ?hK_TextError ?hC_ImpossibleError ?hK_ImpossibleError ?hC_Disjoint ?hK_Disjoint ?hC_OutOfRange ?hK_OutOfRange ?hC_Residue ?hK_Residue ?ha_Disjoint_init ?hi_Disjoint_init ?hl_Disjoint_init ?hc_Disjoint_init ?hk_Disjoint_init ?ha_OutOfRange_init ?hi_OutOfRange_init ?hl_OutOfRange_init ?hc_OutOfRange_init ?hk_OutOfRange_init ?ha__inverse ?hl__inverse ?hc__inverse ?hk__inverse ?ha_Residue_init ?hi_Residue_init ?hl_Residue_init ?hc_Residue_init ?hk_Residue_init ?ha_Residue___eq__ ?hi_Residue___eq__ ?hl_Residue___eq__ ?hc_Residue___eq__ ?hk_Residue___eq__ ?ha_Residue___str__ ?hi_Residue___str__ ?hl_Residue___str__ ?hc_Residue___str__ ?hk_Residue___str__ ?ha_Residue___contains__ ?hi_Residue___contains__ ?hl_Residue___contains__ ?hc_Residue___contains__ ?hk_Residue___contains__ ?ha_Residue___add__ ?hi_Residue___add__ ?hl_Residue___add__ ?hc_Residue___add__ ?hk_Residue___add__ ?ha_Residue___sub__ ?hi_Residue___sub__ ?hl_Residue___sub__ ?hc_Residue___sub__ ?hk_Residue___sub__ ?ha_Residue___neg__ ?hi_Residue___neg__ ?hl_Residue___neg__ ?hc_Residue___neg__ ?hk_Residue___neg__ ?ha_Residue___and__ ?hi_Residue___and__ ?hl_Residue___and__ ?hc_Residue___and__ ?hk_Residue___and__ ?ha__law_box ?hl__law_box ?hc__law_box ?hk__law_box ?ha__law_draw ?hl__law_draw ?hc__law_draw ?hk__law_draw ?ha__law_is_number ?hl__law_is_number ?hc__law_is_number ?hk__law_is_number ?ha__law_size ?hl__law_size ?hc__law_size ?hk__law_size ?ha__law_day ?hl__law_day ?hc__law_day ?hk__law_day ?ha__law_plan ?hl__law_plan ?hc__law_plan ?hk__law_plan ?ha__law_twin ?hl__law_twin ?hc__law_twin ?hk__law_twin ?ha__law_is ?hl__law_is ?hc__law_is ?hk__law_is ?ha__law_days ?hl__law_days ?hc__law_days ?hk__law_days ?ha__law_right ?hl__law_right ?hc__law_right ?hk__law_right ?ha__law_one ?hl__law_one ?hc__law_one ?hk__law_one ?ha__law_equal ?hl__law_equal ?hc__law_equal ?hk__law_equal ?ha__law_refused ?hl__law_refused ?hc__law_refused ?hk__law_refused ?ha_law ?hl_law ?hc_law ?hk_law ?hn_ValueError ?hn_abs ?hn_bool ?hn_int ?hn_isinstance ?hn_len ?hn_min ?hn_range ?hn_str ?ol_OutOfRange ?or_OutOfRange ?hx_xsa_OutOfRange ?hx_xga_OutOfRange ?hx_xgg_OutOfRange ?hx_xbe_OutOfRange ?hx_xty_OutOfRange ?hx_xhd_OutOfRange ?hx_xca_OutOfRange ?hx_xmo_OutOfRange ?hx_xti_OutOfRange ?hx_cn_ ?hx_ct_ ?hx_ymk_Residue ?hx_ypg_Residue ?hx_yhd_Residue ?hx_ypo_Residue ?hx_ysa_Residue ?hx_ysf_Residue ?hx_yca_Residue ?hx_ymo_Residue ?hx_no_place ?hx_no_length ?hx_e_value ?hx_ne_ ?hx_h_add ?hx_h_sub ?hx_r_add ?hx_r_sub ?hx_i_add ?hx_j_add ?hx_i_sub ?hx_j_sub ?hx_s_int ?hx_z_Residue ?hx_z_oU ?hx_z_oT ?hx_z_oI ?hx_z_oO ?hx_z_oV ?hx_m_oa
    (case hC_ArchiveError => first | k_is | rfl)
    (case hK_ArchiveError => first | k_is | rfl)
    (case hC_UnknownError => first | k_is | rfl)
    (case hK_UnknownError => first | k_is | rfl)
    (case hC_TextError => first | k_is | rfl)
    (case hK_TextError => first | k_is | rfl)
    (case hC_ImpossibleError => first | k_is | rfl)
    (case hK_ImpossibleError => first | k_is | rfl)
    (case hC_Disjoint => first | k_is | rfl)
    (case hK_Disjoint => first | k_is | rfl)
    (case hC_OutOfRange => first | k_is | rfl)
    (case hK_OutOfRange => first | k_is | rfl)
    (case hC_Residue => first | k_is | rfl)
    (case hK_Residue => first | k_is | rfl)
    (case ha_Disjoint_init => first | k_is | rfl)
    (case hi_Disjoint_init => first | k_is | rfl)
    (case hl_Disjoint_init => first | k_is | rfl)
    (case hc_Disjoint_init => first | k_is | rfl)
    (case hk_Disjoint_init => first | k_is | rfl)
    (case ha_OutOfRange_init => first | k_is | rfl)
    (case hi_OutOfRange_init => first | k_is | rfl)
    (case hl_OutOfRange_init => first | k_is | rfl)
    (case hc_OutOfRange_init => first | k_is | rfl)
    (case hk_OutOfRange_init => first | k_is | rfl)
    (case ha__inverse => first | k_is | rfl)
    (case hl__inverse => first | k_is | rfl)
    (case hc__inverse => first | k_is | rfl)
    (case hk__inverse => first | k_is | rfl)
    (case ha_Residue_init => first | k_is | rfl)
    (case hi_Residue_init => first | k_is | rfl)
    (case hl_Residue_init => first | k_is | rfl)
    (case hc_Residue_init => first | k_is | rfl)
    (case hk_Residue_init => first | k_is | rfl)
    (case ha_Residue___eq__ => first | k_is | rfl)
    (case hi_Residue___eq__ => first | k_is | rfl)
    (case hl_Residue___eq__ => first | k_is | rfl)
    (case hc_Residue___eq__ => first | k_is | rfl)
    (case hk_Residue___eq__ => first | k_is | rfl)
    (case ha_Residue___str__ => first | k_is | rfl)
    (case hi_Residue___str__ => first | k_is | rfl)
    (case hl_Residue___str__ => first | k_is | rfl)
    (case hc_Residue___str__ => first | k_is | rfl)
    (case hk_Residue___str__ => first | k_is | rfl)
    (case ha_Residue___contains__ => first | k_is | rfl)
    (case hi_Residue___contains__ => first | k_is | rfl)
    (case hl_Residue___contains__ => first | k_is | rfl)
    (case hc_Residue___contains__ => first | k_is | rfl)
    (case hk_Residue___contains__ => first | k_is | rfl)
    (case ha_Residue___add__ => first | k_is | rfl)
    (case hi_Residue___add__ => first | k_is | rfl)
    (case hl_Residue___add__ => first | k_is | rfl)
    (case hc_Residue___add__ => first | k_is | rfl)
    (case hk_Residue___add__ => first | k_is | rfl)
    (case ha_Residue___sub__ => first | k_is | rfl)
    (case hi_Residue___sub__ => first | k_is | rfl)
    (case hl_Residue___sub__ => first | k_is | rfl)
    (case hc_Residue___sub__ => first | k_is | rfl)
    (case hk_Residue___sub__ => first | k_is | rfl)
    (case ha_Residue___neg__ => first | k_is | rfl)
    (case hi_Residue___neg__ => first | k_is | rfl)
    (case hl_Residue___neg__ => first | k_is | rfl)
    (case hc_Residue___neg__ => first | k_is | rfl)
    (case hk_Residue___neg__ => first | k_is | rfl)
    (case ha_Residue___and__ => first | k_is | rfl)
    (case hi_Residue___and__ => first | k_is | rfl)
    (case hl_Residue___and__ => first | k_is | rfl)
    (case hc_Residue___and__ => first | k_is | rfl)
    (case hk_Residue___and__ => first | k_is | rfl)
    (case ha__law_box => first | k_is | rfl)
    (case hl__law_box => first | k_is | rfl)
    (case hc__law_box => first | k_is | rfl)
    (case hk__law_box => first | k_is | rfl)
    (case ha__law_draw => first | k_is | rfl)
    (case hl__law_draw => first | k_is | rfl)
    (case hc__law_draw => first | k_is | rfl)
    (case hk__law_draw => first | k_is | rfl)
    (case ha__law_is_number => first | k_is | rfl)
    (case hl__law_is_number => first | k_is | rfl)
    (case hc__law_is_number => first | k_is | rfl)
    (case hk__law_is_number => first | k_is | rfl)
    (case ha__law_size => first | k_is | rfl)
    (case hl__law_size => first | k_is | rfl)
    (case hc__law_size => first | k_is | rfl)
    (case hk__law_size => first | k_is | rfl)
    (case ha__law_day => first | k_is | rfl)
    (case hl__law_day => first | k_is | rfl)
    (case hc__law_day => first | k_is | rfl)
    (case hk__law_day => first | k_is | rfl)
    (case ha__law_plan => first | k_is | rfl)
    (case hl__law_plan => first | k_is | rfl)
    (case hc__law_plan => first | k_is | rfl)
    (case hk__law_plan => first | k_is | rfl)
    (case ha__law_twin => first | k_is | rfl)
    (case hl__law_twin => first | k_is | rfl)
    (case hc__law_twin => first | k_is | rfl)
    (case hk__law_twin => first | k_is | rfl)
    (case ha__law_is => first | k_is | rfl)
    (case hl__law_is => first | k_is | rfl)
    (case hc__law_is => first | k_is | rfl)
    (case hk__law_is => first | k_is | rfl)
    (case ha__law_days => first | k_is | rfl)
    (case hl__law_days => first | k_is | rfl)
    (case hc__law_days => first | k_is | rfl)
    (case hk__law_days => first | k_is | rfl)
    (case ha__law_right => first | k_is | rfl)
    (case hl__law_right => first | k_is | rfl)
    (case hc__law_right => first | k_is | rfl)
    (case hk__law_right => first | k_is | rfl)
    (case ha__law_one => first | k_is | rfl)
    (case hl__law_one => first | k_is | rfl)
    (case hc__law_one => first | k_is | rfl)
    (case hk__law_one => first | k_is | rfl)
    (case ha__law_equal => first | k_is | rfl)
    (case hl__law_equal => first | k_is | rfl)
    (case hc__law_equal => first | k_is | rfl)
    (case hk__law_equal => first | k_is | rfl)
    (case ha__law_refused => first | k_is | rfl)
    (case hl__law_refused => first | k_is | rfl)
    (case hc__law_refused => first | k_is | rfl)
    (case hk__law_refused => first | k_is | rfl)
    (case ha_law => first | k_is | rfl)
    (case hl_law => first | k_is | rfl)
    (case hc_law => first | k_is | rfl)
    (case hk_law => first | k_is | rfl)
    (case hn_ValueError => first | k_is | rfl)
    (case hn_abs => first | k_is | rfl)
    (case hn_bool => first | k_is | rfl)
    (case hn_int => first | k_is | rfl)
    (case hn_isinstance => first | k_is | rfl)
    (case hn_len => first | k_is | rfl)
    (case hn_min => first | k_is | rfl)
    (case hn_range => first | k_is | rfl)
    (case hn_str => first | k_is | rfl)
    (case ol_OutOfRange => first | k_is | rfl)
    (case or_OutOfRange => decide +kernel)
    (case hx_xsa_OutOfRange => first | k_is | rfl)
    (case hx_xga_OutOfRange => first | k_is | rfl)
    (case hx_xgg_OutOfRange => first | k_is | rfl)
    (case hx_xbe_OutOfRange => first | k_is | rfl)
    (case hx_xty_OutOfRange => first | k_is | rfl)
    (case hx_xhd_OutOfRange => first | k_is | rfl)
    (case hx_xca_OutOfRange => first | k_is | rfl)
    (case hx_xmo_OutOfRange => first | k_is | rfl)
    (case hx_xti_OutOfRange => first | k_is | rfl)
    (case hx_cn_ => first | k_is | rfl)
    (case hx_ct_ => first | k_is | rfl)
    (case hx_ymk_Residue => first | k_is | rfl)
    (case hx_ypg_Residue => first | k_is | rfl)
    (case hx_yhd_Residue => first | k_is | rfl)
    (case hx_ypo_Residue => first | k_is | rfl)
    (case hx_ysa_Residue => first | k_is | rfl)
    (case hx_ysf_Residue => first | k_is | rfl)
    (case hx_yca_Residue => first | k_is | rfl)
    (case hx_ymo_Residue => first | k_is | rfl)
    (case hx_no_place => first | k_is | rfl)
    (case hx_no_length => first | k_is | rfl)
    (case hx_e_value => first | k_is | rfl)
    (case hx_ne_ => first | k_is | rfl)
    (case hx_h_add => first | k_is | rfl)
    (case hx_h_sub => first | k_is | rfl)
    (case hx_r_add => first | k_is | rfl)
    (case hx_r_sub => first | k_is | rfl)
    (case hx_i_add => first | k_is | rfl)
    (case hx_j_add => first | k_is | rfl)
    (case hx_i_sub => first | k_is | rfl)
    (case hx_j_sub => first | k_is | rfl)
    (case hx_s_int => first | k_is | rfl)
    (case hx_z_Residue => first | k_is | rfl)
    (case hx_z_oU => first | k_is | rfl)
    (case hx_z_oT => first | k_is | rfl)
    (case hx_z_oI => first | k_is | rfl)
    (case hx_z_oO => first | k_is | rfl)
    (case hx_z_oV => first | k_is | rfl)
    (case hx_m_oa => first | k_is | rfl)

