import PyProof.Rows.All
import Wide.All
import OpenK.AllK
import Wide.FinOn
import HandS.ForExc
import HandS.Comp
import HandS.Wide
import HandS.IsInst
import HandS.Property
import HandS.FStr
import HandS.MakeKw
import HandS.MakeKwOnly
import HandS.ExcInit
import HandS.ExcField
import HandS.ExcIs
import HandS.HotCalls
import HandS.OwnEq
import HandS.Evl
import KE.KCallOwn
import PySem.Challenge.RW_fittingpasts_k03_cycle_places
set_option Elab.async false
set_option linter.all false
set_option maxRecDepth 100000
set_option maxHeartbeats 4000000
/-! own rules: operators that a class of the program defines -/
namespace XR
open PySem PySem.Spec PyProof.Rows L2
section
variable {X : Cx} {CX : CXT} {k : Nat} {C f : Addr} {fd : FuncData} {ps : List Str} {sp : Sp} {E : XK}
/-- the callee runs, somewhere below the body -/
theorem run_at {A : Around} {pins : List (Addr × Obj)} {σ : L2.St} {H : Hp} {s : Shared} {Q : VK} {us : List Value} {vs : List V} (F : FnOk X.prog X.w X.K X.mg X.base CX k f fd ps sp) (hr : Room k A) (hA : A.frames = X.A.frames) (hb : Binds X.K fd ps []) (hx : PassesAt CX X σ E)
    (I : Inv X pins σ H s) (r : Vals vs us) (h : sp vs H Q E) : wpAny (model X.prog X.w) A (call (.ref f) us) (EP X pins σ Q) X.xe s := by
  have hl : us.length = ps.length := by rw [← r.length]; exact F.len _ _ _ _ h
  have e0 : Env0 X.prog X.w X.K X.mg X.base A X.stack s H := by
    have e := I.env0
    exact ⟨by rw [hA]; exact e.frames, e.mod, e.bs, e.bsz, e.funs, e.frf, e.hok, e.bare⟩
  have b := hb s us I.kIn (by rw [List.append_nil]; exact hl)
  rw [List.append_nil] at b
  refine wpAny_call (codeAny_mono (F.run A X.stack s H ⟨us, []⟩ us vs Q E hr e0 b r h) fun r s' hq => ?_)
  cases r with
  | error e => exact hx pins H s e s' I hq
  | ok fl =>
    cases fl with
    | ret u => exact I.after hq
    | next => exact False.elim hq
    | brk => exact False.elim hq
    | cont => exact False.elim hq
/-- an instance of the class at C -/
theorem inst_at {pins : List (Addr × Obj)} {σ : L2.St} {H : Hp} {s : Shared} {a dx : Addr} {fs : List (Str × V)} (I : Inv X pins σ H s) (ha : H a = some (.ins C dx fs)) : ∃ od, PySem.W.InstAt s.heap a (PySem.W.instObj C dx) C (some od) := by
  obtain ⟨mA, J, _⟩ := ins_get I.hok ha
  obtain ⟨od, J, _⟩ := J.look
  exact ⟨od, J⟩
theorem back_of {pins : List (Addr × Obj)} {σ : L2.St} {Q : VK} {v : Value} {s' : Shared} (h : EP X pins σ Q v s') : PySem.W.CmpBack (EP X pins σ Q) v s' := by
  obtain ⟨x, H', I', r, q⟩ := h
  have keep : EP X pins σ Q v s' := ⟨x, H', I', r, q⟩
  cases x with
  | non =>
    obtain rfl : v = Value.none := r
    exact keep
  | bl _ =>
    obtain rfl : v = Value.bool _ := r
    exact keep
  | int _ =>
    obtain ⟨t, rfl⟩ := r
    exact keep
  | str _ =>
    obtain ⟨t, rfl⟩ := r
    exact keep
  | byt _ =>
    obtain ⟨t, rfl⟩ := r
    exact keep
  | flt _ =>
    obtain ⟨t, rfl⟩ := r
    exact keep
  | ref _ =>
    obtain rfl : v = Value.ref _ := r
    exact keep
  | ty _ =>
    obtain rfl : v = Value.type _ := r
    exact keep

/-! ### a op b -/
structure OwnB (K : PySem.W.Frag) (C f : Addr) (op : Operator) : Prop where
  sf : PySem.W.selfFirst K C = true
  hs : PySem.W.findIn K (.ref C) (PySem.dunder op.info.2) = some (some (.ref f))
  hf : PySem.W.isFn K (.ref f) = true
  hr : PySem.W.findIn K (.ref C) (PySem.dunderR op.info.2) = some none
/-- .. an int on the right -/
structure OwnBI (K : PySem.W.Frag) (C : Addr) (op : Operator) : Prop where
  h1 : ∃ fo, PySem.W.findIn K (.type "int") (PySem.dunder op.info.2) = some fo
  h2 : ∃ ro, PySem.W.findIn K (.type "int") (PySem.dunderR op.info.2) = some ro
  sub : PySem.W.subIn K (.type "int") (.ref C) = some false
/-- by the left one's own method: an int or an instance of the same class on the right -/
def rOwnI (C : Addr) (sp : Sp) (E : XK) : R2 := fun x y H Q => ∃ a dx fs i, x = .ref a ∧ y = .int i ∧ H a = some (.ins C dx fs) ∧ sp [.ref a, .int i] H Q E
def rOwnC (C : Addr) (sp : Sp) (E : XK) : R2 := fun x y H Q => ∃ a b dx dy fs gs, x = .ref a ∧ y = .ref b ∧ H a = some (.ins C dx fs) ∧ H b = some (.ins C dy gs) ∧ sp [.ref a, .ref b] H Q E
theorem ownI {op : Operator} {pins : List (Addr × Obj)} {s : Shared} {σ : L2.St} {H : Hp} {x y : V} {v u : Value} {Q : VK} (O : OwnB X.K C f op) (OI : OwnBI X.K C op) (F : FnOk X.prog X.w X.K X.mg X.base CX k f fd ps sp) (hr : Room k X.A) (hb : Binds X.K fd ps []) (hx : PassesAt CX X σ E)
    (I : Inv X pins σ H s) (rx : RelV x v) (ry : RelV y u) (hq : rOwnI C sp E x y H Q) : wpAny (model X.prog X.w) X.A (binaryOp op v u) (EP X pins σ Q) X.xe s := by
  obtain ⟨a, dx, fs, i, rfl, rfl, ha, q⟩ := hq
  cases rx
  obtain ⟨t, rfl⟩ := ry
  obtain ⟨od, J⟩ := inst_at I ha
  obtain ⟨m, hF⟩ := I.fr
  obtain ⟨fo, h1⟩ := OI.h1
  obtain ⟨ro, h2⟩ := OI.h2
  exact PySem.W.ksp_binT (T := "int") hF I.ok.mod.kin J rfl O.sf O.hs O.hf O.hr (.inl rfl) h1 h2 OI.sub
    (thn (run_at (vs := [.ref a, .int i]) F hr rfl hb hx I (.cons rfl (.cons ⟨t, rfl⟩ .nil)) q) fun _ _ z => back_of z)
theorem ownC {op : Operator} {pins : List (Addr × Obj)} {s : Shared} {σ : L2.St} {H : Hp} {x y : V} {v u : Value} {Q : VK} (O : OwnB X.K C f op) (F : FnOk X.prog X.w X.K X.mg X.base CX k f fd ps sp) (hr : Room k X.A) (hb : Binds X.K fd ps []) (hx : PassesAt CX X σ E)
    (I : Inv X pins σ H s) (rx : RelV x v) (ry : RelV y u) (hq : rOwnC C sp E x y H Q) : wpAny (model X.prog X.w) X.A (binaryOp op v u) (EP X pins σ Q) X.xe s := by
  obtain ⟨a, b, dx, dy, fs, gs, rfl, rfl, ha, hb', q⟩ := hq
  cases rx
  cases ry
  obtain ⟨od, J⟩ := inst_at I ha
  obtain ⟨od', J'⟩ := inst_at I hb'
  obtain ⟨m, hF⟩ := I.fr
  exact PySem.W.binop_K hF I.ok.mod.kin J J'.type O.sf O.hs O.hf
    (thn (run_at (vs := [.ref a, .ref b]) F hr rfl hb hx I (.cons rfl (.cons rfl .nil)) q) fun _ _ z => back_of z)
theorem at_of_passes {σ : L2.St} (hx : Passes CX X E) : PassesAt CX X σ E := fun pins H s e s' I c => hx pins σ H s e s' I c
theorem op_ownI {op : Operator} (O : OwnB X.K C f op) (OI : OwnBI X.K C op) (F : FnOk X.prog X.w X.K X.mg X.base CX k f fd ps sp) (hr : Room k X.A) (hb : Binds X.K fd ps []) (hx : Passes CX X E) : OpR X (binaryOp op) (rOwnI C sp E) :=
  fun pins s σ H x y v u Q I rx ry hq => ownI O OI F hr hb (at_of_passes hx) I rx ry hq
theorem op_ownC {op : Operator} (O : OwnB X.K C f op) (F : FnOk X.prog X.w X.K X.mg X.base CX k f fd ps sp) (hr : Room k X.A) (hb : Binds X.K fd ps []) (hx : Passes CX X E) : OpR X (binaryOp op) (rOwnC C sp E) :=
  fun pins s σ H x y v u Q I rx ry hq => ownC O F hr hb (at_of_passes hx) I rx ry hq
/-- .. in a try's body -/
def tOpS (r : L2.St → R2) (ta tb : TE) : TE := fun σ H Q => ta σ H fun x H1 => tb σ H1 fun y H2 => r σ x y H2 Q
theorem pe_opCS {op : Operator} {a b : Expr} {pos : Pos} {ta tb : TE} {ES : L2.St → XK} (O : OwnB X.K C f op) (F : FnOk X.prog X.w X.K X.mg X.base CX k f fd ps sp) (hr : Room k X.A) (hb : Binds X.K fd ps []) (hx : ∀ σ, PassesAt CX X σ (ES σ)) (ha : PE X a ta) (hb2 : PE X b tb) :
    PE X (.BinOp a op b pos) (tOpS (fun σ => rOwnC C sp (ES σ)) ta tb) := by
  refine ⟨fun pins s σ H Q I h => ?_⟩
  exact (wpAny_BinOp (binT ha hb2 I (R := fun x y H2 => rOwnC C sp (ES σ) x y H2 Q) (by exact h) fun v u s1 x y H1 I1 r1 r2 q => ownC O F hr hb (hx σ) I1 r1 r2 q))
/-! ### x in o, x not in o -/
structure OwnM (K : PySem.W.Frag) (C f : Addr) (name : Str) : Prop where
  hs : PySem.W.findIn K (.ref C) name = some (some (.ref f))
  hf : PySem.W.isFn K (.ref f) = true
def rInOwn (C : Addr) (sp : Sp) (E : XK) (neg : Bool) : R2 := fun x y H Q => ∃ a dx fs, y = .ref a ∧ H a = some (.ins C dx fs) ∧ sp [.ref a, x] H (fun v H' => ∃ b, v = .bl b ∧ Q (.bl (if neg then !b else b)) H') E
theorem op_in_own (O : OwnM X.K C f "__contains__") (F : FnOk X.prog X.w X.K X.mg X.base CX k f fd ps sp) (hr : Room k X.A) (hb : Binds X.K fd ps []) (hx : Passes CX X E) : OpR X (compareOp .In) (rInOwn C sp E false) := by
  intro pins s σ H x y v u Q I rx ry hq
  obtain ⟨a, dx, fs, rfl, ha, q⟩ := hq
  cases ry
  obtain ⟨od, J⟩ := inst_at I ha
  obtain ⟨m, hF⟩ := I.fr
  refine PySem.W.in_K hF I.ok.mod.kin J O.hs O.hf (thn (run_at (vs := [.ref a, x]) F hr rfl hb (at_of_passes hx) I (.cons rfl (.cons rx .nil)) q) fun r s' z => ?_)
  obtain ⟨w', H', I', rw', b, rfl, q2⟩ := z
  cases rw'
  exact wpAny_truthy_bool ⟨.bl b, H', I', rfl, q2⟩
theorem op_notIn_own (O : OwnM X.K C f "__contains__") (F : FnOk X.prog X.w X.K X.mg X.base CX k f fd ps sp) (hr : Room k X.A) (hb : Binds X.K fd ps []) (hx : Passes CX X E) : OpR X (compareOp .NotIn) (rInOwn C sp E true) := by
  intro pins s σ H x y v u Q I rx ry hq
  obtain ⟨a, dx, fs, rfl, ha, q⟩ := hq
  cases ry
  obtain ⟨od, J⟩ := inst_at I ha
  obtain ⟨m, hF⟩ := I.fr
  refine PySem.W.notIn_K hF I.ok.mod.kin J O.hs O.hf (thn (run_at (vs := [.ref a, x]) F hr rfl hb (at_of_passes hx) I (.cons rfl (.cons rx .nil)) q) fun r s' z => ?_)
  obtain ⟨w', H', I', rw', b, rfl, q2⟩ := z
  cases rw'
  exact wpAny_truthy_bool ⟨.bl (!b), H', I', rfl, q2⟩
/-! ### a == b, a != b by the class's __eq__ (no __ne__ of its own) -/
structure OwnE (K : PySem.W.Frag) (C f : Addr) : Prop where
  hs : PySem.W.findIn K (.ref C) "__eq__" = some (some (.ref f))
  hf : PySem.W.isFn K (.ref f) = true
  hn : PySem.W.findIn K (.ref C) "__ne__" = some (some (.builtin "object.__ne__"))
  ob : PySem.W.mroIn K C (.type "object") = some true
def rEqOwn (C : Addr) (sp : Sp) (E : XK) (neg : Bool) : R2 := fun x y H Q => ∃ a b dx dy fs gs, x = .ref a ∧ y = .ref b ∧ H a = some (.ins C dx fs) ∧ H b = some (.ins C dy gs) ∧ sp [.ref a, .ref b] H (fun v H' => ∃ c, v = .bl c ∧ Q (.bl (if neg then !c else c)) H') E
theorem op_eq_own (O : OwnE X.K C f) (F : FnOk X.prog X.w X.K X.mg X.base CX k f fd ps sp) (hr : Room k X.A) (hb : Binds X.K fd ps []) (hx : Passes CX X E) : OpR X (compareOp .Eq) (rEqOwn C sp E false) := by
  intro pins s σ H x y v u Q I rx ry hq
  obtain ⟨a, b, dx, dy, fs, gs, rfl, rfl, ha, hb', q⟩ := hq
  cases rx
  cases ry
  obtain ⟨od, J⟩ := inst_at I ha
  obtain ⟨od', J'⟩ := inst_at I hb'
  obtain ⟨m, hF⟩ := I.fr
  refine PySem.W.cmp_K (op := .Eq) (tb := .ref C) hr.units0 hF I.ok.mod.kin J J'.type (by simp [PySem.W.notFirst]) O.hs O.hf ?_
  refine thn (run_at (vs := [.ref a, .ref b]) F hr rfl hb (at_of_passes hx) I (.cons rfl (.cons rfl .nil)) q) fun _ _ z => ?_
  obtain ⟨w', H', I', rw', c, rfl, q2⟩ := z
  cases rw'
  exact (⟨.bl c, H', I', rfl, q2⟩ : EP X pins σ Q (.bool c) _)
theorem objNe_entry {prog : Program} {w : World} {A : Around} {E : Value → Shared → Prop} {K : PySem.W.Frag} {x C f : Addr} {ox : Obj} {od : Option Obj} {b : Value} {s : Shared} {Q : PySem.Fin → Shared → Prop} (hu : A.units < cLine) (Xk : K.In s.heap) (I : PySem.W.InstAt s.heap x ox C od)
    (hs : PySem.W.findIn K (.ref C) "__eq__" = some (some (.ref f))) (hf : PySem.W.isFn K (.ref f) = true)
    (h : wpAny (model prog w) A (call (.ref f) [.ref x, b]) (fun v s' => ∃ c, v = .bool c ∧ Q (.done (.ret (.bool (!c)))) s') E s) :
    wpAny (model prog w) A (Builtin.«object.__ne__» ⟨[.ref x, b], []⟩) Q E s := by
  unfold Builtin.«object.__ne__»
  refine wpAny_bind (wpAny_of_eq (a := ((Value.ref x : Value), [b])) (by first | rfl | (simp only [Builtin.slotArgs]; rfl)) ?_)
  refine wpAny_bind (wpAny_cRoomFor hu ?_)
  refine wpAny_bind (PySem.W.ifBound_K Xk I hs hf (thn h fun v s' z => ?_))
  obtain ⟨c, rfl, q⟩ := z
  exact wpAny_bind (wpAny_truthy_bool (wpAny_pure q))
theorem cmp_ne {prog : Program} {w : World} {A : Around} {E : Value → Shared → Prop} {K : PySem.W.Frag} {x C f : Addr} {ox : Obj} {od : Option Obj} {b : Value} {s : Shared} {Q : Value → Shared → Prop} (hu : A.units + 1 < cLine) (Xk : K.In s.heap) (I : PySem.W.InstAt s.heap x ox C od)
    (hb : PySem.W.Looks (model prog w) s.heap (typeOf b) (.ref C)) (hn : PySem.W.findIn K (.ref C) "__ne__" = some (some (.builtin "object.__ne__"))) (ob : PySem.W.mroIn K C (.type "object") = some true)
    (hs : PySem.W.findIn K (.ref C) "__eq__" = some (some (.ref f))) (hf : PySem.W.isFn K (.ref f) = true)
    (h : wpAny (model prog w) A.in1 (call (.ref f) [.ref x, b]) (fun v s' => ∃ c, v = .bool c ∧ Q (.bool (!c)) s') E s) :
    wpAny (model prog w) A (richCompare .NotEq (.ref x) b) Q E s := by
  have sub : PySem.W.Looks (model prog w) s.heap (isInstance (.ref x) (.type "object")) true := I.type.andThen (PySem.W.looks_mroIn Xk ob)
  have callN : wpAny (model prog w) A (call (.builtin "object.__ne__") [.ref x, b]) (fun v s' => ∃ c, v = .bool c ∧ Q v s') E s := by
    refine wpAny_call (codeAny_call_builtin PySem.F.cmp_object.ne.plain PySem.F.cmpEntry_ne ?_)
    refine @PySem.W.check_slot (model prog w) _ _ s "object.__ne__" "object" "__ne__" (.ref x) [b] [] _ PySem.F.cmpKind_ne PySem.F.cmpSplit_ne sub (PySem.F.cmpArgs_ne _ _) ?_
    refine objNe_entry (A := A.in1) (by show A.units + 1 < cLine; exact hu) Xk I hs hf (thn h fun v s' z => ?_)
    obtain ⟨c, rfl, q⟩ := z
    exact ⟨c, rfl, ⟨!c, rfl, q⟩⟩
  have L1 := PySem.W.looks_findIn (M := model prog w) Xk hn
  have one : wpAny (model prog w) A (tryCompare (.ref x) "__ne__" b) (fun r s' => ∃ v, r = some v ∧ Q v s') E s := by
    unfold tryCompare
    refine wpAny_bind ?_
    simp only [callSpecialIfBound?, bindSpecialIfBound?]
    refine wpAny_holding (wpAny_bind (wpAny_bind (wpAny_bind (I.type.here (L1.here ?_)))))
    simp only [PySem.F.cmp_object.ne.bind]
    refine wpAny_bind (wpAny_askSetting (wpAny_ite ?_))
    have go : wpAny (model prog w) A (do
        let r ← call (.builtin "object.__ne__") ([.ref x] ++ [b])
        pure (some r)) (fun a s' => wpAny (model prog w) A (match a with
          | some Value.notImplemented => pure none
          | none => pure none
          | some v => pure (some v)) (fun r s' => ∃ v, r = some v ∧ Q v s') E s') E s := by
      refine wpAny_bind (thn callN fun v s' z => ?_)
      obtain ⟨c, rfl, q⟩ := z
      exact wpAny_pure (wpAny_pure ⟨_, rfl, q⟩)
    split
    · exact wpAny_bind (wpAny_pure (wpAny_pure (by exact go)))
    · refine wpAny_tryCatch ?_
      exact wpAny_bind (wpAny_pure (wpAny_pure (by exact go)))
  have hu0 : A.units < cLine := Nat.lt_of_succ_lt hu
  unfold richCompare
  simp only [oneThing_ref]
  refine wpAny_holding (wpAny_bind (wpAny_cRoomFor hu0 ?_))
  refine wpAny_bind (I.type.here (wpAny_bind (hb.here ?_)))
  split
  · rename_i q
    simp at q
  · refine wpAny_bind (wpAny_pure ?_)
    simp only [Bool.false_eq_true, if_false]
    refine wpAny_bind (wpAny_mono one (fun r s' z => ?_) fun _ _ e => e)
    obtain ⟨v, rfl, hq⟩ := z
    exact wpAny_pure hq
theorem op_ne_own (O : OwnE X.K C f) (F : FnOk X.prog X.w X.K X.mg X.base CX k f fd ps sp) (hr : Room (k + 1) X.A) (hb : Binds X.K fd ps []) (hx : Passes CX X E) : OpR X (compareOp .NotEq) (rEqOwn C sp E true) := by
  intro pins s σ H x y v u Q I rx ry hq
  obtain ⟨a, b, dx, dy, fs, gs, rfl, rfl, ha, hb', q⟩ := hq
  cases rx
  cases ry
  obtain ⟨od, J⟩ := inst_at I ha
  obtain ⟨od', J'⟩ := inst_at I hb'
  refine cmp_ne (by have := hr.units; omega) I.kIn J J'.type O.hn O.ob O.hs O.hf ?_
  refine thn (run_at (A := X.A.in1) (vs := [.ref a, .ref b]) F hr.in1 rfl hb (at_of_passes hx) I (.cons rfl (.cons rfl .nil)) q) fun _ _ z => ?_
  obtain ⟨w', H', I', rw', c, rfl, q2⟩ := z
  cases rw'
  exact ⟨c, rfl, (⟨.bl (!c), H', I', rfl, q2⟩ : EP X pins σ Q (.bool (!c)) _)⟩
/-! ### str(o) by the class's __str__ -/
def rStrOwn (C : Addr) (sp : Sp) (E : XK) : List V → Hp → VK → Prop := fun vs H Q => ∃ a dx fs, vs = [.ref a] ∧ H a = some (.ins C dx fs) ∧ sp [.ref a] H (fun v H' => ∃ z, v = .str z ∧ Q v H') E
theorem call_str_own (O : OwnM X.K C f "__str__") (F : FnOk X.prog X.w X.K X.mg X.base CX k f fd ps sp) (hr : Room (k + 2) X.A) (hb : Binds X.K fd ps []) (hx : Passes CX X E) : CallR X (.type "str") (rStrOwn C sp E) := by
  intro pins s σ H xs us Q I r hq
  obtain ⟨a, dx, fs, rfl, ha, q⟩ := hq
  cases r with
  | cons rx rr =>
    cases rr
    cases rx
    obtain ⟨od, J⟩ := inst_at I ha
    have hr2 : Room k X.A.in1.in1 := hr.in1.in1
    refine PySem.W.kso_call hr2.units0 I.kIn J O.hs O.hf ?_
    refine thn (run_at (A := X.A.in1.in1) (vs := [.ref a]) F hr2 rfl hb (at_of_passes hx) I (.cons rfl .nil) q) fun _ _ z => ?_
    obtain ⟨w', H', I', rw', z, rfl, q2⟩ := z
    obtain ⟨t, rfl⟩ := rw'
    exact (⟨.str z, H', I', ⟨t, rfl⟩, q2⟩ : EP X pins σ Q (.str z t) _)
/-! ### -o -/
def rNegOwn (C : Addr) (sp : Sp) (E : XK) : V → Hp → VK → Prop := fun x H Q => ∃ a dx fs, x = .ref a ∧ H a = some (.ins C dx fs) ∧ sp [.ref a] H Q E
theorem un_neg_own (O : OwnM X.K C f "__neg__") (F : FnOk X.prog X.w X.K X.mg X.base CX k f fd ps sp) (hr : Room k X.A) (hb : Binds X.K fd ps []) (hx : Passes CX X E) : UnR X (unaryOp .USub) (rNegOwn C sp E) := by
  intro pins s σ H x v Q I rx hq
  obtain ⟨a, dx, fs, rfl, ha, q⟩ := hq
  cases rx
  obtain ⟨od, J⟩ := inst_at I ha
  obtain ⟨m, hF⟩ := I.fr
  exact PySem.W.ksp_neg hF I.ok.mod.kin J O.hs O.hf (run_at (vs := [.ref a]) F hr rfl hb (at_of_passes hx) I (.cons rfl .nil) q)
end
end XR
/-! ### isinstance of a caught error that has a dict of its own -/
namespace XR
open PySem PySem.Spec PySem.Calls PyProof.Rows PySem.W
section
variable {prog : Program} {w : World} {A : Around} {E : Value → Shared → Prop} {s : Shared} {K : Frag} {x D : Addr} {ox od : Obj}
/-- what a class of errors must say, so that isinstance reads its instances rightly (L2.ExcC's facts) -/
abbrev Asks (K : Frag) (D : Addr) : Prop := L2.ExcC K D
theorem excD_class {Q : Option Value → Shared → Prop} (c : Asks K D) (X : K.In s.heap)
    (I : InstAt s.heap x ox D (some od)) (h : Q (some (.ref D)) { s with toks := s.toks + 1 }) :
    wpAny (model prog w) A (getAttr? (.ref x) "__class__") Q E s := by
  have isC : (clsIn K D).isSome = true := by
    obtain ⟨cd, hc, _⟩ := any_some c.hd
    rw [hc] <;> rfl
  have fnd := looks_find (M := model prog w) X I (findObj_data isC c.ha c.hn c.ht)
  obtain ⟨hp, g, d, t, os⟩ := s
  have lt := I.type (M := model prog w)
  have la := looks_findIn (M := model prog w) X c.hg
  have lb := looks_findIn (M := model prog w) X c.hk
  have isB : Looks (model prog w) hp (isInstance (.ref x) (.type "BaseException")) true :=
    lt.andThen (looks_subIn X c.hs)
  have z0 : (false && onTheHeap (Value.builtin "BaseException.__getattribute__")) = false := by
    rfl
  have z2 : (Value.builtin "BaseException.__getattribute__" ==
      Value.builtin "object.__getattribute__") = false := by decide +kernel
  have z1 : (onTheHeap (Value.ref D) && (Value.builtin "BaseException.__getattribute__" ==
      Value.builtin "object.__getattribute__")) = false := by rw [z2, Bool.and_false]
  unfold getAttr? getAttrBy? getAttrBy
  refine wpAny_bind (wpAny_mkText ?_)
  refine wpAny_bind (wpAny_attempt ?_)
  refine wpAny_holding (wpAny_bind (lt.at ?_))
  refine wpAny_bind (la.at ?_)
  show wpAny _ _ (if (onTheHeap (Value.ref D) && (Value.builtin "BaseException.__getattribute__" ==
    Value.builtin "object.__getattribute__")) = true then _ else _) _ _ _
  rw [z1, if_neg (by decide)]
  unfold getAttrByItsOwn hookBefore
  refine wpAny_bind ?_
  rw [if_pos (by rfl : onTheHeap (Value.ref D) = true)]
  refine lb.at (wpAny_bind (wpAny_attempt ?_))
  refine wpAny_holding ?_
  unfold callGetattribute
  rw [z0, if_neg (by decide)]
  unfold boundAndCalled
  rw [PySem.F.excAttr_ValueError.ga.bind]
  refine wpAny_bind (wpAny_pure ?_)
  show wpAny _ _ (call (.builtin "BaseException.__getattribute__")
    [.ref x, .str "__class__" t]) _ _ _
  refine wpAny_call (codeAny_call_builtin PySem.F.excAttr_ValueError.ga.plain
    PySem.F.entry_bexc_ga ?_)
  refine @check_slot (model prog w) _ _ ⟨hp, g, d, t + 1, os⟩ "BaseException.__getattribute__" "BaseException"
    "__getattribute__" (.ref x) [.str "__class__" t] [] _ (by decide +kernel) (by decide +kernel) isB
    (PySem.F.args_bexc_ga _ _) ?_
  unfold Builtin.«object.__getattribute__»
  refine wpAny_bind (wpAny_of_eq (a := ((Value.ref x : Value), [Value.str "__class__" t]))
    (by first | rfl | (simp only [Builtin.slotArgs] <;> rfl)) ?_)
  refine wpAny_bind (wpAny_pure ?_)
  refine wpAny_bind (lt.at (wpAny_bind (fnd.at ?_)))
  show wpAny _ _ (holding [Value.builtin "object.__class__"]
    (call (.builtin "getset_descriptor.__get__") [.builtin "object.__class__", .ref x, .ref D]) >>= ret) _ _ _
  refine wpAny_bind (wpAny_holding ?_)
  refine wpAny_call (class_get (s := ⟨hp, g, d, t + 1, os⟩) (ox := ox) (od := some od) X I c.hm ?_)
  refine wpAny_pure ?_
  show wpAny _ _ (handedOut (.ref D)) _ _ _
  rw [handedOut_of (v := .ref D) (by rfl)]
  first
    | exact wpAny_pure (wpAny_bind (wpAny_pure (wpAny_pure h)))
    | exact wpAny_pure (wpAny_pure h)
    | exact wpAny_pure h
theorem kit_excD (c : Asks K D) : KitX K (.ref x) (.ref D) (fun h => InstAt h x ox D (some od)) where
  ty := fun _ _ _ i => i.type
  it := fun m h X' i => by
    obtain ⟨cd, hc, _⟩ := any_some c.hd
    unfold clsIn at hc
    split at hc
    next c' d' cd' sl' ho =>
      intro A' Q' E' s' k q
      unfold isType loadHead
      refine wpAny_bind (wpAny_loadPart (k _ _ (X' _ _ ho)) ?_)
      exact wpAny_pure q
    next => cases hc
  ne := fun h tp dd its n sl X' htp => by
    obtain ⟨cd, hc, _⟩ := any_some c.hd
    refine Bool.eq_false_iff.mpr fun q => ?_
    obtain rfl : D = tp := Value.ref.inj (beq_iff_eq.mp q)
    unfold clsIn at hc
    split at hc
    next c' d' cd' sl' ho => cases (X' _ _ ho).symm.trans htp
    next => cases hc
  ca := fun X' i q => excD_class c X' i q
end
end XR
namespace XR
open PySem PySem.Spec PyProof.Rows L2
/-! ### a caught error, pinned: isinstance, fields -/
section
variable {X : Cx} {a : Addr} {oe : Obj} {cls : Value} {d : Option Addr}
theorem pinned_inst {pins : List (Addr × Obj)} {s : Shared} {σ : L2.St} {H : Hp} {D dd : Addr} {fs : List (Str × V)}
    (hp : (a, oe) ∈ X.pn) (hz : Zc (.ref D) (some dd) oe) (hf : ∃ vs, oe.data = .fields vs) (I : Inv X pins σ H s)
    (e : H dd = some (.xd fs)) : ∃ od, PySem.W.InstAt s.heap a oe D (some od) ∧ ∃ mA : Str → Option Value,
      (∀ n, PySem.W.lookIn n od = some (mA n)) ∧ ∀ n, RelO (fs.lookup n) (mA n) := by
  have at_ := (I.pin (a, oe) (List.mem_append_left _ hp)).1
  obtain ⟨vs, hv⟩ := hf
  have ok : ObjOk X.prog X.w H s.heap dd (.xd fs) := I.hok dd _ e
  obtain ⟨mA, hns, rel⟩ := ok
  obtain ⟨od, ho, hl⟩ := lookIn_ns hns
  refine ⟨od, ⟨at_, hz.1, ?_, ?_⟩, mA, hl, rel⟩
  · unfold PySem.W.notCls
    rw [hv] <;> rfl
  · rw [hz.2]
    exact ho
def rIsP (K : PySem.W.Frag) (cls : Value) (d : Option Addr) (a : Addr) : List V → Hp → VK → Prop := fun xs H Q =>
  ∃ (D dd : Addr) (fs : List (Str × V)) (c : V) (cv : Value) (b : Bool), cls = .ref D ∧ d = some dd ∧ H dd = some (.xd fs) ∧
    Asks K D ∧ xs = [.ref a, c] ∧ ClsV c cv ∧ PySem.W.kitOne K (.ref D) cv = some b ∧ Q (.bl b) H
def rIsPT (K : PySem.W.Frag) (cls : Value) (d : Option Addr) (a : Addr) : List V → Hp → VK → Prop := fun xs H Q =>
  ∃ (D dd tp : Addr) (fs : List (Str × V)) (cs : List V) (us : List Value) (b : Bool), cls = .ref D ∧ d = some dd ∧ H dd = some (.xd fs) ∧
    Asks K D ∧ xs = [.ref a, .ref tp] ∧ H tp = some (.tup cs) ∧ Paired ClsV cs us ∧ PySem.W.kitAny K (.ref D) us = some b ∧ Q (.bl b) H
theorem call_isP (hp : (a, oe) ∈ X.pn) (hz : Zc cls d oe) (hf : ∃ vs, oe.data = .fields vs) :
    CallR X (.builtin "isinstance") (rIsP X.K cls d a) := by
  intro pins s σ H xs us Q I r h
  obtain ⟨D, dd, fs, c, cv, b, rfl, rfl, e, as, rfl, kc, ek, q⟩ := h
  obtain ⟨u1, u2, rfl, r1, r2⟩ := vals2 r
  obtain rfl : u1 = Value.ref a := r1
  obtain rfl := kc.eq r2
  obtain ⟨od, J, _⟩ := pinned_inst hp hz hf I e
  exact PySem.W.kia_one (kit_excD as) I.kIn J ek (fun z => nomatch z) fun tk => ⟨.bl b, H, I.tok tk, rfl, q⟩
theorem call_isPT (hp : (a, oe) ∈ X.pn) (hz : Zc cls d oe) (hf : ∃ vs, oe.data = .fields vs) :
    CallR X (.builtin "isinstance") (rIsPT X.K cls d a) := by
  intro pins s σ H xs us Q I r h
  obtain ⟨D, dd, tp, fs, cs, ws, b, rfl, rfl, e, as, rfl, hT, kc, ek, q⟩ := h
  obtain ⟨u1, u2, rfl, r1, r2⟩ := vals2 r
  obtain rfl : u1 = Value.ref a := r1
  obtain rfl : u2 = Value.ref tp := r2
  obtain ⟨od, J, _⟩ := pinned_inst hp hz hf I e
  have okT : ObjOk X.prog X.w H s.heap tp (.tup cs) := I.hok tp _ hT
  obtain ⟨_, its, rv, ⟨oc, od2, dt, sl⟩, h1, h2, n, h3⟩ := okT
  dsimp only at h2 h3
  subst h2 h3
  obtain rfl := ClsV.all kc rv
  exact PySem.W.kia_tup (kit_excD as) I.kIn J h1 ek (fun z => nomatch z) fun tk => ⟨.bl b, H, I.tok tk, rfl, q⟩
/-- e.n, e the pinned error -/
def tPf (K : PySem.W.Frag) (a : Addr) (cls : Value) (d : Option Addr) (n : Str) (te : TE) : TE := fun σ H Q => te σ H fun x H1 =>
  ∃ (D dd : Addr) (fs : List (Str × V)) (v : V), x = .ref a ∧ cls = .ref D ∧ d = some dd ∧ H1 dd = some (.xd fs) ∧ XfC K D ∧
    PySem.W.findIn K (.ref D) n = some none ∧ fs.lookup n = some v ∧ Q v H1
theorem pe_pf {e : Expr} {te : TE} {pos : Pos} {n : Str} (hp : (a, oe) ∈ X.pn) (hz : Zc cls d oe) (hf : ∃ vs, oe.data = .fields vs) (he : PE X e te)
    (hb : attributeBase e n X.env (eval e X.env) = eval e X.env := by rfl) : PE X (.Attribute e n pos) (tPf X.K a cls d n te) := by
  refine ⟨fun pins s σ H Q I h => attr_of hb (thn (he.run pins s σ H _ I h) fun u s1 z => ?_)⟩
  obtain ⟨x, H1, I1, rx, D, dd, fs, v, rfl, rfl, rfl, ea, xf, hno, l, q⟩ := z
  obtain rfl : u = Value.ref a := rx
  obtain ⟨od, J, mA, hl, rel⟩ := pinned_inst hp hz hf I1 ea
  have rn := rel n
  rw [l] at rn
  obtain ⟨u, hu, ru⟩ := RelO.some_of rn
  refine HandSPX.exc_get I1.kIn J xf.ga xf.gg xf.exC (PySem.W.findObj_own xf.hdC hno rfl ?_) (handed_of ru) ⟨v, H1, I1.tok _, ru, q⟩
  rw [hl, hu]
end
/-! ### a def called while an error is handled: it raises nothing itself -/
abbrev SpQ := Addr × Obj → Sp
structure FnQ (P : Program) (w : World) (K : PySem.W.Frag) (mg : Str → Option Value) (base : Heap) (k : Nat) (f : Addr) (fd : FuncData) (ps : List Str) (sp : SpQ) : Prop where
  len : ∀ p vs H Q E, sp p vs H Q E → vs.length = ps.length
  run : ∀ (A : Around) (outer : List Env) (s : Shared) (H : Hp) (args : Args) (us : List Value) (vs : List V) (Q : VK) (p : Addr × Obj),
    L2H.RoomH k A → L2H.PinOk outer H s p → Env0 P w K mg base A outer s H → BindsTo s fd args (ps.zip us) → Vals vs us → sp p vs H Q E0 →
    codeAny (model P w) A (.call (.ref f) args) (CR CX0 outer P w H s Q E0) s
section
variable {P : Program} {w : World} {K : PySem.W.Frag} {mg : Str → Option Value} {base : Heap}
theorem okQ {x qual : Str} {st : Stmt} {f : Addr} {fd : FuncData} {N ps : List Str} {k : Nat} {sp : SpQ} (F : Fun K x qual st f fd) (S : FnScope N ps (defScope st))
    (len : ∀ p vs H Q E, sp p vs H Q E → vs.length = ps.length)
    (body : ∀ (cdv : Value) (A : Around) (outer : List Env) (s : Shared) (H : Hp) (vs : List V) (Q : VK) (p : Addr × Obj),
      L2H.RoomH k (A.deeper (envOfC qual (defScope st) s.heap.objs.size f cdv)) → sp p vs H Q E0 →
      ∃ t, PSs (L2H.cxH CX0 P w K mg base N qual (defScope st) f cdv A outer s H E0 p).nox (defBody st) t ∧
        t { nx := fun _ H' => Q .non H', rt := Q } (start N vs) H) : FnQ P w K mg base (k + 1) f fd ps sp := by
  obtain ⟨oc, od, kV, doc, pm, an, cdv, ct, osl, rfl, lk, hcd⟩ := F.ex
  refine ⟨len, fun A outer s H args us vs Q p hr pin e0 hb r hsp => ?_⟩
  have hl := len _ _ _ _ _ hsp
  have old : ∀ b o, base.get? b = some o → s.heap.get? b = some o := fun b o e => (e0.bs b o e).1
  have KX : K.In s.heap := e0.mod.kin.keeps old
  have lim : s.heap.NoLimit := e0.mod.nolimit.keeps old
  have kinds : ∀ y ∈ ps.zip us, (defScope st).names.lookup y.1 = some .local ∨
      ((defScope st).names.lookup y.1 = some .cell ∧ ((cellsFrom (s.heap.objs.size + 1) (defScope st).names []).lookup y.1).isSome = true) := by
    rintro ⟨n, v⟩ hy
    refine (S.par n (List.of_mem_zip hy).1).imp (fun q => q) fun q => ⟨q, ?_⟩
    exact PySem.W.cellsFrom_some _ _ _ (.inl q)
  refine codeAny_call_function hr.depth (KX _ _ lk) rfl S.co S.gen rfl (PySem.W.codeRec_of KX hcd) (hb _ _ _ _ ?_)
  refine wpAny_newFunctionEnv_cells S.kind kinds fun env he s1 x => ?_
  subst he
  refine ⟨lim.keeps x.toInCall.keep, codeAny_func ?_⟩
  obtain ⟨t, ht, hq⟩ := body cdv A outer s H vs Q p (hr.deeper _) hsp
  have I := L2H.inv_startH (CX := CX0) (E := E0) (cd := cdv) (qual := qual) S pin e0 hl r x
  have run := (PSs.nox ht).run [] s1 (start N vs) H _ I hq
  have out : ∀ {σ' : L2.St} {H' : Hp} {v : V} {u : Value} {s' : Shared},
      Inv (L2H.cxH CX0 P w K mg base N qual (defScope st) f cdv A outer s H E0 p) [] σ' H' s' → RelV v u → Q v H' → CE outer P w H s Q u s' :=
    fun J rv q => ⟨_, _, J.os, J.bare, J.base, J.hok, rv, q⟩
  refine wpAny_mono run (fun fl s' z => ?_) fun _ _ z => z
  cases fl with
  | next =>
    obtain ⟨σ', H', J, q⟩ := z
    exact out (v := V.non) (u := Value.none) J rfl q
  | ret u =>
    obtain ⟨v, σ', H', J, rv, q⟩ := z
    exact out J rv q
  | brk => exact z.elim fun _ y => y.elim fun _ y => y.2.elim
  | cont => exact z.elim fun _ y => y.elim fun _ y => y.2.elim
end
section
variable {X : Cx} {k : Nat} {f : Addr} {fd : FuncData} {ps : List Str} {sp : SpQ} {x : Str} {q pos : Pos} {e : Expr} {es : List Expr} {t : TA} {p : Addr × Obj}
def tCallQ (sp : Sp) (t : TA) : TE := fun σ H Q => t σ H fun vs H1 => sp vs H1 Q E0
theorem pe_callQ (F : FnQ X.prog X.w X.K X.mg X.base k f fd ps sp) (hr : L2H.RoomH k X.A) (hp : p ∈ X.pn) (hg : Gl X x) (hm : X.mg x = some (.ref f))
    (hk : PySem.W.keepIn X.K (.ref f) = true) (hb : Binds X.K fd ps []) (ha : PA X (e :: es) t) (hdb : (x == ("__debug__" : Str)) = false := by decide)
    (he : starEach (e :: es) X.env = (false, eval e X.env) :: starEach es X.env := by rfl) (hpl : (backTo pos (starEach es X.env)).any (·.1) = false := by rfl) :
    PE X (.Call (.Name x q) (e :: es) [] pos) (tCallQ (sp p) t) := by
  refine ⟨fun pins s σ H Q I h => wpAny_Call_Name_kw (ld_glob I hg hm ?_ hdb)⟩
  refine PySem.W.callWith_K (h₀ := X.base) I.ok.mod.kin hk (thn (ha.run pos pins s σ H _ I h) fun us s1 z => ?_) he hpl
  obtain ⟨vs, H1, I1, r, hsp⟩ := z
  refine ⟨I1.kIn, ?_⟩
  have hl : us.length = ps.length := r.length.symm.trans (F.len _ _ _ _ _ hsp)
  have b := hb s1 us I1.kIn (by rw [List.append_nil]; exact hl)
  rw [List.append_nil] at b
  obtain ⟨p1, p2, p3, p4, p5⟩ := I1.pin p (List.mem_append_left _ hp)
  have pin : L2H.PinOk X.stack H1 s1 p := ⟨p1, p2, fun hm => (List.mem_cons.mp (I1.stkSub p.1 hm)).elim p3 p4, p5⟩
  refine wpAny_call (codeAny_mono (F.run X.A X.stack s1 H1 ⟨us, []⟩ us vs Q p hr pin I1.env0 b r hsp) fun r s' z => ?_)
  cases r with
  | error e => exact z.elim
  | ok fl =>
    cases fl with
    | ret u => exact I1.after z
    | next => exact z.elim
    | brk => exact z.elim
    | cont => exact z.elim
end
end XR
namespace XR
open PySem PySem.Spec PyProof.Rows L2
/-! ### C(e, ..) where __init__ may raise, the wish told at the caller's slots -/
section
variable {X : Cx} {CX : CXT} {k : Nat} {C f : Addr} {fd : FuncData} {ps : List Str} {sp : Sp} {E : L2.St → XK} {x : Str} {p pos : Pos} {e : Expr} {es : List Expr} {t : TA}
def tMakeS (C : Addr) (sp : Sp) (E : L2.St → XK) (t : TA) : TE := fun σ H Q => t σ H fun vs H1 => ∀ x dx, H1 x = none → H1 dx = none → dx ≠ x →
  sp (.ref x :: vs) (upd (upd H1 dx (.own x)) x (.ins C dx [])) (fun v H2 => v = .non ∧ Q (.ref x) H2) (E σ)
theorem pe_makeS (M : Mk X.K C f) (F : FnOk X.prog X.w X.K X.mg X.base CX k f fd ps sp) (hr : Room (k + 1) X.A) (hg : Gl X x) (hm : X.mg x = some (.ref C)) (hb : Binds X.K fd ps [])
    (hx : ∀ σ, PassesAt CX X σ (E σ)) (ha : PA X (e :: es) t) (hdb : (x == ("__debug__" : Str)) = false := by decide)
    (he : starEach (e :: es) X.env = (false, eval e X.env) :: starEach es X.env := by rfl) (hpl : (backTo pos (starEach es X.env)).any (·.1) = false := by rfl) :
    PE X (.Call (.Name x p) (e :: es) [] pos) (tMakeS C sp E t) := by
  refine ⟨fun pins s σ H Q I h => wpAny_Call_Name_kw (ld_glob I hg hm ?_ hdb)⟩
  refine PySem.W.callWith_K (h₀ := X.base) I.ok.mod.kin M.kp (thn (ha.run pos pins s σ H _ I h) fun us s1 z => ?_) he hpl
  obtain ⟨vs, H1, I1, r, q⟩ := z
  refine ⟨I1.kIn, ?_⟩
  have fr := I1.hok.fresh (a := s1.heap.objs.size) (Nat.le_refl _)
  have fr1 := I1.hok.fresh (a := s1.heap.objs.size + 1) (Nat.le_add_right _ 1)
  have hsp := q (s1.heap.objs.size + 1) s1.heap.objs.size fr1 fr (Nat.ne_of_lt (Nat.lt_succ_self _))
  have I2 := Inv.made (C := C) I1
  have r2 : Vals (V.ref (s1.heap.objs.size + 1) :: vs) (Value.ref (s1.heap.objs.size + 1) :: us) := .cons rfl r
  have hl : (Value.ref (s1.heap.objs.size + 1) :: us).length = ps.length := r2.length.symm.trans (F.len _ _ _ _ hsp)
  have b := hb _ (Value.ref (s1.heap.objs.size + 1) :: us) I2.kIn (by rw [List.append_nil]; exact hl)
  rw [List.append_nil] at b
  have run := F.run _ X.stack _ _ ⟨Value.ref (s1.heap.objs.size + 1) :: us, []⟩ _ _ _ (E σ) (hr.make C us []) (I2.env0.make C us []) b r2 hsp
  refine wpAny_call (make_map (f := f) I1.kIn M.makes M.init (beq_iff_eq.mp M.fn) (codeAny_mono run fun r s' z => ?_))
  cases r with
  | error er => exact hx σ pins _ _ er s' I2 z
  | ok fl =>
    cases fl with
    | ret u =>
      obtain ⟨v, H', I3, rv, ev, q3⟩ := I2.after z
      subst ev
      exact ⟨rv, .ref (s1.heap.objs.size + 1), H', I3, rfl, q3⟩
    | next => exact z.elim
    | brk => exact z.elim
    | cont => exact z.elim
end
end XR
set_option Elab.async false
set_option linter.all false
set_option maxRecDepth 100000
set_option maxHeartbeats 4000000
/-! common lemmas: lists of ints, heaps with one object that changes, errors made and raised -/
namespace XR
open PySem PySem.Spec PyProof.Rows L2
theorem divw {i j : Int} (h : 0 < j) (h2 : j < 2 ^ 63) : CDivW i j := wide_div (b := 63) h (by omega) (by decide) (by decide)
theorem cmul_mod {i j : Int} (h : 0 < j ∧ j < 2 ^ 64) : -(2 ^ 64) < i % j ∧ i % j < 2 ^ 64 := ⟨by have := Int.emod_nonneg i (b := j) (by omega); omega, by have := Int.emod_lt_of_pos i h.1; omega⟩
theorem log_lt {i : Int} (h1 : -(10 ^ 40) < i) (h2 : i < 10 ^ 40) : i.natAbs.log2 < 1920 := by
  have h : i.natAbs < 10 ^ 40 := by omega
  have h3 : (10 : Nat) ^ 40 < 2 ^ 1920 := by decide +kernel
  by_cases z : i.natAbs = 0
  · rw [z]; decide
  · exact (Nat.log2_lt z).mpr (Nat.lt_trans h h3)
/-- a word at which the reading stops (two makers, so that no anonymous one fits) -/
inductive Stop (p : Prop) : Prop where
  | go (h : p)
  | too (h : p)
theorem Stop.out {p : Prop} : Stop p → p
  | .go h => h
  | .too h => h
/-- xs[:n] -/
theorem cutV_take (ns : List Int) (n : Nat) : cutV (ns.map V.int) none (some (n : Int)) = (ns.take n).map V.int := by
  unfold cutV
  have e0 : HT.sIx (ns.map V.int).length 0 none = 0 := rfl
  have e1 : HT.sIx (ns.map V.int).length (ns.map V.int).length (some (n : Int)) = min n (ns.map V.int).length := by
    unfold HT.sIx
    simp
    omega
  rw [e0, e1]
  simp [List.map_take]
theorem get_int {ms : List Int} {i : Nat} {x : V} (h : (ms.map V.int)[i]? = some x) : ∃ z, ms[i]? = some z ∧ x = .int z := by
  rw [List.getElem?_map] at h
  cases e : ms[i]? with
  | none => rw [e] at h; cases h
  | some z => rw [e] at h; exact ⟨z, rfl, (Option.some.inj h).symm⟩
theorem take_one {α : Type} {ms : List α} {i : Nat} {z : α} (h : ms[i]? = some z) : ms.take (i + 1) = ms.take i ++ [z] := by
  rw [List.take_succ, h] <;> rfl
theorem ne_fresh {H : Hp} {a b : Addr} {o : HO} (h : H b = none) (e : H a = some o) : a ≠ b := ne_of_none e h
theorem empty_app (x : Str) : Str.empty ++ x = x := by
  cases x with
  | mk a =>
    show (⟨#[] ++ a⟩ : Str) = ⟨a⟩
    simp
theorem max_if (a c : Int) : (if c > a then c else a) = max a c := by omega
theorem min_if (a c : Int) : (if c < a then c else a) = min a c := by omega
theorem at_ints {cs : List Int} {i : Int} (h0 : 0 ≤ i) (h : i < ((cs.map V.int).length : Nat)) : ∃ z, atI (cs.map V.int) i = some (.int z) := by
  have hl : i.toNat < cs.length := by rw [List.length_map] at h; omega
  refine ⟨cs[i.toNat], at_of (j := i.toNat) (by omega) ?_⟩
  rw [List.getElem?_map, List.getElem?_eq_getElem hl] <;> rfl
/-- the item at a drawn place of a written list -/
theorem at_lt {α : Type} {xs : List α} {i : Int} (h0 : 0 ≤ i) (h : i < (xs.length : Int)) : ∃ x, atI xs i = some x ∧ x ∈ xs := by
  have hl : i.toNat < xs.length := by omega
  refine ⟨xs[i.toNat], ?_, List.getElem_mem hl⟩
  have e := atI_nat (List.getElem?_eq_getElem hl)
  rw [show ((i.toNat : Nat) : Int) = i by omega] at e
  exact e
/-- all but b stands as it stood -/
def ExB (b : Addr) (H H' : Hp) : Prop := ∀ a o, a ≠ b → H a = some o → H' a = some o
theorem ExB.refl {b : Addr} {H : Hp} : ExB b H H := fun _ _ _ e => e
theorem ExB.trans {b : Addr} {H H1 H2 : Hp} (x : ExB b H H1) (y : ExB b H1 H2) : ExB b H H2 := fun a o n e => y a o n (x a o n e)
theorem ExB.same {b : Addr} {H H1 H2 : Hp} (x : ExB b H H1) (y : Same H1 H2) : ExB b H H2 := fun a o n e => y a o (x a o n e)
theorem ExB.of {b : Addr} {H H1 : Hp} (y : Same H H1) : ExB b H H1 := fun a o _ e => y a o e
theorem ExB.upd {b : Addr} {H H' : Hp} {o : HO} (x : ExB b H H') : ExB b H (upd H' b o) := fun a u ha e => by rw [upd_ne ha]; exact x a u ha e
theorem Same.new {H H' : Hp} {p : Addr} {o : HO} (x : Same H H') (h : H' p = none) : Same H (upd H' p o) := fun a u e => by
  have q := x a u e
  rw [upd_ne (ne_of_none q h)]
  exact q
theorem ExB.new {b : Addr} {H H' : Hp} {p : Addr} {o : HO} (x : ExB b H H') (h : H' p = none) : ExB b H (L2.upd H' p o) := fun a u n e => by
  have q := x a u n e
  rw [upd_ne (ne_of_none q h)]
  exact q
/-- nothing stands at p behind either -/
theorem none_back {H H' : Hp} {p : Addr} (x : Same H H') (h : H' p = none) : H p = none := Same.free x h
theorem none_backB {b : Addr} {H H' : Hp} {p : Addr} (x : ExB b H H') (n : p ≠ b) (h : H' p = none) : H p = none := by
  cases e : H p with
  | none => rfl
  | some o => rw [x p o n e] at h; cases h

theorem hot_of {A : Around} {k : Nat} {v : Option Value} (r : Room k A) : L2H.RoomH k (A.mark v) := ⟨r.dp, r.un⟩
/-! ### an error of the program with fields: made, raised -/
/-- what its __init__ leaves -/
def spEx (C : Addr) (fs : List V → Option (List (Str × V))) : Sp := fun vs H Q _ => ∃ (a : Addr) (ws : List V) (l : List (Str × V)), vs = .ref a :: ws ∧ fs ws = some l ∧
  H a = some (exo a C none) ∧ ∀ d H', H d = none → d ≠ a → H' a = some (exo a C (some d)) → H' d = some (exd d l) → (∀ q o, q ≠ a → H q = some o → H' q = some o) → Q .non H'
/-- the wish of what is raised: an error of the class at C with these fields, all else as it stood -/
def Wish (C : Addr) (l : List (Str × V)) (H : Hp) (E : Value → Option Addr → Hp → Prop) : Prop := ∀ d H', H' d = some (.xd l) → Same H H' → E (.ref C) (some d) H'
theorem mk_ex {C : Addr} {fs : List V → Option (List (Str × V))} {vs : List V} {l : List (Str × V)} {H : Hp} {E : XK} (hl : vs.length ≤ 1000) (hf : fs vs = some l) (k : Wish C l H E) :
    vs.length ≤ 1000 ∧ ∀ a, H a = none → spEx C fs (.ref a :: (vs ++ [])) (upd H a (exo a C none))
      (fun v H2 => v = .non ∧ ∃ (d : Addr) (g : List (Str × V)), H2 a = some (exo a C (some d)) ∧ H2 d = some (exd d g) ∧ H d = none ∧ E (.ref C) (some d) (upd (del H2 a) d (.xd g))) (fun _ _ _ => False) := by
  refine ⟨hl, fun a ha => ⟨a, vs, l, by rw [List.append_nil], hf, upd_same, fun d H' hd hda ea ed x => ⟨rfl, d, l, ea, ed, ?_, k d _ upd_same fun q o e => ?_⟩⟩⟩
  · rw [upd_ne hda] at hd
    exact hd
  · have hqa : q ≠ a := ne_of_none e ha
    have hqd : q ≠ d := fun z => by
      rw [upd_ne hda] at hd
      rw [z, hd] at e
      cases e
    rw [upd_ne hqd, del_ne hqa]
    refine x q o hqa ?_
    rw [upd_ne hqa]
    exact e
theorem init_ex1 {K : PySem.W.Frag} {C a : Addr} {f : Str} {v : V} {H : Hp} {Q : Hp → Prop} (oc : OexC K C) (hn : PySem.W.findIn K (.ref C) f = some none) (ha : H a = some (exo a C none))
    (k : ∀ d H', H d = none → d ≠ a → H' a = some (exo a C (some d)) → H' d = some (exd d [(f, v)]) → (∀ q o, q ≠ a → H q = some o → H' q = some o) → Q H') :
    ∃ a' C' : Addr, V.ref a = .ref a' ∧ OexC K C' ∧ PySem.W.findIn K (.ref C') f = some none ∧
      ((H a' = some (exo a' C' none) ∧ ∀ dx, H dx = none → dx ≠ a' → Q (upd (upd H dx (exd dx [(f, v)])) a' (exo a' C' (some dx)))) ∨
        ∃ (dx : Addr) (fs : List (Str × V)), H a' = some (exo a' C' (some dx)) ∧ H dx = some (exd dx fs) ∧ fs.length ≤ 900 ∧ Q (upd H dx (exd dx ((f, v) :: fs)))) := by
  refine ⟨a, C, rfl, oc, hn, .inl ⟨ha, fun dx hd hne => k dx _ hd hne upd_same (by rw [upd_ne hne]; exact upd_same) fun q o hq e => ?_⟩⟩
  rw [upd_ne hq, upd_ne (ne_of_none e hd)]
  exact e
theorem init_ex2 {K : PySem.W.Frag} {C a d : Addr} {f : Str} {v : V} {l : List (Str × V)} {H : Hp} {Q : Hp → Prop} (oc : OexC K C) (hn : PySem.W.findIn K (.ref C) f = some none) (hl : l.length ≤ 900)
    (ha : H a = some (exo a C (some d))) (hd : H d = some (exd d l)) (hda : d ≠ a)
    (k : ∀ H', H' a = some (exo a C (some d)) → H' d = some (exd d ((f, v) :: l)) → (∀ q o, q ≠ a → q ≠ d → H q = some o → H' q = some o) → Q H') :
    ∃ a' C' : Addr, V.ref a = .ref a' ∧ OexC K C' ∧ PySem.W.findIn K (.ref C') f = some none ∧
      ((H a' = some (exo a' C' none) ∧ ∀ dx, H dx = none → dx ≠ a' → Q (upd (upd H dx (exd dx [(f, v)])) a' (exo a' C' (some dx)))) ∨
        ∃ (dx : Addr) (fs : List (Str × V)), H a' = some (exo a' C' (some dx)) ∧ H dx = some (exd dx fs) ∧ fs.length ≤ 900 ∧ Q (upd H dx (exd dx ((f, v) :: fs)))) := by
  refine ⟨a, C, rfl, oc, hn, .inr ⟨d, l, ha, hd, hl, k _ (by rw [upd_ne hda.symm]; exact ha) upd_same fun q o _ hq e => by rw [upd_ne hq]; exact e⟩⟩
end XR
namespace XR
open PySem L2
theorem ifF {c : Bool} {P Q : Prop} (h : c = false) (k : Q) : if c = true then P else Q := by rw [h, if_neg (by decide)]; exact k
theorem ifT {c : Bool} {P Q : Prop} (h : c = true) (k : P) : if c = true then P else Q := by rw [if_pos h]; exact k
end XR
namespace XR
open PySem L2
section
variable {X : Cx} {a b : Addr} {oe : Obj} {cls : Value} {d : Option Addr} {pn : List (Addr × Obj)}
theorem call_isPs (hz : Zc cls d oe) (hf : ∃ vs, oe.data = .fields vs) : CallR (X.suite b ((a, oe) :: pn)) (.builtin "isinstance") (rIsP X.K cls d a) := call_isP List.mem_cons_self hz hf
theorem call_isPTs (hz : Zc cls d oe) (hf : ∃ vs, oe.data = .fields vs) : CallR (X.suite b ((a, oe) :: pn)) (.builtin "isinstance") (rIsPT X.K cls d a) := call_isPT List.mem_cons_self hz hf
theorem pe_pfs {e : Expr} {te : TE} {pos : Pos} {n : Str} (hz : Zc cls d oe) (hf : ∃ vs, oe.data = .fields vs) (he : PE (X.suite b ((a, oe) :: pn)) e te)
    (hb : attributeBase e n (X.suite b ((a, oe) :: pn)).env (eval e (X.suite b ((a, oe) :: pn)).env) = eval e (X.suite b ((a, oe) :: pn)).env := by rfl) : PE (X.suite b ((a, oe) :: pn)) (.Attribute e n pos) (tPf X.K a cls d n te) :=
  pe_pf List.mem_cons_self hz hf he hb
theorem pe_callQs {k : Nat} {f : Addr} {fd : FuncData} {ps : List Str} {sp : SpQ} {x : Str} {q pos : Pos} {e : Expr} {es : List Expr} {t : TA}
    (F : FnQ (X.suite b ((a, oe) :: pn)).prog (X.suite b ((a, oe) :: pn)).w (X.suite b ((a, oe) :: pn)).K (X.suite b ((a, oe) :: pn)).mg (X.suite b ((a, oe) :: pn)).base k f fd ps sp) (hr : L2H.RoomH k (X.suite b ((a, oe) :: pn)).A) (hg : Gl (X.suite b ((a, oe) :: pn)) x) (hm : (X.suite b ((a, oe) :: pn)).mg x = some (.ref f))
    (hk : PySem.W.keepIn (X.suite b ((a, oe) :: pn)).K (.ref f) = true) (hb : Binds (X.suite b ((a, oe) :: pn)).K fd ps []) (ha : PA (X.suite b ((a, oe) :: pn)) (e :: es) t) (hdb : (x == ("__debug__" : Str)) = false := by decide)
    (he : starEach (e :: es) (X.suite b ((a, oe) :: pn)).env = (false, eval e (X.suite b ((a, oe) :: pn)).env) :: starEach es (X.suite b ((a, oe) :: pn)).env := by rfl) (hpl : (backTo pos (starEach es (X.suite b ((a, oe) :: pn)).env)).any (·.1) = false := by rfl) :
    PE (X.suite b ((a, oe) :: pn)) (.Call (.Name x q) (e :: es) [] pos) (tCallQ (sp (a, oe)) t) := pe_callQ (p := (a, oe)) F hr List.mem_cons_self hg hm hk hb ha hdb he hpl
end
end XR
namespace XR
open PySem L2
theorem cong_ts {X : Cx} {ss : List Stmt} {t t' : TS} (h : PSs X ss t) (e : t = t') : PSs X ss t' := e ▸ h
end XR
namespace XR
open PySem L2
theorem kitAny_cons {K : PySem.W.Frag} {t c : Value} {r : List Value} (h : PySem.W.kitOne K t c = some false) (hr : PySem.W.kitAny K t r = some false) : PySem.W.kitAny K t (c :: r) = some false := by
  unfold PySem.W.kitAny
  rw [h]
  exact hr
theorem kitAny_4 {K : PySem.W.Frag} {t a b c d : Value} (h1 : PySem.W.kitOne K t a = some false) (h2 : PySem.W.kitOne K t b = some false) (h3 : PySem.W.kitOne K t c = some false) (h4 : PySem.W.kitOne K t d = some false) : PySem.W.kitAny K t [a, b, c, d] = some false :=
  kitAny_cons h1 (kitAny_cons h2 (kitAny_cons h3 (kitAny_cons h4 rfl)))
end XR
namespace XR
open PySem L2
/-- .. in a comprehension's block -/
theorem ix_listb {X : Cx} {s : Shared} {H : Hp} {sc : Scope} {ce : Env} {fp : List Addr} : IxR (X.blk s H sc ce fp) (rIxL X.K) := ix_list
theorem ix_tupb {X : Cx} {s : Shared} {H : Hp} {sc : Scope} {ce : Env} {fp : List Addr} : IxR (X.blk s H sc ce fp) (rIxT X.K) := ix_tup
end XR
namespace XR
open PySem PySem.Spec PyProof.Rows L2
structure CStat (K : PySem.W.Frag) (C p g : Addr) (m : Str) : Prop where
  rd : PySem.W.readsIn K C (.type "type") = true
  ga : PySem.W.specialIn K (.ref C) "__getattribute__" = some (some (.builtin "type.__getattribute__"))
  at_ : PySem.W.findCls K (.ref C) (.type "type") m = some (.get (.builtin "staticmethod.__get__") (.ref p) .none (.ref C))
  rc : ∃ rest, PySem.W.recIn K p "staticmethod" = some (.ref g :: rest)
section
variable {X : Cx} {pins : List (Addr × Obj)} {σ : L2.St} {H : Hp} {s : Shared} {C p g : Addr} {m : Str} {A : Around} {E : Value → Shared → Prop}
theorem getstat_ok {pl : Sem Bool} {Q : Value × List Value → Shared → Prop} (I : Inv X pins σ H s) (r : CStat X.K C p g m) (h : ∀ s', Inv X pins σ H s' → Q (.ref g, []) s') : wpAny (model X.prog X.w) A (getMethod (.ref C) m pl) Q E s := by
  obtain ⟨rest, hp⟩ := r.rc
  exact PySem.W.method_cls I.kIn r.ga (PySem.W.cls_bind I.kIn r.rd r.at_ (wpAny_call (PySem.W.sm_get (s := { s with toks := s.toks + 1 }) I.kIn hp (PySem.W.handed_on rfl (h _ (I.tok _))))))
end
/-- C.m(..), m a staticmethod; E told at the caller's slots -/
def tStat (C : Addr) (sp : Sp) (E : L2.St → XK) (ta : TE) (t : TA) : TE := fun σ H Q => ta σ H fun x H1 => x = .ref C ∧ t σ H1 fun vs H2 => sp vs H2 Q (E σ)
section
variable {X : Cx} {CX : CXT} {k : Nat} {C p g : Addr} {fd : FuncData} {ps : List Str} {sp : Sp} {ES : L2.St → XK} {o e : Expr} {es : List Expr} {m : Str} {pos apos : Pos} {ta : TE} {t : TA} {pl : Sem Bool}
theorem pe_stat (he : PE X o ta) (r : CStat X.K C p g m) (F : FnOk X.prog X.w X.K X.mg X.base CX k g fd ps sp) (hr : Room k X.A) (hk : PySem.W.keepIn X.K (.ref g) = true) (hb : Binds X.K fd ps []) (hx : ∀ σ, PassesAt CX X σ (ES σ)) (ha : PA X (e :: es) t)
    (hst : starEach (e :: es) X.env = (false, eval e X.env) :: starEach es X.env := by rfl) (hpl : (backTo pos (starEach es X.env)).any (·.1) = false := by rfl)
    (ht : eval (.Call (.Attribute o m apos) (e :: es) [] pos) X.env = (do
      let ov ← eval o X.env
      standAt apos.atName
      let (f, first) ← holding [ov] (getMethod ov m pl)
      callWith pos f first (backTo pos (starEach (e :: es) X.env)) (backToKw pos (keywordEach [] X.env))) := by rfl) :
    PE X (.Call (.Attribute o m apos) (e :: es) [] pos) (tStat C sp ES ta t) := by
  refine ⟨fun pins s σ H Q I h => ?_⟩
  refine PySem.W.methodCall_KW (pl := pl) (thn (he.run pins s σ H _ I h) fun u s1 ⟨x, H1, I1, rx, ex, q⟩ => ?_) ht
  subst ex
  obtain rfl : u = Value.ref C := rx
  refine getstat_ok I1 r fun s2 I2 => ?_
  refine PySem.W.callWith_K (h₀ := X.base) I.ok.mod.kin hk (thn (ha.run pos _ s2 σ H1 _ I2 q) fun us s3 ⟨vs, H2, I3, rv, q2⟩ => ⟨I3.kIn, ?_⟩) hst hpl
  exact run_at F hr rfl hb (hx σ) I3 rv q2
theorem pe_stat0 (he : PE X o ta) (r : CStat X.K C p g m) (F : FnOk X.prog X.w X.K X.mg X.base CX k g fd ps sp) (hr : Room k X.A) (hk : PySem.W.keepIn X.K (.ref g) = true) (hb : Binds X.K fd ps []) (hx : ∀ σ, PassesAt CX X σ (ES σ))
    (ht : eval (.Call (.Attribute o m apos) [] [] pos) X.env = (do
      let ov ← eval o X.env
      standAt apos.atName
      let (f, first) ← holding [ov] (getMethod ov m pl)
      callWith pos f first (backTo pos (starEach [] X.env)) (backToKw pos (keywordEach [] X.env))) := by rfl) :
    PE X (.Call (.Attribute o m apos) [] [] pos) (tStat C sp ES ta tNil) := by
  refine ⟨fun pins s σ H Q I h => ?_⟩
  refine PySem.W.methodCall_KW (pl := pl) (thn (he.run pins s σ H _ I h) fun u s1 ⟨x, H1, I1, rx, ex, q⟩ => ?_) ht
  subst ex
  obtain rfl : u = Value.ref C := rx
  refine getstat_ok I1 r fun s2 I2 => ?_
  exact PySem.W.callWith_K0 I2.kIn hk (run_at (us := []) F hr rfl hb (hx σ) I2 .nil q)
end
end XR
namespace XR
open PySem L2
/-- turns over a range, whatever a turn does -/
theorem turn_range {lo : Int} {n : Nat} {H0 : Hp} {Qd : Hp → Prop} {Body : V → Hp → (Hp → Prop) → Prop} (Pv : Nat → Hp → Prop) (h0 : Pv 0 H0) (hs : ∀ i H, i < n → Pv i H → Body (.int (lo + i)) H (Pv (i + 1))) (hd : ∀ H, Pv n H → Qd H) :
    ∃ W : Nat → Nat → Hp → Prop, (∃ m, W 0 m H0) ∧ ∀ i m H, W i m H →
      ((Itr lo n).stop i H ∧ Qd H) ∨ ((Itr lo n).go i H ∧ ∃ Nx : Hp → Prop, (∀ H', Nx H' → ∃ m', m' < m ∧ W (i + 1) m' H') ∧ ∀ x H', (Itr lo n).yld i H x H' → Body x H' Nx) := by
  refine ⟨fun i m H => m = n - i ∧ i ≤ n ∧ Pv i H, ⟨n, by simp, Nat.zero_le _, h0⟩, ?_⟩
  rintro i m H ⟨rfl, hi, p⟩
  by_cases hlt : i < n
  · refine .inr ⟨hlt, Pv (i + 1), fun H' p' => ⟨n - (i + 1), by omega, rfl, hlt, p'⟩, fun x H' y => ?_⟩
    obtain ⟨e, y⟩ := y
    subst e y
    exact hs i _ hlt p
  · have e : i = n := by omega
    subst e
    exact .inl ⟨Nat.le_refl _, hd H p⟩
end XR
set_option Elab.async false
set_option linter.all false
set_option maxRecDepth 100000
set_option maxHeartbeats 4000000
namespace Toy
open PySem L2 XR
def top (i : Nat) : Stmt := PySem.Challenge.pw_fittingpasts_k03_cycle_places.main.body.getD i (.Pass ⟨0, 0, 0, 0⟩)
abbrev s__wall : Stmt := top 1
abbrev s_Disjoint_init : Stmt := inClass (top 7) 0
abbrev s_OutOfRange_init : Stmt := inClass (top 8) 0
abbrev s__inverse : Stmt := top 10
abbrev s_Residue_init : Stmt := inClass (top 11) 0
abbrev s_Residue___eq__ : Stmt := inClass (top 11) 1
abbrev s_Residue___str__ : Stmt := inClass (top 11) 2
abbrev s_Residue___contains__ : Stmt := inClass (top 11) 3
abbrev s_Residue___add__ : Stmt := inClass (top 11) 4
abbrev s_Residue___sub__ : Stmt := inClass (top 11) 5
abbrev s_Residue___neg__ : Stmt := inClass (top 11) 6
abbrev s_Residue___and__ : Stmt := inClass (top 11) 7
abbrev s_Residue_first_from : Stmt := inClass (top 11) 8
abbrev s_Residue_last_until : Stmt := inClass (top 11) 9
abbrev s_Residue_count_in : Stmt := inClass (top 11) 10
abbrev s_Residue_members : Stmt := inClass (top 11) 11
abbrev s_Residue_part_of : Stmt := inClass (top 11) 12
abbrev s_Residue_scaled : Stmt := inClass (top 11) 13
abbrev s_Residue_every : Stmt := inClass (top 11) 14
abbrev s_Residue_meet : Stmt := inClass (top 11) 15
abbrev s_place_on : Stmt := top 13
abbrev s_days_at : Stmt := top 14
abbrev s_all_cycles : Stmt := top 15
abbrev s_moved : Stmt := top 16
abbrev s_turns : Stmt := top 17
abbrev s_is_whole : Stmt := top 18
abbrev s_whole_outers : Stmt := top 19
abbrev s__law_box : Stmt := top 21
abbrev s__law_draw : Stmt := top 22
abbrev s__law_is_number : Stmt := top 23
abbrev s__law_day : Stmt := top 24
abbrev s__law_cycles : Stmt := top 25
abbrev s__law_bounds : Stmt := top 26
abbrev s__law_shown : Stmt := top 27
abbrev s__law_is_cycle : Stmt := top 28
abbrev s__law_is_list : Stmt := top 29
abbrev s__law_says : Stmt := top 30
abbrev s__law_refused : Stmt := top 31
abbrev s__law_places : Stmt := top 32
abbrev s__law_moved : Stmt := top 33
abbrev s__law_turns : Stmt := top 34
abbrev s__law_counted : Stmt := top 35
abbrev s__law_whole : Stmt := top 36
abbrev s__law_suits : Stmt := top 37
abbrev s__law_lists : Stmt := top 38
abbrev s_law : Stmt := top 39
/-- where the defs and classes of the text stand -/
structure Ad where
  a_Disjoint_init : Addr
  d_Disjoint_init : FuncData
  a_OutOfRange_init : Addr
  d_OutOfRange_init : FuncData
  a__inverse : Addr
  d__inverse : FuncData
  a_Residue_init : Addr
  d_Residue_init : FuncData
  a_Residue___eq__ : Addr
  d_Residue___eq__ : FuncData
  a_Residue___str__ : Addr
  d_Residue___str__ : FuncData
  a_Residue___contains__ : Addr
  d_Residue___contains__ : FuncData
  a_Residue___add__ : Addr
  d_Residue___add__ : FuncData
  a_Residue___sub__ : Addr
  d_Residue___sub__ : FuncData
  a_Residue___neg__ : Addr
  d_Residue___neg__ : FuncData
  a_Residue___and__ : Addr
  d_Residue___and__ : FuncData
  a_Residue_first_from : Addr
  d_Residue_first_from : FuncData
  a_Residue_count_in : Addr
  d_Residue_count_in : FuncData
  a_place_on : Addr
  d_place_on : FuncData
  a_days_at : Addr
  d_days_at : FuncData
  a_all_cycles : Addr
  d_all_cycles : FuncData
  a_moved : Addr
  d_moved : FuncData
  a_turns : Addr
  d_turns : FuncData
  a_is_whole : Addr
  d_is_whole : FuncData
  a_whole_outers : Addr
  d_whole_outers : FuncData
  a__law_box : Addr
  d__law_box : FuncData
  a__law_draw : Addr
  d__law_draw : FuncData
  a__law_is_number : Addr
  d__law_is_number : FuncData
  a__law_day : Addr
  d__law_day : FuncData
  a__law_cycles : Addr
  d__law_cycles : FuncData
  a__law_bounds : Addr
  d__law_bounds : FuncData
  a__law_shown : Addr
  d__law_shown : FuncData
  a__law_is_cycle : Addr
  d__law_is_cycle : FuncData
  a__law_is_list : Addr
  d__law_is_list : FuncData
  a__law_says : Addr
  d__law_says : FuncData
  a__law_refused : Addr
  d__law_refused : FuncData
  a__law_places : Addr
  d__law_places : FuncData
  a__law_moved : Addr
  d__law_moved : FuncData
  a__law_turns : Addr
  d__law_turns : FuncData
  a__law_counted : Addr
  d__law_counted : FuncData
  a__law_whole : Addr
  d__law_whole : FuncData
  a__law_suits : Addr
  d__law_suits : FuncData
  a__law_lists : Addr
  d__law_lists : FuncData
  a_law : Addr
  d_law : FuncData
  c_ArchiveError : Addr
  c_UnknownError : Addr
  c_TextError : Addr
  c_ImpossibleError : Addr
  c_Disjoint : Addr
  c_OutOfRange : Addr
  c_Residue : Addr
structure Txt (K : PySem.W.Frag) (mg : Str → Option Value) (D : Ad) : Prop where
  F_Disjoint_init : Fun K "__init__" "Disjoint.__init__" s_Disjoint_init D.a_Disjoint_init D.d_Disjoint_init
  b_Disjoint_init : Binds K D.d_Disjoint_init ["self", "divisor"] []
  m_Disjoint_init : PySem.W.findIn K (.ref D.c_Disjoint) "__init__" = some (some (.ref D.a_Disjoint_init))
  i_Disjoint_init : PySem.W.isFn K (.ref D.a_Disjoint_init) = true
  F_OutOfRange_init : Fun K "__init__" "OutOfRange.__init__" s_OutOfRange_init D.a_OutOfRange_init D.d_OutOfRange_init
  b_OutOfRange_init : Binds K D.d_OutOfRange_init ["self", "value"] []
  m_OutOfRange_init : PySem.W.findIn K (.ref D.c_OutOfRange) "__init__" = some (some (.ref D.a_OutOfRange_init))
  i_OutOfRange_init : PySem.W.isFn K (.ref D.a_OutOfRange_init) = true
  F__inverse : Fun K "_inverse" "_inverse" s__inverse D.a__inverse D.d__inverse
  b__inverse : Binds K D.d__inverse ["number", "length"] []
  g__inverse : mg "_inverse" = some (.ref D.a__inverse)
  F_Residue_init : Fun K "__init__" "Residue.__init__" s_Residue_init D.a_Residue_init D.d_Residue_init
  b_Residue_init : Binds K D.d_Residue_init ["self", "place", "length"] []
  m_Residue_init : PySem.W.findIn K (.ref D.c_Residue) "__init__" = some (some (.ref D.a_Residue_init))
  i_Residue_init : PySem.W.isFn K (.ref D.a_Residue_init) = true
  F_Residue___eq__ : Fun K "__eq__" "Residue.__eq__" s_Residue___eq__ D.a_Residue___eq__ D.d_Residue___eq__
  b_Residue___eq__ : Binds K D.d_Residue___eq__ ["self", "other"] []
  m_Residue___eq__ : PySem.W.findIn K (.ref D.c_Residue) "__eq__" = some (some (.ref D.a_Residue___eq__))
  i_Residue___eq__ : PySem.W.isFn K (.ref D.a_Residue___eq__) = true
  F_Residue___str__ : Fun K "__str__" "Residue.__str__" s_Residue___str__ D.a_Residue___str__ D.d_Residue___str__
  b_Residue___str__ : Binds K D.d_Residue___str__ ["self"] []
  m_Residue___str__ : PySem.W.findIn K (.ref D.c_Residue) "__str__" = some (some (.ref D.a_Residue___str__))
  i_Residue___str__ : PySem.W.isFn K (.ref D.a_Residue___str__) = true
  F_Residue___contains__ : Fun K "__contains__" "Residue.__contains__" s_Residue___contains__ D.a_Residue___contains__ D.d_Residue___contains__
  b_Residue___contains__ : Binds K D.d_Residue___contains__ ["self", "day"] []
  m_Residue___contains__ : PySem.W.findIn K (.ref D.c_Residue) "__contains__" = some (some (.ref D.a_Residue___contains__))
  i_Residue___contains__ : PySem.W.isFn K (.ref D.a_Residue___contains__) = true
  F_Residue___add__ : Fun K "__add__" "Residue.__add__" s_Residue___add__ D.a_Residue___add__ D.d_Residue___add__
  b_Residue___add__ : Binds K D.d_Residue___add__ ["self", "many"] []
  m_Residue___add__ : PySem.W.findIn K (.ref D.c_Residue) "__add__" = some (some (.ref D.a_Residue___add__))
  i_Residue___add__ : PySem.W.isFn K (.ref D.a_Residue___add__) = true
  F_Residue___sub__ : Fun K "__sub__" "Residue.__sub__" s_Residue___sub__ D.a_Residue___sub__ D.d_Residue___sub__
  b_Residue___sub__ : Binds K D.d_Residue___sub__ ["self", "many"] []
  m_Residue___sub__ : PySem.W.findIn K (.ref D.c_Residue) "__sub__" = some (some (.ref D.a_Residue___sub__))
  i_Residue___sub__ : PySem.W.isFn K (.ref D.a_Residue___sub__) = true
  F_Residue___neg__ : Fun K "__neg__" "Residue.__neg__" s_Residue___neg__ D.a_Residue___neg__ D.d_Residue___neg__
  b_Residue___neg__ : Binds K D.d_Residue___neg__ ["self"] []
  m_Residue___neg__ : PySem.W.findIn K (.ref D.c_Residue) "__neg__" = some (some (.ref D.a_Residue___neg__))
  i_Residue___neg__ : PySem.W.isFn K (.ref D.a_Residue___neg__) = true
  F_Residue___and__ : Fun K "__and__" "Residue.__and__" s_Residue___and__ D.a_Residue___and__ D.d_Residue___and__
  b_Residue___and__ : Binds K D.d_Residue___and__ ["self", "other"] []
  m_Residue___and__ : PySem.W.findIn K (.ref D.c_Residue) "__and__" = some (some (.ref D.a_Residue___and__))
  i_Residue___and__ : PySem.W.isFn K (.ref D.a_Residue___and__) = true
  F_Residue_first_from : Fun K "first_from" "Residue.first_from" s_Residue_first_from D.a_Residue_first_from D.d_Residue_first_from
  b_Residue_first_from : Binds K D.d_Residue_first_from ["self", "day"] []
  m_Residue_first_from : PySem.W.findIn K (.ref D.c_Residue) "first_from" = some (some (.ref D.a_Residue_first_from))
  i_Residue_first_from : PySem.W.isFn K (.ref D.a_Residue_first_from) = true
  F_Residue_count_in : Fun K "count_in" "Residue.count_in" s_Residue_count_in D.a_Residue_count_in D.d_Residue_count_in
  b_Residue_count_in : Binds K D.d_Residue_count_in ["self", "first", "last"] []
  m_Residue_count_in : PySem.W.findIn K (.ref D.c_Residue) "count_in" = some (some (.ref D.a_Residue_count_in))
  i_Residue_count_in : PySem.W.isFn K (.ref D.a_Residue_count_in) = true
  F_place_on : Fun K "place_on" "place_on" s_place_on D.a_place_on D.d_place_on
  b_place_on : Binds K D.d_place_on ["cycle", "day"] []
  g_place_on : mg "place_on" = some (.ref D.a_place_on)
  F_days_at : Fun K "days_at" "days_at" s_days_at D.a_days_at D.d_days_at
  b_days_at : Binds K D.d_days_at ["cycle", "place"] []
  g_days_at : mg "days_at" = some (.ref D.a_days_at)
  F_all_cycles : Fun K "all_cycles" "all_cycles" s_all_cycles D.a_all_cycles D.d_all_cycles
  b_all_cycles : Binds K D.d_all_cycles ["least", "most"] []
  g_all_cycles : mg "all_cycles" = some (.ref D.a_all_cycles)
  F_moved : Fun K "moved" "moved" s_moved D.a_moved D.d_moved
  b_moved : Binds K D.d_moved ["cycle", "days"] []
  g_moved : mg "moved" = some (.ref D.a_moved)
  F_turns : Fun K "turns" "turns" s_turns D.a_turns D.d_turns
  b_turns : Binds K D.d_turns ["cycle", "first", "last"] []
  g_turns : mg "turns" = some (.ref D.a_turns)
  F_is_whole : Fun K "is_whole" "is_whole" s_is_whole D.a_is_whole D.d_is_whole
  b_is_whole : Binds K D.d_is_whole ["inner", "outer"] []
  g_is_whole : mg "is_whole" = some (.ref D.a_is_whole)
  F_whole_outers : Fun K "whole_outers" "whole_outers" s_whole_outers D.a_whole_outers D.d_whole_outers
  b_whole_outers : Binds K D.d_whole_outers ["inner", "least", "most"] []
  g_whole_outers : mg "whole_outers" = some (.ref D.a_whole_outers)
  F__law_box : Fun K "_law_box" "_law_box" s__law_box D.a__law_box D.d__law_box
  b__law_box : Binds K D.d__law_box ["_law_script"] []
  g__law_box : mg "_law_box" = some (.ref D.a__law_box)
  F__law_draw : Fun K "_law_draw" "_law_draw" s__law_draw D.a__law_draw D.d__law_draw
  b__law_draw : Binds K D.d__law_draw ["_law_box_here", "_law_size"] []
  g__law_draw : mg "_law_draw" = some (.ref D.a__law_draw)
  F__law_is_number : Fun K "_law_is_number" "_law_is_number" s__law_is_number D.a__law_is_number D.d__law_is_number
  b__law_is_number : Binds K D.d__law_is_number ["_law_value"] []
  g__law_is_number : mg "_law_is_number" = some (.ref D.a__law_is_number)
  F__law_day : Fun K "_law_day" "_law_day" s__law_day D.a__law_day D.d__law_day
  b__law_day : Binds K D.d__law_day ["_law_box_here"] []
  g__law_day : mg "_law_day" = some (.ref D.a__law_day)
  F__law_cycles : Fun K "_law_cycles" "_law_cycles" s__law_cycles D.a__law_cycles D.d__law_cycles
  b__law_cycles : Binds K D.d__law_cycles ["_law_box_here"] []
  g__law_cycles : mg "_law_cycles" = some (.ref D.a__law_cycles)
  F__law_bounds : Fun K "_law_bounds" "_law_bounds" s__law_bounds D.a__law_bounds D.d__law_bounds
  b__law_bounds : Binds K D.d__law_bounds ["_law_box_here"] []
  g__law_bounds : mg "_law_bounds" = some (.ref D.a__law_bounds)
  F__law_shown : Fun K "_law_shown" "_law_shown" s__law_shown D.a__law_shown D.d__law_shown
  b__law_shown : Binds K D.d__law_shown ["_law_cycle", "_law_day_here"] []
  g__law_shown : mg "_law_shown" = some (.ref D.a__law_shown)
  F__law_is_cycle : Fun K "_law_is_cycle" "_law_is_cycle" s__law_is_cycle D.a__law_is_cycle D.d__law_is_cycle
  b__law_is_cycle : Binds K D.d__law_is_cycle ["_law_told"] []
  g__law_is_cycle : mg "_law_is_cycle" = some (.ref D.a__law_is_cycle)
  F__law_is_list : Fun K "_law_is_list" "_law_is_list" s__law_is_list D.a__law_is_list D.d__law_is_list
  b__law_is_list : Binds K D.d__law_is_list ["_law_told", "_law_due"] []
  g__law_is_list : mg "_law_is_list" = some (.ref D.a__law_is_list)
  F__law_says : Fun K "_law_says" "_law_says" s__law_says D.a__law_says D.d__law_says
  b__law_says : Binds K D.d__law_says ["_law_told", "_law_due"] []
  g__law_says : mg "_law_says" = some (.ref D.a__law_says)
  F__law_refused : Fun K "_law_refused" "_law_refused" s__law_refused D.a__law_refused D.d__law_refused
  b__law_refused : Binds K D.d__law_refused ["_law_cycle", "_law_spot"] []
  g__law_refused : mg "_law_refused" = some (.ref D.a__law_refused)
  F__law_places : Fun K "_law_places" "_law_places" s__law_places D.a__law_places D.d__law_places
  b__law_places : Binds K D.d__law_places ["_law_cycle", "_law_near", "_law_spot"] []
  g__law_places : mg "_law_places" = some (.ref D.a__law_places)
  F__law_moved : Fun K "_law_moved" "_law_moved" s__law_moved D.a__law_moved D.d__law_moved
  b__law_moved : Binds K D.d__law_moved ["_law_cycle", "_law_near", "_law_days"] []
  g__law_moved : mg "_law_moved" = some (.ref D.a__law_moved)
  F__law_turns : Fun K "_law_turns" "_law_turns" s__law_turns D.a__law_turns D.d__law_turns
  b__law_turns : Binds K D.d__law_turns ["_law_cycle", "_law_first", "_law_last"] []
  g__law_turns : mg "_law_turns" = some (.ref D.a__law_turns)
  F__law_counted : Fun K "_law_counted" "_law_counted" s__law_counted D.a__law_counted D.d__law_counted
  b__law_counted : Binds K D.d__law_counted ["_law_cycle", "_law_first", "_law_last"] []
  g__law_counted : mg "_law_counted" = some (.ref D.a__law_counted)
  F__law_whole : Fun K "_law_whole" "_law_whole" s__law_whole D.a__law_whole D.d__law_whole
  b__law_whole : Binds K D.d__law_whole ["_law_inner", "_law_outer"] []
  g__law_whole : mg "_law_whole" = some (.ref D.a__law_whole)
  F__law_suits : Fun K "_law_suits" "_law_suits" s__law_suits D.a__law_suits D.d__law_suits
  b__law_suits : Binds K D.d__law_suits ["_law_inner", "_law_outer"] []
  g__law_suits : mg "_law_suits" = some (.ref D.a__law_suits)
  F__law_lists : Fun K "_law_lists" "_law_lists" s__law_lists D.a__law_lists D.d__law_lists
  b__law_lists : Binds K D.d__law_lists ["_law_inner", "_law_least", "_law_most"] []
  g__law_lists : mg "_law_lists" = some (.ref D.a__law_lists)
  F_law : Fun K "law" "law" s_law D.a_law D.d_law
  b_law : Binds K D.d_law ["_law_script"] []
  g_law : mg "law" = some (.ref D.a_law)
  g_ArchiveError : mg "ArchiveError" = some (.ref D.c_ArchiveError)
  k_ArchiveError : PySem.W.keepIn K (.ref D.c_ArchiveError) = true
  g_UnknownError : mg "UnknownError" = some (.ref D.c_UnknownError)
  k_UnknownError : PySem.W.keepIn K (.ref D.c_UnknownError) = true
  g_TextError : mg "TextError" = some (.ref D.c_TextError)
  k_TextError : PySem.W.keepIn K (.ref D.c_TextError) = true
  g_ImpossibleError : mg "ImpossibleError" = some (.ref D.c_ImpossibleError)
  k_ImpossibleError : PySem.W.keepIn K (.ref D.c_ImpossibleError) = true
  g_Disjoint : mg "Disjoint" = some (.ref D.c_Disjoint)
  k_Disjoint : PySem.W.keepIn K (.ref D.c_Disjoint) = true
  g_OutOfRange : mg "OutOfRange" = some (.ref D.c_OutOfRange)
  k_OutOfRange : PySem.W.keepIn K (.ref D.c_OutOfRange) = true
  g_Residue : mg "Residue" = some (.ref D.c_Residue)
  k_Residue : PySem.W.keepIn K (.ref D.c_Residue) = true
  n_ValueError : mg "ValueError" = none
  n_abs : mg "abs" = none
  n_all : mg "all" = none
  n_bool : mg "bool" = none
  n_int : mg "int" = none
  n_isinstance : mg "isinstance" = none
  n_len : mg "len" = none
  n_list : mg "list" = none
  n_max : mg "max" = none
  n_min : mg "min" = none
  n_range : mg "range" = none
  n_tuple : mg "tuple" = none
  oxl_OutOfRange : ∃ nm q N bs bm sn sub ab col dd k0 k1 k2 k3 k5, K.lookup D.c_OutOfRange = some (excClassObj nm q D.c_OutOfRange N bs bm true sn sub ab col dd k0 k1 k2 k3 k5 "ValueError.__new__") ∧ PySem.HandSPX.refsVE bm = true
  xsa_OutOfRange : PySem.W.findIn K (.ref D.c_OutOfRange) "__setattr__" = some (some (.builtin "object.__setattr__"))
  xga_OutOfRange : PySem.W.findIn K (.ref D.c_OutOfRange) "__getattribute__" = some (some (.builtin "BaseException.__getattribute__"))
  xgg_OutOfRange : PySem.W.findIn K (.ref D.c_OutOfRange) "__getattr__" = some none
  xbe_OutOfRange : PySem.W.subIn K (.ref D.c_OutOfRange) (.type "BaseException") = some true
  xty_OutOfRange : PySem.W.typeIn K (.ref D.c_OutOfRange) = some (.type "type")
  xhd_OutOfRange : PySem.W.hasDictIn K D.c_OutOfRange = true
  xca_OutOfRange : PySem.W.findIn K (.ref D.c_OutOfRange) "__class__" = some (some (.builtin "object.__class__"))
  xmo_OutOfRange : PySem.W.mroIn K D.c_OutOfRange (.type "object") = some true
  xti_OutOfRange : PySem.W.typeIn K (.ref D.a_OutOfRange_init) = some (.type "function")
  cn_ : PySem.W.specialIn K (.builtin "object.__class__") "__get__" = some (some (.builtin "getset_descriptor.__get__"))
  ct_ : PySem.W.takesIn K (.builtin "object.__class__") = some true
  ymk_Residue : PySem.W.makesIn K D.c_Residue = true
  ypg_Residue : PySem.W.plainGet K D.c_Residue Str.empty = true
  yhd_Residue : PySem.W.hasDictIn K D.c_Residue = true
  ypo_Residue : PySem.W.plainOver K D.c_Residue = true
  ysa_Residue : PySem.W.findIn K (.ref D.c_Residue) "__setattr__" = some (some (.builtin "object.__setattr__"))
  ysf_Residue : PySem.W.selfFirst K D.c_Residue = true
  yca_Residue : PySem.W.findIn K (.ref D.c_Residue) "__class__" = some (some (.builtin "object.__class__"))
  ymo_Residue : PySem.W.mroIn K D.c_Residue (.type "object") = some true
  no_place : PySem.W.findIn K (.ref D.c_Residue) "place" = some none
  no_length : PySem.W.findIn K (.ref D.c_Residue) "length" = some none
  e_value : PySem.W.findIn K (.ref D.c_OutOfRange) "value" = some none
  z_Residue : PySem.W.kitOne K (.ref D.c_Residue) (.ref D.c_Residue) = some true
  z_oU : PySem.W.kitOne K (.ref D.c_OutOfRange) (.ref D.c_UnknownError) = some false
  z_oT : PySem.W.kitOne K (.ref D.c_OutOfRange) (.ref D.c_TextError) = some false
  z_oI : PySem.W.kitOne K (.ref D.c_OutOfRange) (.ref D.c_ImpossibleError) = some false
  z_oO : PySem.W.kitOne K (.ref D.c_OutOfRange) (.ref D.c_OutOfRange) = some true
  z_oV : PySem.W.kitOne K (.ref D.c_OutOfRange) (.type "ValueError") = some true
  m_oa : PySem.W.exmOne K (.ref D.c_OutOfRange) (.ref D.c_ArchiveError) = some true
section
variable {K : PySem.W.Frag} {mg : Str → Option Value} {D : Ad}
theorem T_cl_Residue (T : Txt K mg D) : Cls K D.c_Residue := ⟨T.ypg_Residue, T.yhd_Residue, T.ypo_Residue, T.ysa_Residue⟩
theorem T_mk_Residue (T : Txt K mg D) : Mk K D.c_Residue D.a_Residue_init := ⟨T.ymk_Residue, T.m_Residue_init, T.i_Residue_init, T.k_Residue⟩
theorem T_ty_Residue (T : Txt K mg D) {H : Hp} {a dx : Addr} {fs : List (Str × V)} (e : H a = some (.ins D.c_Residue dx fs)) : TyX K H (.ref a) (.ref D.c_Residue) := .base (.ins e (T_cl_Residue T) T.yca_Residue T.cn_ T.ct_ T.ymo_Residue)
theorem T_ox_OutOfRange (T : Txt K mg D) : OexC K D.c_OutOfRange := ⟨T.oxl_OutOfRange, T.xsa_OutOfRange, T.xbe_OutOfRange, T.xty_OutOfRange, T.k_OutOfRange⟩
theorem T_as_OutOfRange (T : Txt K mg D) : XR.Asks K D.c_OutOfRange := ⟨T.xga_OutOfRange, T.xgg_OutOfRange, T.xbe_OutOfRange, T.xhd_OutOfRange, T.xca_OutOfRange, T.cn_, T.ct_, T.xmo_OutOfRange⟩
theorem T_xf_OutOfRange (T : Txt K mg D) : XfC K D.c_OutOfRange := ⟨T.xga_OutOfRange, T.xgg_OutOfRange, T.xbe_OutOfRange, T.xhd_OutOfRange⟩
end

local macro_rules | `(tactic| walk_at "ne") => `(tactic| first | assumption | (apply Ne.symm; assumption) | exact XR.ne_fresh (by assumption) (by walk_at "hp") | exact Ne.symm (XR.ne_fresh (by assumption) (by walk_at "hp")))
local macro_rules | `(tactic| walk_at "hp") => `(tactic| first | assumption | exact upd_same | (refine Eq.trans (upd_ne ?_) ?_; (walk_at "ne"); walk_at "hp"))
local macro_rules | `(tactic| walk_at "sq") => `(tactic| first | walk_at "hp" | exact SqL.of (by walk_at "hp") | exact SqT.of (by walk_at "hp"))
local macro_rules | `(tactic| walk_at "br") => `(tactic| (refine ite2 ?_ ?_ <;> intro hbr <;> (try simp only [decide_eq_true_eq, decide_eq_false_iff_not, V.int.injEq, V.bl.injEq, V.str.injEq, Bool.not_eq_true, Bool.not_eq_eq_eq_not, Bool.not_true, Bool.not_false, ne_eq, Int.reduceToNat, Int.reducePow, Int.reduceMul, Int.reduceAdd, Int.reduceSub, reduceCtorEq, not_true_eq_false, not_false_eq_true, Int.not_lt, Int.not_le] at hbr)))
local macro_rules | `(tactic| walk_at "side") => `(tactic| first
  | exact ⟨by decide, by decide, by decide⟩
  | exact .inl ⟨by decide, by decide⟩
  | exact .inr ⟨by decide, by decide⟩
  | exact XR.divw (by first | decide | omega) (by first | decide | omega)
  | (show (_ : Int) = _; first | rfl | omega)
  | (show (0 : Int) < _; first | decide | assumption | omega)
  | exact .inl ⟨by omega, by omega⟩
  | exact .inr ⟨by omega, by omega⟩
  | exact .inl (XR.cmul_mod (by decide))
  | exact XR.log_lt (by omega) (by omega)
  | decide
  | (rw [sizeLine_eq]; simp; done)
  | (show 2 ≤ sizeLine; decide) | (show 3 ≤ sizeLine; decide) | (show 4 ≤ sizeLine; decide) | (show 5 ≤ sizeLine; decide) | (show 6 ≤ sizeLine; decide) | (show 7 ≤ sizeLine; decide) | (show 1 ≤ sizeLine; decide) | (show 8 ≤ sizeLine; decide) | (show 0 ≤ sizeLine; decide))
local macro_rules | `(tactic| walk_at "rd1") => `(tactic| first
  | refine ⟨_, rfl, ?_⟩
  | refine ⟨_, _, rfl, rfl, ?_⟩
  | refine ⟨_, _, _, _, rfl, rfl, (by walk_at "sq"), rfl, ?_⟩
  | refine ⟨_, _, _, _, rfl, rfl, (by walk_at "hp"), (by walk_at "hp"), (by walk_at "side"), ?_⟩
  | refine ⟨_, _, rfl, .inl (by walk_at "sq"), ?_⟩
  | refine ⟨_, _, rfl, .inr (by walk_at "sq"), ?_⟩
  | refine ⟨_, _, _, _, _, rfl, (by walk_at "hp"), (by walk_at "cls"), (by walk_at "noat"), rfl, ?_⟩
  | refine ⟨rfl, ?_⟩
  | refine And.intro (by walk_at "side") ?_
  | refine .inl ⟨_, rfl, ?_⟩
  | refine And.intro ⟨_, (by walk_at "sq")⟩ ?_
  | refine ⟨_, _, rfl, (by walk_at "sq"), ?_⟩
  | refine ⟨_, _, rfl, ?_⟩
  | refine .inr ⟨_, rfl, (by walk_at "side"), ?_⟩
  | refine iteT ?_
  | refine iteF ?_)
local macro_rules | `(tactic| walk_at "rd") => `(tactic| repeat (walk_at "rd1"))
local macro_rules | `(tactic| walk_at "nn") => `(tactic| (simp only [Int.reduceToNat, Int.reducePow, Int.reduceMul, Int.reduceAdd, Int.reduceSub, Int.reduceNeg]))
local macro_rules | `(tactic| walk_at "dr") => `(tactic| repeat (first | refine And.intro (by first | assumption | walk_at "pre") ?_ | refine And.intro (by first | decide | omega) ?_))

local macro_rules | `(tactic| walk_at "cls") => `(tactic| exact T_cl_Residue (by assumption))
local macro_rules | `(tactic| walk_at "noat") => `(tactic| first | exact Txt.no_place (by assumption) | exact Txt.no_length (by assumption))
section
variable {K : PySem.W.Frag} {mg : Str → Option Value} {D : Ad}
theorem T_o_Residue___contains__ (T : Txt K mg D) : XR.OwnM K D.c_Residue D.a_Residue___contains__ "__contains__" := ⟨T.m_Residue___contains__, T.i_Residue___contains__⟩
theorem T_m_Residue_first_from (T : Txt K mg D) : Meth K D.c_Residue "first_from" D.a_Residue_first_from := ⟨T.m_Residue_first_from, T.i_Residue_first_from, T.F_Residue_first_from.kp⟩
theorem T_m_Residue_count_in (T : Txt K mg D) : Meth K D.c_Residue "count_in" D.a_Residue_count_in := ⟨T.m_Residue_count_in, T.i_Residue_count_in, T.F_Residue_count_in.kp⟩
end
/-! ### promises -/
theorem two_of {p : Prop} [Decidable p] {Q : VK} {H : Hp} (k1 : p → Q (.bl true) H) (k2 : ¬p → Q (.bl false) H) : ∀ x : Bool, x = decide p → Q (.bl x) H := fun x e => by
  by_cases z : p
  · rw [e, decide_eq_true z]; exact k1 z
  · rw [e, decide_eq_false z]; exact k2 z
def fsR (a n : Int) : List (Str × V) := [("place", .int a), ("length", .int n)]
def ResAt (D : Ad) (H : Hp) (p : Addr) (a n : Int) : Prop := ∃ dx, H p = some (.ins D.c_Residue dx (fsR a n))
theorem ResAt.same {D : Ad} {H H' : Hp} {p : Addr} {a n : Int} (s : ResAt D H p a n) (x : Same H H') : ResAt D H' p a n := let ⟨dx, e⟩ := s; ⟨dx, x _ _ e⟩
theorem ResAt.new {D : Ad} {H : Hp} {p q : Addr} {a n : Int} {o : HO} (s : ResAt D H p a n) (h : H q = none) : ResAt D (L2.upd H q o) p a n := let ⟨dx, e⟩ := s; ⟨dx, by rw [upd_ne (ne_of_none e h)]; exact e⟩
theorem ResAt.exb {D : Ad} {H H' : Hp} {p b : Addr} {x y : Int} (s : ResAt D H p x y) (n : p ≠ b) (e : ExB b H H') : ResAt D H' p x y := let ⟨dx, h⟩ := s; ⟨dx, e _ _ n h⟩
/-- a new residue -/
def NewRes (D : Ad) (H : Hp) (a n : Int) (Q : VK) : Prop := ∀ p H', H p = none → Same H H' → ResAt D H' p (a % n) n → Q (.ref p) H'
def spInit (D : Ad) : Sp := fun vs H Q E => ∃ (p dx : Addr) (a n : Int), vs = [.ref p, .int a, .int n] ∧ H p = some (.ins D.c_Residue dx []) ∧ n < 2 ^ 63 ∧
  (n < 1 → Wish D.c_OutOfRange [("value", .int n)] H E) ∧
  (1 ≤ n → ∀ H', (∀ q o, q ≠ p → H q = some o → H' q = some o) → H' p = some (.ins D.c_Residue dx (fsR (a % n) n)) → Q .non H')
theorem mk2 {D : Ad} {H : Hp} {a n : Int} {Q : VK} {E : XK} {x dx : Addr} (nx : H x = none) (nd : H dx = none) (ne : dx ≠ x) (hn : n < 2 ^ 63) (k1 : n < 1 → Wish D.c_OutOfRange [("value", .int n)] H E) (k2 : 1 ≤ n → ∀ H', Same H H' → ResAt D H' x (a % n) n → Q .non H') :
    spInit D [.ref x, .int a, .int n] (L2.upd (L2.upd H dx (.own x)) x (.ins D.c_Residue dx [])) Q E := by
  have old : ∀ q o, H q = some o → (L2.upd (L2.upd H dx (.own x)) x (.ins D.c_Residue dx [])) q = some o := fun q o e => by rw [upd_ne (ne_of_none e nx), upd_ne (ne_of_none e nd)]; exact e
  refine ⟨x, dx, a, n, rfl, upd_same, hn, fun h => fun d H' e s => k1 h d H' e fun q o z => s q o (old q o z), fun h H' s e => k2 h H' (fun q o z => s q o (ne_of_none z nx) (old q o z)) ⟨dx, e⟩⟩
def spFrom (D : Ad) : Sp := fun vs H Q _ => ∃ (p : Addr) (a n m : Int), vs = [.ref p, .int m] ∧ ResAt D H p a n ∧ 1 ≤ n ∧ n < 2 ^ 63 ∧ Q (.int (m + (a - m) % n)) H
def countOf (a n x y : Int) : Int := if y < x + (a - x) % n then 0 else (y - (x + (a - x) % n)) / n + 1
def spCount (D : Ad) : Sp := fun vs H Q _ => ∃ (p : Addr) (a n x y : Int), vs = [.ref p, .int x, .int y] ∧ ResAt D H p a n ∧ 1 ≤ n ∧ n < 2 ^ 63 ∧ Q (.int (countOf a n x y)) H
def spHas (D : Ad) : Sp := fun vs H Q _ => ∃ (p : Addr) (a n m : Int), vs = [.ref p, .int m] ∧ ResAt D H p a n ∧ 1 ≤ n ∧ n < 2 ^ 63 ∧ Q (.bl (decide ((m - a) % n = 0))) H
section
variable {P : Program} {w : World} {K : PySem.W.Frag} {mg : Str → Option Value} {base : Heap} {D : Ad}
abbrev fsO : List V → Option (List (Str × V)) := fun ws => match ws with | [a] => some [("value", a)] | _ => none
theorem sc_OutOfRange_init : FnScope ["self", "value"] ["self", "value"] (defScope s_OutOfRange_init) := ⟨rfl, rfl, rfl, by decide +kernel, rfl, by decide +kernel, by decide +kernel⟩
theorem ok_OutOfRange_init (T : Txt K mg D) : FnOk P w K mg base CX0 1 D.a_OutOfRange_init D.d_OutOfRange_init ["self", "value"] (spEx D.c_OutOfRange fsO) := by
  refine T.F_OutOfRange_init.ok sc_OutOfRange_init (fun vs H Q E h => ?_) (fun cdv A outer s H vs Q E hr h => ?_)
  · obtain ⟨a, ws, l, rfl, e, _⟩ := h
    match ws, e with
    | [_], _ => rfl
  · obtain ⟨a, ws, l, rfl, e, ha, k⟩ := h
    match ws, e with
    | [x], e =>
      cases e
      refine ⟨_, pss_one (ps_ost (pv 0) (pv 1)), ?_⟩
      walk_at "rd"
      exact init_ex1 (T_ox_OutOfRange T) T.e_value ha fun d H1 hd hda ea ed x1 => k d H1 hd hda ea ed x1
theorem sc_Residue_init : FnScope ["self", "place", "length"] ["self", "place", "length"] (defScope s_Residue_init) := ⟨rfl, rfl, rfl, by decide +kernel, rfl, by decide +kernel, by decide +kernel⟩
theorem ok_Residue_init (T : Txt K mg D) : FnOk P w K mg base (L2.CX P w) 3 D.a_Residue_init D.d_Residue_init ["self", "place", "length"] (spInit D) := by
  refine T.F_Residue_init.okX sc_Residue_init (fun vs H Q E h => ?_) (fun cdv A outer s H vs Q E hr h => ?_)
  · obtain ⟨p, dx, a, n, rfl, _⟩ := h
    rfl
  · obtain ⟨p, dx, a, n, rfl, hp, hn, kE, kS⟩ := h
    refine ⟨_, (pss_cons (ps_if (pt_cmpR op_lt (pv 2) pe_int (nomark _))
      (pss_one (ps_raise rfl (takes_of rfl rfl rfl rfl) (pmk_oex (T_ox_OutOfRange T) T.m_OutOfRange_init T.xti_OutOfRange (ok_OutOfRange_init T) (hr.mono (by decide)) T.b_OutOfRange_init .nil (fun _ _ _ _ _ _ _ z => z.elim) (by rfl) T.g_OutOfRange (pa_cons (pv 2) pa_nil))))
      pss_nil)
      (pss_cons (ps_fld (pv 0) (pe_op op_mod (pv 1) (pv 2)) rfl)
      (pss_one (ps_fld (pv 0) (pv 2) rfl)))), ?_⟩
    walk_at "rd"
    walk_at "br"
    · walk_at "rd"
      exact mk_ex (by show 1 ≤ 1000; decide) rfl (kE (by omega))
    · walk_at "rd"
      refine ⟨p, _, dx, _, rfl, hp, T_cl_Residue T, T.no_place, (by show 0 < 1000; decide), ?_⟩
      walk_at "rd"
      refine ⟨p, _, dx, _, rfl, upd_same, T_cl_Residue T, T.no_length, (by show 1 < 1000; decide), ?_⟩
      refine kS (by omega) _ (fun q o hq e => by rw [upd_ne hq, upd_ne hq]; exact e) ?_
      rw [upd_same]
      rfl
theorem sc_Residue___contains__ : FnScope ["self", "day"] ["self", "day"] (defScope s_Residue___contains__) := ⟨rfl, rfl, rfl, by decide +kernel, rfl, by decide +kernel, by decide +kernel⟩
theorem ok_Residue_has (T : Txt K mg D) : FnOk P w K mg base CX0 1 D.a_Residue___contains__ D.d_Residue___contains__ ["self", "day"] (spHas D) := by
  refine T.F_Residue___contains__.ok sc_Residue___contains__ (fun vs H Q E h => ?_) (fun cdv A outer s H vs Q E hr h => ?_)
  · obtain ⟨p, a, b, m, rfl, _⟩ := h
    rfl
  · obtain ⟨p, a, b, m, rfl, ⟨dx, hp⟩, n1, n2, k⟩ := h
    refine ⟨_, (pss_one (ps_ret (pe_cmpR op_eq (pe_op op_mod (pe_op op_sub (pv 1) (pe_fld (pv 0) rfl)) (pe_fld (pv 0) rfl)) pe_int (nomark _)))), ?_⟩
    walk_at "rd"
    have kk : ∀ x : Bool, x = decide ((m - a) % b = 0) → Q (.bl x) H := fun x e => e ▸ k
    exact kk _ (by simp)
theorem sc_Residue_first_from : FnScope ["self", "day"] ["self", "day"] (defScope s_Residue_first_from) := ⟨rfl, rfl, rfl, by decide +kernel, rfl, by decide +kernel, by decide +kernel⟩
theorem ok_Residue_from (T : Txt K mg D) : FnOk P w K mg base CX0 1 D.a_Residue_first_from D.d_Residue_first_from ["self", "day"] (spFrom D) := by
  refine T.F_Residue_first_from.ok sc_Residue_first_from (fun vs H Q E h => ?_) (fun cdv A outer s H vs Q E hr h => ?_)
  · obtain ⟨p, a, b, m, rfl, _⟩ := h
    rfl
  · obtain ⟨p, a, b, m, rfl, ⟨dx, hp⟩, n1, n2, k⟩ := h
    refine ⟨_, (pss_one (ps_ret (pe_op op_add (pv 1) (pe_op op_mod (pe_op op_sub (pe_fld (pv 0) rfl) (pv 1)) (pe_fld (pv 0) rfl))))), ?_⟩
    walk_at "rd"
    exact k
theorem sc_Residue_count_in : FnScope ["self", "first", "last", "start"] ["self", "first", "last"] (defScope s_Residue_count_in) := ⟨rfl, rfl, rfl, by decide +kernel, rfl, by decide +kernel, by decide +kernel⟩
theorem ok_Residue_count (T : Txt K mg D) : FnOk P w K mg base CX0 2 D.a_Residue_count_in D.d_Residue_count_in ["self", "first", "last"] (spCount D) := by
  have G_Residue_first_from := ok_Residue_from (P := P) (w := w) (base := base) T
  refine T.F_Residue_count_in.ok sc_Residue_count_in (fun vs H Q E h => ?_) (fun cdv A outer s H vs Q E hr h => ?_)
  · obtain ⟨p, a, b, x, y, rfl, _⟩ := h
    rfl
  · obtain ⟨p, a, b, x, y, rfl, ⟨dx, hp⟩, n1, n2, k⟩ := h
    unfold countOf at k
    refine ⟨_, (pss_cons (ps_set (i := 3) sc_Residue_count_in.nd rfl (Or.inl rfl) (pe_meth (pv 0) (T_cl_Residue T) (T_m_Residue_first_from T) G_Residue_first_from (hr.mono (by decide)) T.b_Residue_first_from .nil pass0 (pa_cons (pv 1) pa_nil)))
      (pss_cons (ps_if (pt_cmpR op_lt (pv 2) (pv 3) (nomark _))
      (pss_one (ps_ret pe_int))
      pss_nil)
      (pss_one (ps_ret (pe_op op_add (pe_op op_fdivW (pe_op op_sub (pv 2) (pv 3)) (pe_fld (pv 0) rfl)) pe_int))))), ?_⟩
    walk_at "rd"
    refine ⟨_, _, _, rfl, hp, ?_⟩
    walk_at "rd"
    refine ⟨p, a, b, x, rfl, ⟨dx, hp⟩, n1, n2, ?_⟩
    walk_at "rd"
    walk_at "br"
    · rename_i hb
      rw [if_pos hb] at k
      walk_at "rd"
      exact k
    · rename_i hb
      rw [if_neg (by omega)] at k
      walk_at "rd"
      exact k
end
end Toy
set_option Elab.async false
set_option linter.all false
set_option maxRecDepth 100000
set_option maxHeartbeats 4000000
namespace Toy
open PySem L2 XR
local macro_rules | `(tactic| walk_at "ne") => `(tactic| first | assumption | (apply Ne.symm; assumption) | exact XR.ne_fresh (by assumption) (by walk_at "hp") | exact Ne.symm (XR.ne_fresh (by assumption) (by walk_at "hp")))
local macro_rules | `(tactic| walk_at "hp") => `(tactic| first | assumption | exact upd_same | (refine Eq.trans (upd_ne ?_) ?_; (walk_at "ne"); walk_at "hp"))
local macro_rules | `(tactic| walk_at "sq") => `(tactic| first | walk_at "hp" | exact SqL.of (by walk_at "hp") | exact SqT.of (by walk_at "hp"))
local macro_rules | `(tactic| walk_at "br") => `(tactic| (refine ite2 ?_ ?_ <;> intro hbr <;> (try simp only [decide_eq_true_eq, decide_eq_false_iff_not, V.int.injEq, V.bl.injEq, V.str.injEq, Bool.not_eq_true, Bool.not_eq_eq_eq_not, Bool.not_true, Bool.not_false, ne_eq, Int.reduceToNat, Int.reducePow, Int.reduceMul, Int.reduceAdd, Int.reduceSub, reduceCtorEq, not_true_eq_false, not_false_eq_true, Int.not_lt, Int.not_le] at hbr)))
local macro_rules | `(tactic| walk_at "side") => `(tactic| first
  | exact ⟨by decide, by decide, by decide⟩
  | exact .inl ⟨by decide, by decide⟩
  | exact .inr ⟨by decide, by decide⟩
  | exact XR.divw (by first | decide | omega) (by first | decide | omega)
  | (show (_ : Int) = _; first | rfl | omega)
  | (show (0 : Int) < _; first | decide | assumption | omega)
  | exact .inl ⟨by omega, by omega⟩
  | exact .inr ⟨by omega, by omega⟩
  | exact .inl (XR.cmul_mod (by decide))
  | exact XR.log_lt (by omega) (by omega)
  | decide
  | (rw [sizeLine_eq]; simp; done)
  | (show 2 ≤ sizeLine; decide) | (show 3 ≤ sizeLine; decide) | (show 4 ≤ sizeLine; decide) | (show 5 ≤ sizeLine; decide) | (show 6 ≤ sizeLine; decide) | (show 7 ≤ sizeLine; decide) | (show 1 ≤ sizeLine; decide) | (show 8 ≤ sizeLine; decide) | (show 0 ≤ sizeLine; decide))
local macro_rules | `(tactic| walk_at "rd1") => `(tactic| first
  | refine ⟨_, rfl, ?_⟩
  | refine ⟨_, _, rfl, rfl, ?_⟩
  | refine ⟨_, _, _, _, rfl, rfl, (by walk_at "sq"), rfl, ?_⟩
  | refine ⟨_, _, _, _, rfl, rfl, (by walk_at "hp"), (by walk_at "hp"), (by walk_at "side"), ?_⟩
  | refine ⟨_, _, rfl, .inl (by walk_at "sq"), ?_⟩
  | refine ⟨_, _, rfl, .inr (by walk_at "sq"), ?_⟩
  | refine ⟨_, _, _, _, _, rfl, (by walk_at "hp"), (by walk_at "cls"), (by walk_at "noat"), rfl, ?_⟩
  | refine ⟨rfl, ?_⟩
  | refine And.intro (by walk_at "side") ?_
  | refine .inl ⟨_, rfl, ?_⟩
  | refine And.intro ⟨_, (by walk_at "sq")⟩ ?_
  | refine ⟨_, _, rfl, (by walk_at "sq"), ?_⟩
  | refine ⟨_, _, rfl, ?_⟩
  | refine .inr ⟨_, rfl, (by walk_at "side"), ?_⟩
  | refine iteT ?_
  | refine iteF ?_)
local macro_rules | `(tactic| walk_at "rd") => `(tactic| repeat (walk_at "rd1"))
local macro_rules | `(tactic| walk_at "nn") => `(tactic| (simp only [Int.reduceToNat, Int.reducePow, Int.reduceMul, Int.reduceAdd, Int.reduceSub, Int.reduceNeg]))
local macro_rules | `(tactic| walk_at "dr") => `(tactic| repeat (first | refine And.intro (by first | assumption | walk_at "pre") ?_ | refine And.intro (by first | decide | omega) ?_))

local macro_rules | `(tactic| walk_at "cls") => `(tactic| exact T_cl_Residue (by assumption))
local macro_rules | `(tactic| walk_at "noat") => `(tactic| first | exact Txt.no_place (by assumption) | exact Txt.no_length (by assumption))
section
variable {P : Program} {w : World} {K : PySem.W.Frag} {mg : Str → Option Value} {base : Heap} {D : Ad}
def BoxAt (H : Hp) (b : Addr) : Prop := ∃ (c : Addr) (cs : List Int) (i big turn seed : Int), H b = some (.lst [.ref c, .int i, .int big, .int turn, .int seed]) ∧ H c = some (.lst (cs.map V.int)) ∧ c ≠ b ∧ 0 ≤ i ∧ 0 ≤ big
theorem BoxAt.new {H : Hp} {b t : Addr} {o : HO} (h : BoxAt H b) (n : H t = none) : BoxAt (L2.upd H t o) b := by
  obtain ⟨c, cs, i, g, t, s, e1, e2, r⟩ := h
  exact ⟨c, cs, i, g, t, s, by rw [upd_ne (ne_of_none e1 n)]; exact e1, by rw [upd_ne (ne_of_none e2 n)]; exact e2, r⟩
theorem BoxAt.ne {H : Hp} {b t : Addr} (h : BoxAt H b) (n : H t = none) : t ≠ b := by
  obtain ⟨c, cs, i, g, t, s, e1, _⟩ := h
  exact (ne_of_none e1 n).symm
theorem BoxAt.same {H H' : Hp} {b : Addr} (h : BoxAt H b) (x : Same H H') : BoxAt H' b := by
  obtain ⟨c, cs, i, g, t, s, e1, e2, r⟩ := h
  exact ⟨c, cs, i, g, t, s, x _ _ e1, x _ _ e2, r⟩
local macro_rules | `(tactic| walk_at "pre") => `(tactic| first | assumption | exact BoxAt.new (by walk_at "pre") (by assumption) | exact BoxAt.same (by walk_at "pre") (by assumption))
/-- a drawn number -/
def Drawn (b : Addr) (H : Hp) (lo hi : Int) (Q : VK) : Prop := ∀ r H', lo ≤ r → r < hi → BoxAt H' b → ExB b H H' → Q (.int r) H'
def spBox (K : PySem.W.Frag) : Sp := fun vs H Q _ => ∃ (a : Addr) (ns : List Int), vs = [.ref a] ∧ SqL K H a (ns.map V.int) ∧ ns.length ≤ 63 ∧ ∀ b H', H b = none → Same H H' → BoxAt H' b → Q (.ref b) H'
def spDraw : Sp := fun vs H Q _ => ∃ (b : Addr) (n : Int), vs = [.ref b, .int n] ∧ BoxAt H b ∧ 0 < n ∧ n < 2 ^ 63 ∧ Drawn b H 0 n Q
def spNum : Sp := fun vs H Q _ => ∃ (x : Int), vs = [.int x] ∧ Q (.bl true) H
def spDay : Sp := fun vs H Q _ => ∃ (b : Addr), vs = [.ref b] ∧ BoxAt H b ∧ Drawn b H (-(10 ^ 17)) (10 ^ 17 + 1) Q
def TupAt (H : Hp) (t : Addr) (a b : Int) : Prop := H t = some (.tup [.int a, .int b])
theorem sc__law_box : FnScope ["_law_script", "_law_seed", "_law_k"] ["_law_script"] (defScope s__law_box) := ⟨rfl, rfl, rfl, by decide +kernel, rfl, by decide +kernel, by decide +kernel⟩
theorem ok__law_box (T : Txt K mg D) : FnOk P w K mg base CX0 1 D.a__law_box D.d__law_box ["_law_script"] (spBox K) := by
  refine T.F__law_box.ok sc__law_box (fun vs H Q E h => ?_) (fun cdv A outer s H vs Q E hr h => ?_)
  · obtain ⟨a, ns, rfl, _⟩ := h
    rfl
  · obtain ⟨a, ns, rfl, hS, hl, k⟩ := h
    refine ⟨_, (pss_cons (ps_set (i := 1) sc__law_box.nd rfl (Or.inl rfl) pe_int)
      (pss_cons (ps_for PassesOwn.never rfl (pi_range1 (by rfl) T.n_range (pa_cons (pe_callB (call_min2 rfl) (by rfl) T.n_min (by decide +kernel) (pa_cons pe_int (pa_cons (pe_callB call_len_seq (by rfl) T.n_len (by decide +kernel) (pa_cons (pv 0) pa_nil)) pa_nil))) pa_nil)) (pg_name (i := 2) sc__law_box.nd rfl (Or.inl rfl))
      (pss_one (ps_set (i := 1) sc__law_box.nd rfl (Or.inl rfl) (pe_op op_add (pv 1) (pe_op op_mul (pe_op op_mod (pe_callTy call_int1 (by rfl) T.n_int (by decide +kernel) (pa_cons (pe_ix ix_list (pv 0) (pv 2) (fun _ _ => rfl)) pa_nil)) pe_int) (pe_op op_add (pv 2) pe_int))))))
      (pss_one (ps_ret (pe_lst (pa_cons (pe_slice sl_list (pv 0) po_none (po_some pe_int)) (pa_cons pe_int (pa_cons pe_int (pa_cons pe_int (pa_cons (pv 1) pa_nil)))))))))), ?_⟩
    walk_at "rd"
    have e : (if ((ns.map V.int).length : Int) < 63 then ((ns.map V.int).length : Int) else 63) = (ns.length : Int) := by
      rw [List.length_map]
      split <;> omega
    rw [e, Int.toNat_natCast]
    refine ⟨by omega, by omega, ?_⟩
    refine for_range (fun i σ H2 => Stop (∃ (v : Option V) (sd : Int), σ = [some (.ref a), some (.int sd), v] ∧ H2 = H)) (.go ⟨none, 0, rfl, rfl⟩) ?_ ?_
    · intro i σ H2 hi hm
      obtain ⟨v, sd, rfl, rfl⟩ := hm.out
      obtain ⟨z, hz⟩ := at_ints (cs := ns) (i := 0 + (i : Int)) (by omega) (by rw [List.length_map]; omega)
      walk_at "rd"
      refine ⟨_, _, _, _, rfl, rfl, hS, hz, ?_⟩
      walk_at "rd"
      exact .go ⟨_, _, rfl, rfl⟩
    · intro σ H2 hm
      obtain ⟨v, sd, rfl, rfl⟩ := hm.out
      walk_at "rd"
      intro p hp
      walk_at "rd"
      intro q hq
      have npq : p ≠ q := XR.ne_fresh hq upd_same
      refine k q _ (none_back (Same.new (Same.refl _) hp) hq) (Same.new (Same.new (Same.refl _) hp) hq) ⟨p, ns.take 63, 0, 0, 0, sd, upd_same, ?_, npq, Int.le_refl _, Int.le_refl _⟩
      rw [upd_ne npq, upd_same]
      exact congrArg (fun l => some (HO.lst l)) (cutV_take ns 63)
theorem sc__law_draw : FnScope ["_law_box_here", "_law_size", "_law_turn", "_law_cell", "_law_rest", "_law_once", "_law_twice"] ["_law_box_here", "_law_size"] (defScope s__law_draw) := ⟨rfl, rfl, rfl, by decide +kernel, rfl, by decide +kernel, by decide +kernel⟩
theorem ok__law_draw (T : Txt K mg D) : FnOk P w K mg base CX0 1 D.a__law_draw D.d__law_draw ["_law_box_here", "_law_size"] spDraw := by
  refine T.F__law_draw.ok sc__law_draw (fun vs H Q E h => ?_) (fun cdv A outer s H vs Q E hr h => ?_)
  · obtain ⟨b, n, rfl, _⟩ := h
    rfl
  · obtain ⟨b, n, rfl, ⟨c, cs, i, big, turn, seed, hb, hc, hcb, hi, hbig⟩, hn, hn2, k⟩ := h
    refine ⟨_, (pss_cons (ps_set (i := 2) sc__law_draw.nd rfl (Or.inl rfl) (pe_ix ix_list (pv 0) pe_int (fun _ _ => rfl)))
      (pss_cons (ps_asg (pe_op op_add (pv 2) pe_int) (pg_sub (pv 0) pe_int set_list))
      (pss_cons (ps_set (i := 3) sc__law_draw.nd rfl (Or.inl rfl) (pe_ix ix_list (pv 0) pe_int (fun _ _ => rfl)))
      (Evl.pss_cut (ps_if (PW.pt (pw_and (pt_cmpR op_eq (pe_ix ix_list (pv 0) pe_int (fun _ _ => rfl)) pe_int (nomark _)) (pw_and1 (pt_cmpR op_lt (pe_ix ix_list (pv 0) pe_int (fun _ _ => rfl)) (pe_callB call_len_seq (by rfl) T.n_len (by decide +kernel) (pa_cons (pe_ix ix_list (pv 0) pe_int (fun _ _ => rfl)) pa_nil)) (nomark _)))))
      (pss_cons (ps_set (i := 3) sc__law_draw.nd rfl (Or.inl rfl) (pe_callTy call_int1 (by rfl) T.n_int (by decide +kernel) (pa_cons (pe_ix ix_list (pe_ix ix_list (pv 0) pe_int (fun _ _ => rfl)) (pe_ix ix_list (pv 0) pe_int (fun _ _ => rfl)) (fun _ _ => rfl)) pa_nil)))
      (pss_cons (ps_asg (pe_op op_add (pe_ix ix_list (pv 0) pe_int (fun _ _ => rfl)) pe_int) (pg_sub (pv 0) pe_int set_list))
      (pss_one (ps_if (pt_cmpR op_ge (pe_callB call_abs (by rfl) T.n_abs (by decide +kernel) (pa_cons (pv 3) pa_nil)) (pe_op op_pow pe_int pe_int) (nomark _))
      (pss_one (ps_asg (pe_callB call_abs (by rfl) T.n_abs (by decide +kernel) (pa_cons (pv 3) pa_nil)) (pg_sub (pv 0) pe_int set_list)))
      pss_nil))))
      pss_nil)
      (pss_cons (ps_if (pt_cmpR op_gt (pe_ix ix_list (pv 0) pe_int (fun _ _ => rfl)) pe_int (nomark _))
      (pss_cons (ps_set (i := 4) sc__law_draw.nd rfl (Or.inl rfl) (pe_callTy call_int1 (by rfl) T.n_int (by decide +kernel) (pa_cons (pe_ix ix_list (pv 0) pe_int (fun _ _ => rfl)) pa_nil)))
      (pss_cons (ps_asg (pe_op op_fdivW (pv 4) (pv 1)) (pg_sub (pv 0) pe_int set_list))
      (pss_one (ps_ret (pe_op op_mod (pv 4) (pv 1))))))
      pss_nil)
      (pss_cons (ps_set (i := 5) sc__law_draw.nd rfl (Or.inl rfl) (pe_op op_mod (pe_callTy call_int1 (by rfl) T.n_int (by decide +kernel) (pa_cons (pe_op op_add (pe_op op_add (pe_op op_mul (pv 3) pe_int) (pe_op op_mul (pv 2) pe_int)) pe_int) pa_nil)) pe_int))
      (pss_cons (ps_set (i := 6) sc__law_draw.nd rfl (Or.inl rfl) (pe_op op_mod (pe_callTy call_int1 (by rfl) T.n_int (by decide +kernel) (pa_cons (pe_op op_add (pe_op op_add (pe_op op_mul (pv 5) (pv 5)) (pe_op op_mul (pv 3) pe_int)) (pe_op op_mul (pv 2) pe_int)) pa_nil)) pe_int))
      (pss_one (ps_ret (pe_op op_mod (pe_callTy call_int1 (by rfl) T.n_int (by decide +kernel) (pa_cons (pe_op op_add (pe_op op_add (pv 6) (pe_op op_mul pe_int (pv 5))) (pe_op op_mul pe_int (pv 3))) pa_nil)) (pv 1))))))))))), ?_⟩
    walk_at "rd"
    refine ⟨fun σ' H' => Stop (∃ (cell i' big' : Int), σ' = [some (.ref b), some (.int n), some (.int turn), some (.int cell), none, none, none] ∧ 0 ≤ i' ∧ 0 ≤ big' ∧ H' b = some (.lst [.ref c, .int i', .int big', .int (turn + 1), .int seed]) ∧ ExB b H H'), ?_, ?_⟩
    · walk_at "rd"
      walk_at "br"
      · walk_at "rd"
        walk_at "br"
        · obtain ⟨z, hz⟩ := at_ints hi (by assumption)
          walk_at "rd"
          refine ⟨_, _, _, _, rfl, rfl, (by walk_at "sq"), hz, ?_⟩
          walk_at "rd"
          walk_at "br"
          · walk_at "rd"
            exact .go ⟨z, i + 1, _, rfl, by omega, (by split <;> omega), upd_same, ((ExB.refl.upd).upd).upd⟩
          · exact .go ⟨z, i + 1, big, rfl, by omega, hbig, upd_same, (ExB.refl.upd).upd⟩
        · exact .go ⟨seed, i, big, rfl, hi, hbig, upd_same, ExB.refl.upd⟩
      · walk_at "rd"
        exact .go ⟨seed, i, big, rfl, hi, hbig, upd_same, ExB.refl.upd⟩
    · intro σ1 H1 hm
      obtain ⟨cell, i1, big1, rfl, hi1, hbig1, hb1, x1⟩ := hm.out
      walk_at "rd"
      walk_at "br"
      · walk_at "rd"
        refine k _ _ (Int.emod_nonneg _ (by omega)) (Int.emod_lt_of_pos _ hn) ?_ x1.upd
        exact ⟨c, cs, i1, big1 / n, _, _, upd_same, by rw [upd_ne hcb]; exact x1 c _ hcb hc, hcb, hi1, Int.ediv_nonneg hbig1 (by omega)⟩
      · walk_at "rd"
        exact k _ _ (Int.emod_nonneg _ (by omega)) (Int.emod_lt_of_pos _ hn) ⟨c, cs, i1, big1, _, _, hb1, x1 c _ hcb hc, hcb, hi1, hbig1⟩ x1
theorem sc__law_is_number : FnScope ["_law_value"] ["_law_value"] (defScope s__law_is_number) := ⟨rfl, rfl, rfl, by decide +kernel, rfl, by decide +kernel, by decide +kernel⟩
theorem ok__law_is_number (T : Txt K mg D) : FnOk P w K mg base CX0 1 D.a__law_is_number D.d__law_is_number ["_law_value"] spNum := by
  refine T.F__law_is_number.ok sc__law_is_number (fun vs H Q E h => ?_) (fun cdv A outer s H vs Q E hr h => ?_)
  · obtain ⟨x, rfl, _⟩ := h
    rfl
  · obtain ⟨x, rfl, k⟩ := h
    refine ⟨_, (pss_one (ps_ret (pe_and (pe_callB call_isi (by rfl) T.n_isinstance (by decide +kernel) (pa_cons (pv 0) (pa_cons (pe_bltn (v := .ty "int") (u := .type "int") (by rfl) T.n_int (by decide +kernel) rfl) pa_nil))) (pe_one (pe_not (pe_callB call_isi (by rfl) T.n_isinstance (by decide +kernel) (pa_cons (pv 0) (pa_cons (pe_bltn (v := .ty "bool") (u := .type "bool") (by rfl) T.n_bool (by decide +kernel) rfl) pa_nil)))))))), ?_⟩
    walk_at "rd"
    refine ⟨_, _, _, _, true, rfl, .ty "int", .base (.int _), kit_ty (by decide +kernel), ?_⟩
    walk_at "rd"
    refine ⟨_, _, _, _, false, rfl, .ty "bool", .base (.int _), kit_ty (by decide +kernel), ?_⟩
    walk_at "rd"
    exact k
theorem okq__law_is_number (T : Txt K mg D) : XR.FnQ P w K mg base 1 D.a__law_is_number D.d__law_is_number ["_law_value"] (fun _ => spNum) := by
  refine XR.okQ T.F__law_is_number sc__law_is_number (fun p vs H Q E h => ?_) (fun cdv A outer s H vs Q p hr h => ?_)
  · obtain ⟨x, rfl, _⟩ := h
    rfl
  · obtain ⟨x, rfl, k⟩ := h
    refine ⟨_, (pss_one (ps_ret (pe_and (pe_callB call_isi (by rfl) T.n_isinstance (by decide +kernel) (pa_cons (pv 0) (pa_cons (pe_bltn (v := .ty "int") (u := .type "int") (by rfl) T.n_int (by decide +kernel) rfl) pa_nil))) (pe_one (pe_not (pe_callB call_isi (by rfl) T.n_isinstance (by decide +kernel) (pa_cons (pv 0) (pa_cons (pe_bltn (v := .ty "bool") (u := .type "bool") (by rfl) T.n_bool (by decide +kernel) rfl) pa_nil)))))))), ?_⟩
    walk_at "rd"
    refine ⟨_, _, _, _, true, rfl, .ty "int", .base (.int _), kit_ty (by decide +kernel), ?_⟩
    walk_at "rd"
    refine ⟨_, _, _, _, false, rfl, .ty "bool", .base (.int _), kit_ty (by decide +kernel), ?_⟩
    walk_at "rd"
    exact k
theorem sc__law_day : FnScope ["_law_box_here", "_law_reach"] ["_law_box_here"] (defScope s__law_day) := ⟨rfl, rfl, rfl, by decide +kernel, rfl, by decide +kernel, by decide +kernel⟩
theorem ok__law_day (T : Txt K mg D) : FnOk P w K mg base CX0 2 D.a__law_day D.d__law_day ["_law_box_here"] spDay := by
  have G__law_draw := ok__law_draw (P := P) (w := w) (base := base) T
  refine T.F__law_day.ok sc__law_day (fun vs H Q E h => ?_) (fun cdv A outer s H vs Q E hr h => ?_)
  · obtain ⟨b, rfl, _⟩ := h
    rfl
  · obtain ⟨b, rfl, hb, k⟩ := h
    refine ⟨_, (pss_cons (ps_set (i := 1) sc__law_day.nd rfl (Or.inl rfl) (pe_ix ix_list (pe_lst (pa_cons pe_int (pa_cons pe_int (pa_cons (pe_op op_pow pe_int pe_int) (pa_cons (pe_op op_pow pe_int pe_int) pa_nil))))) (pe_call G__law_draw (hr.mono (by decide)) (by rfl) T.g__law_draw T.F__law_draw.kp T.b__law_draw .nil pass0 (pa_cons (pv 0) (pa_cons pe_int pa_nil))) (fun _ _ => rfl)))
      (pss_one (ps_ret (pe_op op_sub (pe_call G__law_draw (hr.mono (by decide)) (by rfl) T.g__law_draw T.F__law_draw.kp T.b__law_draw .nil pass0 (pa_cons (pv 0) (pa_cons (pe_op op_add (pe_op op_mul pe_int (pv 1)) pe_int) pa_nil))) (pv 1))))), ?_⟩
    walk_at "rd"
    intro l hl
    have nl : l ≠ b := BoxAt.ne hb hl
    walk_at "rd"
    walk_at "dr"
    intro r1 H1 p1 q1 B1 x1
    have all : ∀ v ∈ ([.int 9, .int 400, .int (10 ^ 9), .int (10 ^ 17)] : List V), ∃ z : Int, v = .int z ∧ 0 < z ∧ z ≤ 10 ^ 17 := by
      intro v hv
      simp only [List.mem_cons, List.not_mem_nil, or_false] at hv
      rcases hv with rfl | rfl | rfl | rfl <;> exact ⟨_, rfl, by decide, by decide⟩
    obtain ⟨v, a, m⟩ := at_lt (xs := [V.int 9, .int 400, .int (10 ^ 9), .int (10 ^ 17)]) p1 q1
    obtain ⟨z, rfl, z1, z2⟩ := all v m
    refine ⟨_, _, _, _, rfl, rfl, SqL.of (x1 l _ nl upd_same), a, ?_⟩
    walk_at "rd"
    walk_at "dr"
    intro r2 H2 p2 q2 B2 x2
    walk_at "rd"
    exact k _ _ (by omega) (by omega) B2 ((ExB.refl.new hl).trans (x1.trans x2))
/-! ### the module's own defs -/
def Cyc (n s : Int) : Prop := 1 ≤ n ∧ n ≤ 60 ∧ 0 ≤ s ∧ s < n
def spPlace : Sp := fun vs H Q _ => ∃ (t : Addr) (n s d : Int), vs = [.ref t, .int d] ∧ TupAt H t n s ∧ 1 ≤ n ∧ n < 2 ^ 63 ∧ Q (.int ((d + s) % n)) H
theorem sc_place_on : FnScope ["cycle", "day", "length", "shift"] ["cycle", "day"] (defScope s_place_on) := ⟨rfl, rfl, rfl, by decide +kernel, rfl, by decide +kernel, by decide +kernel⟩
theorem ok_place_on (T : Txt K mg D) : FnOk P w K mg base CX0 1 D.a_place_on D.d_place_on ["cycle", "day"] spPlace := by
  refine T.F_place_on.ok sc_place_on (fun vs H Q E h => ?_) (fun cdv A outer s H vs Q E hr h => ?_)
  · obtain ⟨t, n, s, d, rfl, _⟩ := h
    rfl
  · obtain ⟨t, n, s, d, rfl, ht, n1, n2, k⟩ := h
    unfold TupAt at ht
    refine ⟨_, (pss_cons (ps_asg (pv 0) (pg_tup (by rfl) (pgs_cons (pg_name (i := 2) sc_place_on.nd rfl (Or.inl rfl)) (pgs_cons (pg_name (i := 3) sc_place_on.nd rfl (Or.inl rfl)) pgs_nil))))
      (pss_one (ps_ret (pe_op op_mod (pe_op op_add (pv 1) (pv 3)) (pv 2))))), ?_⟩
    walk_at "rd"
    exact k
theorem sc__law_shown : FnScope ["_law_cycle", "_law_day_here"] ["_law_cycle", "_law_day_here"] (defScope s__law_shown) := ⟨rfl, rfl, rfl, by decide +kernel, rfl, by decide +kernel, by decide +kernel⟩
theorem ok__law_shown (T : Txt K mg D) : FnOk P w K mg base CX0 1 D.a__law_shown D.d__law_shown ["_law_cycle", "_law_day_here"] spPlace := by
  refine T.F__law_shown.ok sc__law_shown (fun vs H Q E h => ?_) (fun cdv A outer s H vs Q E hr h => ?_)
  · obtain ⟨t, n, s, d, rfl, _⟩ := h
    rfl
  · obtain ⟨t, n, s, d, rfl, ht, n1, n2, k⟩ := h
    unfold TupAt at ht
    refine ⟨_, (pss_one (ps_ret (pe_op op_mod (pe_callTy call_int1 (by rfl) T.n_int (by decide +kernel) (pa_cons (pe_op op_add (pv 1) (pe_ix ix_tup (pv 0) pe_int (fun _ _ => rfl))) pa_nil)) (pe_ix ix_tup (pv 0) pe_int (fun _ _ => rfl))))), ?_⟩
    walk_at "rd"
    exact k
def spMove : Sp := fun vs H Q _ => ∃ (t : Addr) (n s m : Int), vs = [.ref t, .int m] ∧ TupAt H t n s ∧ 1 ≤ n ∧ n < 2 ^ 63 ∧ ∀ q H', H q = none → Same H H' → TupAt H' q n ((s - m) % n) → Q (.ref q) H'
theorem sc_moved : FnScope ["cycle", "days", "length", "shift"] ["cycle", "days"] (defScope s_moved) := ⟨rfl, rfl, rfl, by decide +kernel, rfl, by decide +kernel, by decide +kernel⟩
theorem ok_moved (T : Txt K mg D) : FnOk P w K mg base CX0 1 D.a_moved D.d_moved ["cycle", "days"] spMove := by
  refine T.F_moved.ok sc_moved (fun vs H Q E h => ?_) (fun cdv A outer s H vs Q E hr h => ?_)
  · obtain ⟨t, n, s, d, rfl, _⟩ := h
    rfl
  · obtain ⟨t, n, s, d, rfl, ht, n1, n2, k⟩ := h
    unfold TupAt at ht
    refine ⟨_, (pss_cons (ps_asg (pv 0) (pg_tup (by rfl) (pgs_cons (pg_name (i := 2) sc_moved.nd rfl (Or.inl rfl)) (pgs_cons (pg_name (i := 3) sc_moved.nd rfl (Or.inl rfl)) pgs_nil))))
      (pss_one (ps_ret (pe_tup (pa_cons (pv 2) (pa_cons (pe_op op_mod (pe_op op_sub (pv 3) (pv 1)) (pv 2)) pa_nil)))))), ?_⟩
    walk_at "rd"
    intro q hq
    exact k q _ hq (Same.new (Same.refl H) hq) upd_same
def spWhole : Sp := fun vs H Q _ => ∃ (t u : Addr) (n s m r : Int), vs = [.ref t, .ref u] ∧ TupAt H t n s ∧ TupAt H u m r ∧ 1 ≤ n ∧ n < 2 ^ 63 ∧ Q (.bl (decide (m % n = 0 ∧ r % n = s))) H
theorem sc_is_whole : FnScope ["inner", "outer"] ["inner", "outer"] (defScope s_is_whole) := ⟨rfl, rfl, rfl, by decide +kernel, rfl, by decide +kernel, by decide +kernel⟩
theorem ok_is_whole (T : Txt K mg D) : FnOk P w K mg base CX0 1 D.a_is_whole D.d_is_whole ["inner", "outer"] spWhole := by
  refine T.F_is_whole.ok sc_is_whole (fun vs H Q E h => ?_) (fun cdv A outer s H vs Q E hr h => ?_)
  · obtain ⟨t, u, n, s, m, r, rfl, _⟩ := h
    rfl
  · obtain ⟨t, u, n, s, m, r, rfl, ht, hu, n1, n2, k⟩ := h
    unfold TupAt at ht hu
    refine ⟨_, (pss_one (ps_ret (pe_and (pe_cmpR op_eq (pe_op op_mod (pe_ix ix_tup (pv 1) pe_int (fun _ _ => rfl)) (pe_ix ix_tup (pv 0) pe_int (fun _ _ => rfl))) pe_int (nomark _)) (pe_one (pe_cmpR op_eq (pe_op op_mod (pe_ix ix_tup (pv 1) pe_int (fun _ _ => rfl)) (pe_ix ix_tup (pv 0) pe_int (fun _ _ => rfl))) (pe_ix ix_tup (pv 0) pe_int (fun _ _ => rfl)) (nomark _)))))), ?_⟩
    have kk : ∀ x : Bool, x = decide (m % n = 0 ∧ r % n = s) → Q (.bl x) H := fun x e => e ▸ k
    walk_at "rd"
    walk_at "br"
    · rename_i hb
      walk_at "rd"
      exact kk _ (by simp [hb])
    · rename_i hb
      exact kk _ (by simp [hb])
def spDaysAt (D : Ad) : Sp := fun vs H Q E => ∃ (t : Addr) (n s a : Int), vs = [.ref t, .int a] ∧ TupAt H t n s ∧ 1 ≤ n ∧ n < 2 ^ 63 ∧ (¬(0 ≤ a ∧ a < n) → Wish D.c_OutOfRange [("value", .int a)] H E) ∧ (0 ≤ a → a < n → NewRes D H (a - s) n Q)
theorem sc_days_at : FnScope ["cycle", "place", "length", "shift"] ["cycle", "place"] (defScope s_days_at) := ⟨rfl, rfl, rfl, by decide +kernel, rfl, by decide +kernel, by decide +kernel⟩
theorem ok_days_at (T : Txt K mg D) : FnOk P w K mg base (L2.CX P w) 5 D.a_days_at D.d_days_at ["cycle", "place"] (spDaysAt D) := by
  have G_Residue_init := ok_Residue_init (P := P) (w := w) (base := base) T
  refine T.F_days_at.okX sc_days_at (fun vs H Q E h => ?_) (fun cdv A outer s H vs Q E hr h => ?_)
  · obtain ⟨t, n, s, a, rfl, _⟩ := h
    rfl
  · obtain ⟨t, n, s, a, rfl, ht, n1, n2, kE, kS⟩ := h
    unfold TupAt at ht
    refine ⟨_, (pss_cons (ps_asg (pv 0) (pg_tup (by rfl) (pgs_cons (pg_name (i := 2) sc_days_at.nd rfl (Or.inl rfl)) (pgs_cons (pg_name (i := 3) sc_days_at.nd rfl (Or.inl rfl)) pgs_nil))))
      (pss_cons (ps_if (pt_not (pt_chain op_le op_lt pe_int (pv 1) (pv 2)))
      (pss_one (ps_raise rfl (takes_of rfl rfl rfl rfl) (pmk_oex (T_ox_OutOfRange T) T.m_OutOfRange_init T.xti_OutOfRange (ok_OutOfRange_init T) (hr.mono (by decide)) T.b_OutOfRange_init .nil (fun _ _ _ _ _ _ _ z => z.elim) (by rfl) T.g_OutOfRange (pa_cons (pv 1) pa_nil))))
      pss_nil)
      (pss_one (ps_ret (pe_make (T_mk_Residue T) G_Residue_init (hr.mono (by decide)) (by rfl) T.g_Residue T.b_Residue_init .nil passL (pa_cons (pe_op op_sub (pv 1) (pv 3)) (pa_cons (pv 2) pa_nil))))))), ?_⟩
    walk_at "rd"
    walk_at "br"
    · rename_i hb
      walk_at "rd"
      walk_at "br"
      · rename_i hb2
        walk_at "rd"
        exact mk_ex (by show 1 ≤ 1000; decide) rfl (kE fun z => by omega)
      · rename_i hb2
        walk_at "rd"
        intro r dr nr nd ne
        exact mk2 nr nd ne n2 (fun h => by omega) fun _ H1 x1 s1 => ⟨rfl, kS hb hb2 r H1 nr x1 s1⟩
    · rename_i hb
      walk_at "rd"
      exact mk_ex (by show 1 ≤ 1000; decide) rfl (kE fun z => by omega)
def spTurns : Sp := fun vs H Q _ => ∃ (t : Addr) (n s x y : Int), vs = [.ref t, .int x, .int y] ∧ TupAt H t n s ∧ 1 ≤ n ∧ n < 2 ^ 63 ∧ ∀ H', Same H H' → Q (.int (countOf ((0 - s) % n) n x y)) H'
theorem sc_turns : FnScope ["cycle", "first", "last"] ["cycle", "first", "last"] (defScope s_turns) := ⟨rfl, rfl, rfl, by decide +kernel, rfl, by decide +kernel, by decide +kernel⟩
theorem ok_turns (T : Txt K mg D) : FnOk P w K mg base CX0 6 D.a_turns D.d_turns ["cycle", "first", "last"] spTurns := by
  have G_days_at := ok_days_at (P := P) (w := w) (base := base) T
  have G_Residue_count_in := ok_Residue_count (P := P) (w := w) (base := base) T
  refine T.F_turns.ok sc_turns (fun vs H Q E h => ?_) (fun cdv A outer s H vs Q E hr h => ?_)
  · obtain ⟨t, n, s, x, y, rfl, _⟩ := h
    rfl
  · obtain ⟨t, n, s, x, y, rfl, ht, n1, n2, k⟩ := h
    refine ⟨_, (pss_one (ps_ret (pe_meth (pe_call G_days_at (hr.mono (by decide)) (by rfl) T.g_days_at T.F_days_at.kp T.b_days_at .nil passL (pa_cons (pv 0) (pa_cons pe_int pa_nil))) (T_cl_Residue T) (T_m_Residue_count_in T) G_Residue_count_in (hr.mono (by decide)) T.b_Residue_count_in .nil pass0 (pa_cons (pv 1) (pa_cons (pv 2) pa_nil))))), ?_⟩
    walk_at "rd"
    refine ⟨t, n, s, 0, rfl, ht, n1, n2, fun h => (h ⟨by omega, by omega⟩).elim, fun _ _ r H1 n3 x1 S1 => ?_⟩
    obtain ⟨dx, hp⟩ := id S1
    walk_at "rd"
    refine ⟨_, _, _, rfl, hp, ?_⟩
    walk_at "rd"
    exact ⟨r, _, n, x, y, rfl, S1, n1, n2, k H1 x1⟩
def spSame : Sp := fun vs H Q _ => ∃ b : Bool, vs = [.bl b, .bl b] ∧ Q (.bl true) H
theorem sc__law_says : FnScope ["_law_told", "_law_due"] ["_law_told", "_law_due"] (defScope s__law_says) := ⟨rfl, rfl, rfl, by decide +kernel, rfl, by decide +kernel, by decide +kernel⟩
theorem ok__law_says (T : Txt K mg D) : FnOk P w K mg base CX0 1 D.a__law_says D.d__law_says ["_law_told", "_law_due"] spSame := by
  refine T.F__law_says.ok sc__law_says (fun vs H Q E h => ?_) (fun cdv A outer s H vs Q E hr h => ?_)
  · obtain ⟨b, rfl, _⟩ := h
    rfl
  · obtain ⟨b, rfl, k⟩ := h
    refine ⟨_, (pss_one (ps_ret (pe_and (pe_callB call_isi (by rfl) T.n_isinstance (by decide +kernel) (pa_cons (pv 0) (pa_cons (pe_bltn (v := .ty "bool") (u := .type "bool") (by rfl) T.n_bool (by decide +kernel) rfl) pa_nil))) (pe_one (pe_cmpR op_eq (pv 0) (pv 1) (nomark _)))))), ?_⟩
    have kk : ∀ z : Bool, z = true → Q (.bl z) H := fun z e => e ▸ k
    walk_at "rd"
    refine ⟨_, _, _, _, true, rfl, .ty "bool", .base (.bl _), kit_ty (by decide +kernel), ?_⟩
    walk_at "rd"
    exact kk _ (by simp)
def spIsCyc : Sp := fun vs H Q _ => ∃ (t : Addr) (n s : Int), vs = [.ref t] ∧ TupAt H t n s ∧ Q (.bl true) H
theorem sc__law_is_cycle : FnScope ["_law_told"] ["_law_told"] (defScope s__law_is_cycle) := ⟨rfl, rfl, rfl, by decide +kernel, rfl, by decide +kernel, by decide +kernel⟩
theorem ok__law_is_cycle (T : Txt K mg D) : FnOk P w K mg base CX0 2 D.a__law_is_cycle D.d__law_is_cycle ["_law_told"] spIsCyc := by
  have G__law_is_number := ok__law_is_number (P := P) (w := w) (base := base) T
  refine T.F__law_is_cycle.ok sc__law_is_cycle (fun vs H Q E h => ?_) (fun cdv A outer s H vs Q E hr h => ?_)
  · obtain ⟨t, n, s, rfl, _⟩ := h
    rfl
  · obtain ⟨t, n, s, rfl, ht, k⟩ := h
    unfold TupAt at ht
    refine ⟨_, (pss_cons (ps_if (PW.pt (pw_or (pt_not (pt_val (pe_callB call_isi (by rfl) T.n_isinstance (by decide +kernel) (pa_cons (pv 0) (pa_cons (pe_bltn (v := .ty "tuple") (u := .type "tuple") (by rfl) T.n_tuple (by decide +kernel) rfl) pa_nil))))) (pw_or1 (pt_cmpR op_ne (pe_callB call_len_seq (by rfl) T.n_len (by decide +kernel) (pa_cons (pv 0) pa_nil)) pe_int (nomark _)))))
      (pss_one (ps_ret pe_bl))
      pss_nil)
      (pss_one (ps_ret (pe_and (pe_call G__law_is_number (hr.mono (by decide)) (by rfl) T.g__law_is_number T.F__law_is_number.kp T.b__law_is_number .nil pass0 (pa_cons (pe_ix ix_tup (pv 0) pe_int (fun _ _ => rfl)) pa_nil)) (pe_one (pe_call G__law_is_number (hr.mono (by decide)) (by rfl) T.g__law_is_number T.F__law_is_number.kp T.b__law_is_number .nil pass0 (pa_cons (pe_ix ix_tup (pv 0) pe_int (fun _ _ => rfl)) pa_nil))))))), ?_⟩
    walk_at "rd"
    refine ⟨_, _, _, _, true, rfl, .ty "tuple", .base (.tup ht), kit_ty (by decide +kernel), ?_⟩
    walk_at "rd"
    exact k
theorem sc__law_refused : FnScope ["_law_cycle", "_law_spot", "e"] ["_law_cycle", "_law_spot"] (defScope s__law_refused) := ⟨rfl, rfl, rfl, by decide +kernel, rfl, by decide +kernel, by decide +kernel⟩
theorem ok__law_refused (T : Txt K mg D) : FnOk P w K mg base CX0 8 D.a__law_refused D.d__law_refused ["_law_cycle", "_law_spot"] (fun vs H Q _ => ∃ (t : Addr) (n s a : Int), vs = [.ref t, .int a] ∧ TupAt H t n s ∧ 1 ≤ n ∧ n < 2 ^ 63 ∧ ¬(0 ≤ a ∧ a < n) ∧ ∀ H', Same H H' → Q (.bl true) H') := by
  have G_days_at := ok_days_at (P := P) (w := w) (base := base) T
  have G__law_is_numberq := okq__law_is_number (P := P) (w := w) (base := base) T
  refine T.F__law_refused.ok sc__law_refused (fun vs H Q E h => ?_) (fun cdv A outer s H vs Q E hr h => ?_)
  · obtain ⟨t, n, s, a, rfl, _⟩ := h
    rfl
  · obtain ⟨t, n, s, a, rfl, ht, n1, n2, hna, k⟩ := h
    refine ⟨_, (pss_cons (ps_try_as (i := 2) (Wout := fun _ _ _ _ => False) rfl rfl sc__law_refused.nd rfl rfl ⟨rfl, by decide, Or.inl T.g_ArchiveError⟩ takes0 (fun W pn xe tk _ => (pss_one (ps_expr (pe_callS G_days_at (hr.mono (by decide)) (by rfl) T.g_days_at T.F_days_at.kp T.b_days_at (fun σ => passAt tk σ) (pa_cons (pv 0) (pa_cons (pv 1) pa_nil)))))) (fun a oe cls d pn hz hf => XR.cong_ts (by exact (pss_cons (ps_if (PW.pt (pw_or (pt_not (pt_val (pe_callB (id := "isinstance") (XR.call_isPs hz hf) (by rfl) T.n_isinstance (by decide +kernel) (pa_cons (pv 2) (pa_cons (pe_glob (v := .ref D.c_OutOfRange) (by rfl) T.g_OutOfRange rfl) pa_nil))))) (pw_or1 (pt_val (pe_callB (id := "isinstance") (XR.call_isPTs hz hf) (by rfl) T.n_isinstance (by decide +kernel) (pa_cons (pv 2) (pa_cons (pe_tup (pa_cons (pe_glob (v := .ref D.c_UnknownError) (by rfl) T.g_UnknownError rfl) (pa_cons (pe_glob (v := .ref D.c_TextError) (by rfl) T.g_TextError rfl) (pa_cons (pe_glob (v := .ref D.c_ImpossibleError) (by rfl) T.g_ImpossibleError rfl) pa_nil)))) pa_nil)))))))
      (pss_one (ps_ret pe_bl))
      pss_nil)
      (pss_one (ps_ret (pe_and (XR.pe_callQs G__law_is_numberq (XR.hot_of (hr.mono (by decide))) (by rfl) T.g__law_is_number T.F__law_is_number.kp T.b__law_is_number (pa_cons (XR.pe_pfs hz hf (pv 2)) pa_nil)) (pe_one (pe_cmpR op_eq (XR.pe_pfs hz hf (pv 2)) (pv 1) (nomark _)))))))) (by rfl)))
      (pss_one (ps_ret pe_bl))), ?_⟩
    walk_at "rd"
    refine ⟨t, n, s, a, rfl, ht, n1, n2, fun _ => ?_, fun h1 h2 => (hna ⟨h1, h2⟩).elim⟩
    intro e H1 he x1
    refine ⟨true, T.m_oa, fun _ ea hea => ?_, fun h => by cases h⟩
    walk_at "rd"
    refine ⟨_, e, _, _, _, true, rfl, rfl, by walk_at "hp", T_as_OutOfRange T, rfl, .own _, T.z_oO, ?_⟩
    walk_at "rd"
    intro tp htp
    walk_at "rd"
    refine ⟨_, e, tp, _, _, _, false, rfl, rfl, by walk_at "hp", T_as_OutOfRange T, rfl, upd_same, .cons (.own _) (.cons (.own _) (.cons (.own _) .nil)), XR.kitAny_cons T.z_oU (XR.kitAny_cons T.z_oT (XR.kitAny_cons T.z_oI rfl)), ?_⟩
    walk_at "rd"
    refine ⟨_, e, _, _, rfl, rfl, rfl, by walk_at "hp", T_xf_OutOfRange T, T.e_value, rfl, ?_⟩
    walk_at "rd"
    refine ⟨_, e, _, _, rfl, rfl, rfl, by walk_at "hp", T_xf_OutOfRange T, T.e_value, rfl, ?_⟩
    walk_at "rd"
    have kk : ∀ z : Bool, z = true → Q (.bl z) _ := fun z e => e ▸ k _ (Same.new (o := .tup [.ref D.c_UnknownError, .ref D.c_TextError, .ref D.c_ImpossibleError]) x1 htp)
    exact kk _ (by simp)
end
end Toy
set_option Elab.async false
set_option linter.all false
set_option maxRecDepth 100000
set_option maxHeartbeats 4000000
namespace Toy
open PySem L2 XR
local macro_rules | `(tactic| walk_at "ne") => `(tactic| first | assumption | (apply Ne.symm; assumption) | exact XR.ne_fresh (by assumption) (by walk_at "hp") | exact Ne.symm (XR.ne_fresh (by assumption) (by walk_at "hp")))
local macro_rules | `(tactic| walk_at "hp") => `(tactic| first | assumption | exact upd_same | (refine Eq.trans (upd_ne ?_) ?_; (walk_at "ne"); walk_at "hp"))
local macro_rules | `(tactic| walk_at "sq") => `(tactic| first | walk_at "hp" | exact SqL.of (by walk_at "hp") | exact SqT.of (by walk_at "hp"))
local macro_rules | `(tactic| walk_at "br") => `(tactic| (refine ite2 ?_ ?_ <;> intro hbr <;> (try simp only [decide_eq_true_eq, decide_eq_false_iff_not, V.int.injEq, V.bl.injEq, V.str.injEq, Bool.not_eq_true, Bool.not_eq_eq_eq_not, Bool.not_true, Bool.not_false, ne_eq, Int.reduceToNat, Int.reducePow, Int.reduceMul, Int.reduceAdd, Int.reduceSub, reduceCtorEq, not_true_eq_false, not_false_eq_true, Int.not_lt, Int.not_le] at hbr)))
local macro_rules | `(tactic| walk_at "side") => `(tactic| first
  | exact ⟨by decide, by decide, by decide⟩
  | exact .inl ⟨by decide, by decide⟩
  | exact .inr ⟨by decide, by decide⟩
  | exact XR.divw (by first | decide | omega) (by first | decide | omega)
  | (show (_ : Int) = _; first | rfl | omega)
  | (show (0 : Int) < _; first | decide | assumption | omega)
  | exact .inl ⟨by omega, by omega⟩
  | exact .inr ⟨by omega, by omega⟩
  | exact .inl (XR.cmul_mod (by decide))
  | exact XR.log_lt (by omega) (by omega)
  | decide
  | (rw [sizeLine_eq]; simp; done)
  | (show 2 ≤ sizeLine; decide) | (show 3 ≤ sizeLine; decide) | (show 4 ≤ sizeLine; decide) | (show 5 ≤ sizeLine; decide) | (show 6 ≤ sizeLine; decide) | (show 7 ≤ sizeLine; decide) | (show 1 ≤ sizeLine; decide) | (show 8 ≤ sizeLine; decide) | (show 0 ≤ sizeLine; decide))
local macro_rules | `(tactic| walk_at "rd1") => `(tactic| first
  | refine ⟨_, rfl, ?_⟩
  | refine ⟨_, _, rfl, rfl, ?_⟩
  | refine ⟨_, _, _, _, rfl, rfl, (by walk_at "sq"), rfl, ?_⟩
  | refine ⟨_, _, _, _, rfl, rfl, (by walk_at "hp"), (by walk_at "hp"), (by walk_at "side"), ?_⟩
  | refine ⟨_, _, rfl, .inl (by walk_at "sq"), ?_⟩
  | refine ⟨_, _, rfl, .inr (by walk_at "sq"), ?_⟩
  | refine ⟨_, _, _, _, _, rfl, (by walk_at "hp"), (by walk_at "cls"), (by walk_at "noat"), rfl, ?_⟩
  | refine ⟨rfl, ?_⟩
  | refine And.intro (by walk_at "side") ?_
  | refine .inl ⟨_, rfl, ?_⟩
  | refine And.intro ⟨_, (by walk_at "sq")⟩ ?_
  | refine ⟨_, _, rfl, (by walk_at "sq"), ?_⟩
  | refine ⟨_, _, rfl, ?_⟩
  | refine .inr ⟨_, rfl, (by walk_at "side"), ?_⟩
  | refine iteT ?_
  | refine iteF ?_)
local macro_rules | `(tactic| walk_at "rd") => `(tactic| repeat (walk_at "rd1"))
local macro_rules | `(tactic| walk_at "nn") => `(tactic| (simp only [Int.reduceToNat, Int.reducePow, Int.reduceMul, Int.reduceAdd, Int.reduceSub, Int.reduceNeg]))
local macro_rules | `(tactic| walk_at "dr") => `(tactic| repeat (first | refine And.intro (by first | assumption | walk_at "pre") ?_ | refine And.intro (by first | decide | omega) ?_))

local macro_rules | `(tactic| walk_at "cls") => `(tactic| exact T_cl_Residue (by assumption))
local macro_rules | `(tactic| walk_at "noat") => `(tactic| first | exact Txt.no_place (by assumption) | exact Txt.no_length (by assumption))
local macro_rules | `(tactic| walk_at "pre") => `(tactic| first | assumption | exact BoxAt.new (by walk_at "pre") (by assumption) | exact BoxAt.same (by walk_at "pre") (by assumption))
/-! ### counting days -/
theorem first_at {s n x : Int} (hn : 1 ≤ n) : x + ((0 - s) % n - x) % n = n * ((x - 1 + s) / n + 1) - s := by
  have e1 : ((0 - s) % n - x) % n = (0 - s - x) % n := by rw [Int.sub_emod, Int.emod_emod_of_dvd _ (Int.dvd_refl n), ← Int.sub_emod]
  have h := Int.emod_add_mul_ediv (x - 1 + s) n
  have h0 := Int.emod_nonneg (x - 1 + s) (b := n) (by omega)
  have h1 := Int.emod_lt_of_pos (x - 1 + s) (b := n) (by omega)
  generalize (x - 1 + s) % n = r at *
  generalize (x - 1 + s) / n = q at *
  have e2 : 0 - s - x = (n - 1 - r) + n * (-(q + 1)) := by
    rw [Int.mul_neg, Int.mul_add]
    omega
  have e3 : (0 - s - x) % n = n - 1 - r := by
    rw [e2, Int.add_mul_emod_self_left]
    exact Int.emod_eq_of_lt (by omega) (by omega)
  rw [e1, e3, Int.mul_add]
  omega
theorem count_at {s n x y : Int} (hn : 1 ≤ n) (h : x - 1 ≤ y) : countOf ((0 - s) % n) n x y = (y + s) / n - (x - 1 + s) / n := by
  unfold countOf
  rw [first_at hn]
  have hq := Int.ediv_le_ediv (a := x - 1 + s) (b := y + s) (c := n) (by omega) (by omega)
  generalize hQ : (x - 1 + s) / n = q at *
  have e : y - (n * (q + 1) - s) = (y + s) + n * (-(q + 1)) := by
    rw [Int.mul_neg]
    omega
  have e2 : (y - (n * (q + 1) - s)) / n = (y + s) / n - (q + 1) := by
    rw [e, Int.add_mul_ediv_left _ _ (by omega)]
    omega
  split
  · rename_i hl
    have h3 : (y + s) / n < q + 1 := Int.ediv_lt_of_lt_mul (by omega) (by rw [Int.mul_comm]; omega)
    omega
  · rw [e2]
    omega
theorem count_less {s n x y : Int} (hn : 1 ≤ n) (h : y < x) : countOf ((0 - s) % n) n x y = 0 := by
  unfold countOf
  have h0 := Int.emod_nonneg ((0 - s) % n - x) (b := n) (by omega)
  rw [if_pos (by omega)]
theorem div_step {z n : Int} (hn : 1 ≤ n) : z / n = (z - 1) / n + (if z % n = 0 then 1 else 0) := by
  have a := Int.emod_add_mul_ediv z n
  have a0 := Int.emod_nonneg z (b := n) (by omega)
  have a1 := Int.emod_lt_of_pos z (b := n) (by omega)
  generalize z % n = r at *
  generalize z / n = q at *
  split
  · rename_i hr
    have e : z - 1 = (n - 1) + n * (q - 1) := by rw [Int.mul_sub]; omega
    rw [e, Int.add_mul_ediv_left _ _ (by omega), Int.ediv_eq_zero_of_lt (by omega) (by omega)]
    omega
  · rename_i hr
    have e : z - 1 = (r - 1) + n * q := by omega
    rw [e, Int.add_mul_ediv_left _ _ (by omega), Int.ediv_eq_zero_of_lt (by omega) (by omega)]
    omega
section
variable {P : Program} {w : World} {K : PySem.W.Frag} {mg : Str → Option Value} {base : Heap} {D : Ad}
/-- it gives True, all stands -/
def Yes (H : Hp) (Q : VK) : Prop := ∀ H', Same H H' → Q (.bl true) H'
theorem Yes.at {H H' : Hp} {Q : VK} {z : Bool} (k : Yes H Q) (e : z = true) (x : Same H H') : Q (.bl z) H' := e ▸ k H' x
def spMoveL : Sp := fun vs H Q _ => ∃ (t : Addr) (n s d m : Int), vs = [.ref t, .int d, .int m] ∧ TupAt H t n s ∧ Cyc n s ∧ Yes H Q
theorem sc__law_moved : FnScope ["_law_cycle", "_law_near", "_law_days", "_law_told", "_law_k"] ["_law_cycle", "_law_near", "_law_days"] (defScope s__law_moved) := ⟨rfl, rfl, rfl, by decide +kernel, rfl, by decide +kernel, by decide +kernel⟩
theorem ok__law_moved (T : Txt K mg D) : FnOk P w K mg base CX0 3 D.a__law_moved D.d__law_moved ["_law_cycle", "_law_near", "_law_days"] spMoveL := by
  have G_moved := ok_moved (P := P) (w := w) (base := base) T
  have G__law_is_cycle := ok__law_is_cycle (P := P) (w := w) (base := base) T
  have G__law_shown := ok__law_shown (P := P) (w := w) (base := base) T
  refine T.F__law_moved.ok sc__law_moved (fun vs H Q E h => ?_) (fun cdv A outer s H vs Q E hr h => ?_)
  · obtain ⟨t, n, s, d, m, rfl, _⟩ := h
    rfl
  · obtain ⟨t, n, s, d, m, rfl, ht, ⟨n1, n2, s1, s2⟩, k⟩ := h
    unfold TupAt at ht
    refine ⟨_, (pss_cons (ps_set (i := 3) sc__law_moved.nd rfl (Or.inl rfl) (pe_call G_moved (hr.mono (by decide)) (by rfl) T.g_moved T.F_moved.kp T.b_moved .nil pass0 (pa_cons (pv 0) (pa_cons (pv 2) pa_nil))))
      (pss_cons (ps_if (PW.pt (pw_or (pt_not (pt_val (pe_call G__law_is_cycle (hr.mono (by decide)) (by rfl) T.g__law_is_cycle T.F__law_is_cycle.kp T.b__law_is_cycle .nil pass0 (pa_cons (pv 3) pa_nil)))) (pw_or (pt_cmpR op_ne (pe_ix ix_tup (pv 3) pe_int (fun _ _ => rfl)) (pe_ix ix_tup (pv 0) pe_int (fun _ _ => rfl)) (nomark _)) (pw_or1 (pt_not (pt_chain op_le op_lt pe_int (pe_ix ix_tup (pv 3) pe_int (fun _ _ => rfl)) (pe_ix ix_tup (pv 0) pe_int (fun _ _ => rfl))))))))
      (pss_one (ps_ret pe_bl))
      pss_nil)
      (pss_cons (ps_for PassesOwn.never rfl (pi_range1 (by rfl) T.n_range (pa_cons (pe_ix ix_tup (pv 0) pe_int (fun _ _ => rfl)) pa_nil)) (pg_name (i := 4) sc__law_moved.nd rfl (Or.inl rfl))
      (pss_one (ps_if (pt_cmpR op_ne (pe_call G__law_shown (hr.mono (by decide)) (by rfl) T.g__law_shown T.F__law_shown.kp T.b__law_shown .nil pass0 (pa_cons (pv 3) (pa_cons (pe_op op_add (pe_op op_add (pv 1) (pv 4)) (pv 2)) pa_nil))) (pe_call G__law_shown (hr.mono (by decide)) (by rfl) T.g__law_shown T.F__law_shown.kp T.b__law_shown .nil pass0 (pa_cons (pv 0) (pa_cons (pe_op op_add (pv 1) (pv 4)) pa_nil))) (nomark _))
      (pss_one (ps_ret pe_bl))
      pss_nil)))
      (pss_one (ps_ret pe_bl))))), ?_⟩
    walk_at "rd"
    refine ⟨t, n, s, m, rfl, ht, n1, by omega, fun q H1 nq x1 hq => ?_⟩
    have hq' := hq
    unfold TupAt at hq'
    have ht1 := x1 _ _ ht
    have e0 := Int.emod_nonneg (s - m) (b := n) (by omega)
    have e1 := Int.emod_lt_of_pos (s - m) (b := n) (by omega)
    walk_at "rd"
    refine ⟨q, _, _, rfl, hq, ?_⟩
    walk_at "rd"
    refine ifF (by simp) ?_
    unfold tChain
    walk_at "rd"
    walk_at "br"
    rotate_left
    · rename_i hb
      exact absurd e0 (by omega)
    walk_at "rd"
    walk_at "br"
    · rename_i hb
      exact absurd e1 (by omega)
    walk_at "rd"
    refine ⟨by omega, by omega, ?_⟩
    refine for_range (fun i σ H2 => Stop (∃ (v : Option V), σ = [some (.ref t), some (.int d), some (.int m), some (.ref q), v] ∧ H2 = H1)) (.go ⟨none, rfl, rfl⟩) ?_ ?_
    · intro i σ H2 hi hm
      obtain ⟨v, rfl, rfl⟩ := hm.out
      walk_at "rd"
      refine ⟨q, n, _, _, rfl, hq, n1, by omega, ?_⟩
      walk_at "rd"
      refine ⟨t, n, s, _, rfl, ht1, n1, by omega, ?_⟩
      walk_at "rd"
      refine ifF ?_ ?_
      · have e : (d + (0 + (i : Int)) + m + (s - m) % n) % n = (d + (0 + (i : Int)) + s) % n := by
          rw [Int.add_emod, Int.emod_emod_of_dvd _ (Int.dvd_refl n), ← Int.add_emod, show d + (0 + (i : Int)) + m + (s - m) = d + (0 + (i : Int)) + s by omega]
        simpa using e
      · exact .go ⟨_, rfl, rfl⟩
    · intro σ H2 hm
      obtain ⟨v, rfl, rfl⟩ := hm.out
      walk_at "rd"
      exact k _ x1
def spTurnsL : Sp := fun vs H Q _ => ∃ (t : Addr) (n s x y : Int), vs = [.ref t, .int x, .int y] ∧ TupAt H t n s ∧ Cyc n s ∧ -(10 ^ 18) < x ∧ y < 10 ^ 18 ∧ ∀ H', Same H H' → Q (.int (countOf ((0 - s) % n) n x y)) H'
theorem sc__law_turns : FnScope ["_law_cycle", "_law_first", "_law_last", "_law_head", "_law_tail", "_law_day_here"] ["_law_cycle", "_law_first", "_law_last"] (defScope s__law_turns) := ⟨rfl, rfl, rfl, by decide +kernel, rfl, by decide +kernel, by decide +kernel⟩
theorem ok__law_turns (T : Txt K mg D) : FnOk P w K mg base CX0 3 D.a__law_turns D.d__law_turns ["_law_cycle", "_law_first", "_law_last"] spTurnsL := by
  have G__law_shown := ok__law_shown (P := P) (w := w) (base := base) T
  refine T.F__law_turns.ok sc__law_turns (fun vs H Q E h => ?_) (fun cdv A outer s H vs Q E hr h => ?_)
  · obtain ⟨t, n, s, x, y, rfl, _⟩ := h
    rfl
  · obtain ⟨t, n, s, x, y, rfl, ht, ⟨n1, n2, s1, s2⟩, bx, by_, k⟩ := h
    unfold TupAt at ht
    refine ⟨_, (pss_cons (ps_if (pt_cmpR op_lt (pv 2) (pv 1) (nomark _))
      (pss_one (ps_ret pe_int))
      pss_nil)
      (pss_cons (ps_if (pt_cmpR op_lt (pe_op op_sub (pv 2) (pv 1)) pe_int (nomark _))
      (pss_one (ps_ret (pe_callB call_len_seq (by rfl) T.n_len (by decide +kernel) (pa_cons (pe_lc (own := [("_law_day_here", 5)]) (g := gName 5) (by rfl) sc__law_turns.nd (pi_range2 (by rfl) T.n_range (pa_cons (pv 1) (pa_cons (pe_op op_add (pv 2) pe_int) pa_nil))) (blkOk_by (own := [("_law_day_here", 5)]) (N := ["_law_cycle", "_law_first", "_law_last", "_law_head", "_law_tail", "_law_day_here"]) (sc := defScope s__law_turns) (by decide +kernel)) (fun _ _ _ _ _ => (pg_name (i := 5) sc__law_turns.nd rfl (Or.inl rfl))) (fun _ _ _ _ _ => (pts_one (pt_cmpR op_eq (pe_call G__law_shown (hr.mono (by decide)) (by rfl) T.g__law_shown T.F__law_shown.kp T.b__law_shown .nil pass0 (pa_cons (pv 0) (pa_cons (pv 5) pa_nil))) pe_int (nomark _)))) (fun _ _ _ _ _ => (pv 5))) pa_nil))))
      pss_nil)
      (pss_cons (ps_set (i := 3) sc__law_turns.nd rfl (Or.inl rfl) (pe_op op_add (pv 1) (pe_op op_mod (pe_callTy call_int1 (by rfl) T.n_int (by decide +kernel) (pa_cons (pe_op op_sub (pe_un un_neg (pv 1)) (pe_ix ix_tup (pv 0) pe_int (fun _ _ => rfl))) pa_nil)) (pe_ix ix_tup (pv 0) pe_int (fun _ _ => rfl)))))
      (pss_cons (ps_set (i := 4) sc__law_turns.nd rfl (Or.inl rfl) (pe_op op_sub (pv 2) (pe_call G__law_shown (hr.mono (by decide)) (by rfl) T.g__law_shown T.F__law_shown.kp T.b__law_shown .nil pass0 (pa_cons (pv 0) (pa_cons (pv 2) pa_nil)))))
      (pss_one (ps_ret (pe_op op_add (pe_op op_fdivW (pe_op op_sub (pv 4) (pv 3)) (pe_ix ix_tup (pv 0) pe_int (fun _ _ => rfl))) pe_int))))))), ?_⟩
    walk_at "rd"
    walk_at "br"
    · rename_i hb
      walk_at "rd"
      rw [count_less n1 hb] at k
      exact k H (Same.refl H)
    · rename_i hb
      rw [count_at n1 (by omega)] at k
      walk_at "rd"
      walk_at "br"
      · rename_i hb2
        walk_at "rd"
        refine ⟨⟨by omega, by omega, by omega, by omega⟩, ?_⟩
        intro Dl hD
        refine lc_range (fun i H' => ∃ acc : List V, H' Dl = some (.lst acc) ∧ (acc.length : Int) = (x + (i : Int) - 1 + s) / n - (x - 1 + s) / n ∧ acc.length ≤ i ∧ ∀ q o, q ≠ Dl → H q = some o → H' q = some o)
          ⟨[], upd_same, by simp, Nat.le_refl _, fun q o hq e => by rw [upd_ne hq]; exact e⟩ ?_ ?_
        · rintro i H' hi ⟨acc, e1, e2, e3, ex⟩
          have hi2 : i < 131 := by omega
          have ht2 := ex _ _ (ne_of_none ht hD) ht
          have st := div_step (z := x + (i : Int) + s) n1
          rw [show x + (i : Int) + s - 1 = x + (i : Int) - 1 + s by omega] at st
          walk_at "rd"
          refine ⟨t, n, s, _, rfl, ht2, n1, by omega, ?_⟩
          walk_at "rd"
          walk_at "br"
          · rename_i hz
            rw [if_pos hz] at st
            walk_at "rd"
            refine ⟨acc, e1, by rw [sizeLine_eq]; omega, acc ++ [.int (x + (i : Int))], upd_same, ?_, by rw [List.length_append]; exact Nat.succ_le_succ e3, fun q o hq e => by rw [upd_ne hq]; exact ex q o hq e⟩
            rw [List.length_append, show ((i + 1 : Nat) : Int) = (i : Int) + 1 by omega, show x + ((i : Int) + 1) - 1 + s = x + (i : Int) + s by omega]
            show ((acc.length + 1 : Nat) : Int) = _
            omega
          · rename_i hz
            rw [if_neg hz] at st
            refine ⟨acc, e1, ?_, by omega, ex⟩
            rw [show ((i + 1 : Nat) : Int) = (i : Int) + 1 by omega, show x + ((i : Int) + 1) - 1 + s = x + (i : Int) + s by omega]
            omega
        · rintro H' ⟨acc, e1, e2, e3, ex⟩
          rw [show x + (((y + 1 - x).toNat : Nat) : Int) - 1 + s = y + s by omega] at e2
          walk_at "rd"
          rw [e2]
          exact k H' fun q o e => ex q o (ne_of_none e hD) e
      · rename_i hb2
        walk_at "rd"
        refine ⟨t, n, s, y, rfl, ht, n1, by omega, ?_⟩
        walk_at "rd"
        have e1 := first_at (s := s) (x := x) n1
        have e2 : (-x - s) % n = ((0 - s) % n - x) % n := by
          rw [Int.sub_emod ((0 - s) % n), Int.emod_emod_of_dvd _ (Int.dvd_refl n), ← Int.sub_emod, show 0 - s - x = -x - s by omega]
        have h := Int.emod_add_mul_ediv (y + s) n
        have e3 : y - (y + s) % n - (x + (-x - s) % n) = n * ((y + s) / n - ((x - 1 + s) / n + 1)) := by
          rw [e2, e1, Int.mul_sub]
          omega
        have kk : ∀ z : Int, z = (y + s) / n - (x - 1 + s) / n → Q (.int z) H := fun z e => e ▸ k H (Same.refl H)
        refine kk _ ?_
        show (y - (y + s) % n - (x + (-x - s) % n)) / n + 1 = _
        rw [e3, Int.mul_ediv_cancel_left _ (by omega)]
        omega
def spCounted : Sp := fun vs H Q _ => ∃ (t : Addr) (n s x y : Int), vs = [.ref t, .int x, .int y] ∧ TupAt H t n s ∧ Cyc n s ∧ x - 1 ≤ y ∧ -(10 ^ 18) < x ∧ y < 10 ^ 18 ∧ Yes H Q
theorem sc__law_counted : FnScope ["_law_cycle", "_law_first", "_law_last", "_law_told", "_law_middle", "_law_left", "_law_right", "_law_none"] ["_law_cycle", "_law_first", "_law_last"] (defScope s__law_counted) := ⟨rfl, rfl, rfl, by decide +kernel, rfl, by decide +kernel, by decide +kernel⟩
theorem ok__law_counted (T : Txt K mg D) : FnOk P w K mg base CX0 8 D.a__law_counted D.d__law_counted ["_law_cycle", "_law_first", "_law_last"] spCounted := by
  have G_turns := ok_turns (P := P) (w := w) (base := base) T
  have G__law_turns := ok__law_turns (P := P) (w := w) (base := base) T
  have G__law_is_number := ok__law_is_number (P := P) (w := w) (base := base) T
  refine T.F__law_counted.ok sc__law_counted (fun vs H Q E h => ?_) (fun cdv A outer s H vs Q E hr h => ?_)
  · obtain ⟨t, n, s, x, y, rfl, _⟩ := h
    rfl
  · obtain ⟨t, n, s, x, y, rfl, ht, cy, hxy, bx, by_, k⟩ := h
    obtain ⟨n1, n2, s1, s2⟩ := id cy
    refine ⟨_, (pss_cons (ps_set (i := 3) sc__law_counted.nd rfl (Or.inl rfl) (pe_call G_turns (hr.mono (by decide)) (by rfl) T.g_turns T.F_turns.kp T.b_turns .nil pass0 (pa_cons (pv 0) (pa_cons (pv 1) (pa_cons (pv 2) pa_nil)))))
      (pss_cons (ps_if (PW.pt (pw_or (pt_not (pt_val (pe_call G__law_is_number (hr.mono (by decide)) (by rfl) T.g__law_is_number T.F__law_is_number.kp T.b__law_is_number .nil pass0 (pa_cons (pv 3) pa_nil)))) (pw_or1 (pt_cmpR op_ne (pv 3) (pe_call G__law_turns (hr.mono (by decide)) (by rfl) T.g__law_turns T.F__law_turns.kp T.b__law_turns .nil pass0 (pa_cons (pv 0) (pa_cons (pv 1) (pa_cons (pv 2) pa_nil)))) (nomark _)))))
      (pss_one (ps_ret pe_bl))
      pss_nil)
      (pss_cons (ps_set (i := 4) sc__law_counted.nd rfl (Or.inl rfl) (pe_op op_add (pv 1) (pe_op op_fdivW (pe_op op_sub (pv 2) (pv 1)) pe_int)))
      (pss_cons (ps_set (i := 5) sc__law_counted.nd rfl (Or.inl rfl) (pe_call G_turns (hr.mono (by decide)) (by rfl) T.g_turns T.F_turns.kp T.b_turns .nil pass0 (pa_cons (pv 0) (pa_cons (pv 1) (pa_cons (pv 4) pa_nil)))))
      (pss_cons (ps_set (i := 6) sc__law_counted.nd rfl (Or.inl rfl) (pe_call G_turns (hr.mono (by decide)) (by rfl) T.g_turns T.F_turns.kp T.b_turns .nil pass0 (pa_cons (pv 0) (pa_cons (pe_op op_add (pv 4) pe_int) (pa_cons (pv 2) pa_nil)))))
      (pss_cons (ps_if (PW.pt (pw_or (pt_not (pt_val (pe_call G__law_is_number (hr.mono (by decide)) (by rfl) T.g__law_is_number T.F__law_is_number.kp T.b__law_is_number .nil pass0 (pa_cons (pv 5) pa_nil)))) (pw_or (pt_not (pt_val (pe_call G__law_is_number (hr.mono (by decide)) (by rfl) T.g__law_is_number T.F__law_is_number.kp T.b__law_is_number .nil pass0 (pa_cons (pv 6) pa_nil)))) (pw_or1 (pt_cmpR op_ne (pe_op op_add (pv 5) (pv 6)) (pv 3) (nomark _))))))
      (pss_one (ps_ret pe_bl))
      pss_nil)
      (pss_cons (ps_set (i := 7) sc__law_counted.nd rfl (Or.inl rfl) (pe_call G_turns (hr.mono (by decide)) (by rfl) T.g_turns T.F_turns.kp T.b_turns .nil pass0 (pa_cons (pv 0) (pa_cons (pe_op op_add (pv 2) pe_int) (pa_cons (pv 2) pa_nil)))))
      (pss_one (ps_ret (pe_and (pe_call G__law_is_number (hr.mono (by decide)) (by rfl) T.g__law_is_number T.F__law_is_number.kp T.b__law_is_number .nil pass0 (pa_cons (pv 7) pa_nil)) (pe_one (pe_cmpR op_eq (pv 7) pe_int (nomark _))))))))))))), ?_⟩
    walk_at "rd"
    refine ⟨t, n, s, x, y, rfl, ht, n1, by omega, fun H1 x1 => ?_⟩
    have ht1 := x1 _ _ ht
    walk_at "rd"
    refine ⟨t, n, s, x, y, rfl, ht1, cy, bx, by_, fun H2 x2 => ?_⟩
    have ht2 := x2 _ _ ht1
    walk_at "rd"
    refine ifF (by simp) ?_
    walk_at "rd"
    refine ⟨t, n, s, x, _, rfl, ht2, n1, by omega, fun H3 x3 => ?_⟩
    have ht3 := x3 _ _ ht2
    walk_at "rd"
    refine ⟨t, n, s, _, y, rfl, ht3, n1, by omega, fun H4 x4 => ?_⟩
    have ht4 := x4 _ _ ht3
    walk_at "rd"
    refine ifF ?_ ?_
    · have hm : x - 1 ≤ x + (y - x) / 3 ∧ x + (y - x) / 3 ≤ y := by omega
      have e : countOf ((0 - s) % n) n x (x + (y - x) / 3) + countOf ((0 - s) % n) n (x + (y - x) / 3 + 1) y = countOf ((0 - s) % n) n x y := by
        rw [count_at n1 hm.1, count_at n1 hxy, count_at n1 (by omega), show x + (y - x) / 3 + 1 - 1 + s = x + (y - x) / 3 + s by omega]
        omega
      simpa using e
    walk_at "rd"
    refine ⟨t, n, s, _, y, rfl, ht4, n1, by omega, fun H5 x5 => ?_⟩
    walk_at "rd"
    refine k.at ?_ ((x1.trans x2).trans ((x3.trans x4).trans x5))
    have e := count_less (s := s) (n := n) (x := y + 1) (y := y) n1 (by omega)
    simpa using e
def spWholeL : Sp := fun vs H Q _ => ∃ (t u : Addr) (n s m r : Int), vs = [.ref t, .ref u] ∧ TupAt H t n s ∧ TupAt H u m r ∧ Cyc n s ∧ Cyc m r ∧ Q (.bl (decide (m % n = 0 ∧ r % n = s))) H
/-- the days 0 to 2 m - 1 at which the outer one shows 0 show 0 in the inner one just where the shifts suit -/
theorem suits_at {n s m r : Int} (c1 : Cyc n s) (c2 : Cyc m r) (hm : m % n = 0) : ((-r + s) % n = 0 ↔ r % n = s) := by
  obtain ⟨n1, n2, s1, s2⟩ := c1
  have a := Int.emod_add_mul_ediv r n
  have a0 := Int.emod_nonneg r (b := n) (by omega)
  have a1 := Int.emod_lt_of_pos r (b := n) (by omega)
  generalize r % n = p at *
  generalize r / n = q at *
  have e : -r + s = (s - p) + n * (-q) := by rw [Int.mul_neg]; omega
  rw [e, Int.add_mul_emod_self_left]
  constructor
  · intro h
    by_cases z : p ≤ s
    · rw [Int.emod_eq_of_lt (by omega) (by omega)] at h
      omega
    · have e2 : s - p = (s - p + n) + n * (-1) := by omega
      rw [e2, Int.add_mul_emod_self_left, Int.emod_eq_of_lt (by omega) (by omega)] at h
      omega
  · rintro rfl
    rw [show p - p = 0 by omega]
    exact Int.zero_emod n
theorem sc__law_suits : FnScope ["_law_inner", "_law_outer"] ["_law_inner", "_law_outer"] (defScope s__law_suits) := ⟨rfl, rfl, rfl, by decide +kernel, rfl, by decide +kernel, by decide +kernel⟩
theorem ok__law_suits (T : Txt K mg D) : FnOk P w K mg base CX0 2 D.a__law_suits D.d__law_suits ["_law_inner", "_law_outer"] spWholeL := by
  have G__law_shown := ok__law_shown (P := P) (w := w) (base := base) T
  refine T.F__law_suits.ok sc__law_suits (fun vs H Q E h => ?_) (fun cdv A outer s H vs Q E hr h => ?_)
  · obtain ⟨t, u, n, s, m, r, rfl, _⟩ := h
    rfl
  · obtain ⟨t, u, n, s, m, r, rfl, ht, hu, c1, c2, k⟩ := h
    obtain ⟨n1, n2, s1, s2⟩ := id c1
    have ht' := ht
    unfold TupAt at ht hu
    refine ⟨_, (pss_one (ps_ret (pe_and (pe_cmpR op_eq (pe_op op_mod (pe_callTy call_int1 (by rfl) T.n_int (by decide +kernel) (pa_cons (pe_ix ix_tup (pv 1) pe_int (fun _ _ => rfl)) pa_nil)) (pe_ix ix_tup (pv 0) pe_int (fun _ _ => rfl))) pe_int (nomark _)) (pe_one (pe_cmpR op_eq (pe_call G__law_shown (hr.mono (by decide)) (by rfl) T.g__law_shown T.F__law_shown.kp T.b__law_shown .nil pass0 (pa_cons (pv 0) (pa_cons (pe_un un_neg (pe_ix ix_tup (pv 1) pe_int (fun _ _ => rfl))) pa_nil))) pe_int (nomark _)))))), ?_⟩
    have kk : ∀ x : Bool, x = decide (m % n = 0 ∧ r % n = s) → Q (.bl x) H := fun x e => e ▸ k
    walk_at "rd"
    walk_at "br"
    · rename_i hb
      have q := suits_at c1 c2 hb
      walk_at "rd"
      refine ⟨t, n, s, _, rfl, ht', n1, by omega, ?_⟩
      walk_at "rd"
      exact kk _ (by simp [hb, q])
    · rename_i hb
      exact kk _ (by simp [hb])
/-- the day at which the outer one shows 0 -/
theorem day_of {n s m r d : Int} (c1 : Cyc n s) (c2 : Cyc m r) (hm : m % n = 0) (hd : (d + r) % m = 0) : (d + s) % n = (-r + s) % n := by
  obtain ⟨n1, n2, s1, s2⟩ := c1
  have e1 := Int.emod_add_mul_ediv m n
  have e2 := Int.emod_add_mul_ediv (d + r) m
  rw [hm] at e1
  rw [hd] at e2
  have e3 : d + s = (-r + s) + n * ((m / n) * ((d + r) / m)) := by
    have e4 : n * ((m / n) * ((d + r) / m)) = d + r := by
      rw [← Int.mul_assoc, show n * (m / n) = m by omega]
      omega
    omega
  rw [e3, Int.add_mul_emod_self_left]
theorem sc__law_whole : FnScope ["_law_inner", "_law_outer", "_law_day_here"] ["_law_inner", "_law_outer"] (defScope s__law_whole) := ⟨rfl, rfl, rfl, by decide +kernel, rfl, by decide +kernel, by decide +kernel⟩
theorem ok__law_whole (T : Txt K mg D) : FnOk P w K mg base CX0 2 D.a__law_whole D.d__law_whole ["_law_inner", "_law_outer"] spWholeL := by
  have G__law_shown := ok__law_shown (P := P) (w := w) (base := base) T
  refine T.F__law_whole.ok sc__law_whole (fun vs H Q E h => ?_) (fun cdv A outer s H vs Q E hr h => ?_)
  · obtain ⟨t, u, n, s, m, r, rfl, _⟩ := h
    rfl
  · obtain ⟨t, u, n, s, m, r, rfl, ht, hu, c1, c2, k⟩ := h
    obtain ⟨n1, n2, s1, s2⟩ := id c1
    obtain ⟨m1, m2, r1, r2⟩ := id c2
    have ht' := ht
    have hu' := hu
    unfold TupAt at ht hu
    refine ⟨_, (pss_cons (ps_if (pt_cmpR op_ne (pe_op op_mod (pe_callTy call_int1 (by rfl) T.n_int (by decide +kernel) (pa_cons (pe_ix ix_tup (pv 1) pe_int (fun _ _ => rfl)) pa_nil)) (pe_ix ix_tup (pv 0) pe_int (fun _ _ => rfl))) pe_int (nomark _))
      (pss_one (ps_ret pe_bl))
      pss_nil)
      (pss_cons (ps_for PassesOwn.never rfl (pi_range1 (by rfl) T.n_range (pa_cons (pe_op op_mul pe_int (pe_ix ix_tup (pv 1) pe_int (fun _ _ => rfl))) pa_nil)) (pg_name (i := 2) sc__law_whole.nd rfl (Or.inl rfl))
      (pss_one (ps_if (PW.pt (pw_and (pt_cmpR op_eq (pe_call G__law_shown (hr.mono (by decide)) (by rfl) T.g__law_shown T.F__law_shown.kp T.b__law_shown .nil pass0 (pa_cons (pv 1) (pa_cons (pv 2) pa_nil))) pe_int (nomark _)) (pw_and1 (pt_cmpR op_ne (pe_call G__law_shown (hr.mono (by decide)) (by rfl) T.g__law_shown T.F__law_shown.kp T.b__law_shown .nil pass0 (pa_cons (pv 0) (pa_cons (pv 2) pa_nil))) pe_int (nomark _)))))
      (pss_one (ps_ret pe_bl))
      pss_nil)))
      (pss_one (ps_ret pe_bl)))), ?_⟩
    have kk : ∀ x : Bool, x = decide (m % n = 0 ∧ r % n = s) → Q (.bl x) H := fun x e => e ▸ k
    walk_at "rd"
    walk_at "br"
    · rename_i hb
      walk_at "rd"
      exact kk _ (by simp [hb])
    · rename_i hb
      have hb : m % n = 0 := by omega
      walk_at "rd"
      refine ⟨by omega, by omega, ?_⟩
      refine for_range (fun i σ H2 => Stop (∃ (v : Option V), σ = [some (.ref t), some (.ref u), v] ∧ H2 = H ∧ ((-r) % m < (i : Int) → r % n = s))) (.go ⟨none, rfl, rfl, fun z => by have := Int.emod_nonneg (-r) (b := m) (by omega); omega⟩) ?_ ?_
      · intro i σ H2 hi hm
        obtain ⟨v, rfl, rfl, q⟩ := hm.out
        walk_at "rd"
        refine ⟨u, m, r, _, rfl, hu', m1, by omega, ?_⟩
        walk_at "rd"
        have sa := suits_at c1 c2 hb
        walk_at "br"
        · rename_i hz
          have dd := day_of (s := s) c1 c2 hb hz
          walk_at "rd"
          refine ⟨t, n, s, _, rfl, ht', n1, by omega, ?_⟩
          walk_at "rd"
          walk_at "br"
          · rename_i hw
            walk_at "rd"
            refine kk _ (decide_eq_false fun z => hw ?_).symm
            rw [dd]
            exact sa.mpr z.2
          · rename_i hw
            exact .go ⟨_, rfl, rfl, fun _ => sa.mp (dd ▸ Decidable.not_not.mp hw)⟩
        · rename_i hz
          walk_at "rd"
          refine .go ⟨_, rfl, rfl, fun z => q ?_⟩
          by_cases y : (-r) % m < (i : Int)
          · exact y
          · exfalso
            have e : (i : Int) = (-r) % m := by omega
            apply hz
            rw [e, show 0 + -r % m + r = -r % m + r by omega, Int.add_emod, Int.emod_emod_of_dvd _ (Int.dvd_refl m), ← Int.add_emod, show -r + r = 0 by omega]
            exact Int.zero_emod m
      · intro σ H2 hm
        obtain ⟨v, rfl, rfl, q⟩ := hm.out
        walk_at "rd"
        exact kk _ (by simp [hb, q (by have := Int.emod_lt_of_pos (-r) (b := m) (by omega); omega)])
end
end Toy
set_option Elab.async false
set_option linter.all false
set_option maxRecDepth 100000
set_option maxHeartbeats 4000000
namespace Toy
open PySem L2 XR
local macro_rules | `(tactic| walk_at "ne") => `(tactic| first | assumption | (apply Ne.symm; assumption) | exact XR.ne_fresh (by assumption) (by walk_at "hp") | exact Ne.symm (XR.ne_fresh (by assumption) (by walk_at "hp")))
local macro_rules | `(tactic| walk_at "hp") => `(tactic| first | assumption | exact upd_same | (refine Eq.trans (upd_ne ?_) ?_; (walk_at "ne"); walk_at "hp"))
local macro_rules | `(tactic| walk_at "sq") => `(tactic| first | walk_at "hp" | exact SqL.of (by walk_at "hp") | exact SqT.of (by walk_at "hp"))
local macro_rules | `(tactic| walk_at "br") => `(tactic| (refine ite2 ?_ ?_ <;> intro hbr <;> (try simp only [decide_eq_true_eq, decide_eq_false_iff_not, V.int.injEq, V.bl.injEq, V.str.injEq, Bool.not_eq_true, Bool.not_eq_eq_eq_not, Bool.not_true, Bool.not_false, ne_eq, Int.reduceToNat, Int.reducePow, Int.reduceMul, Int.reduceAdd, Int.reduceSub, reduceCtorEq, not_true_eq_false, not_false_eq_true, Int.not_lt, Int.not_le] at hbr)))
local macro_rules | `(tactic| walk_at "side") => `(tactic| first
  | exact ⟨by decide, by decide, by decide⟩
  | exact .inl ⟨by decide, by decide⟩
  | exact .inr ⟨by decide, by decide⟩
  | exact XR.divw (by first | decide | omega) (by first | decide | omega)
  | (show (_ : Int) = _; first | rfl | omega)
  | (show (0 : Int) < _; first | decide | assumption | omega)
  | exact .inl ⟨by omega, by omega⟩
  | exact .inr ⟨by omega, by omega⟩
  | exact .inl (XR.cmul_mod (by decide))
  | exact XR.log_lt (by omega) (by omega)
  | decide
  | (rw [sizeLine_eq]; simp; done)
  | (show 2 ≤ sizeLine; decide) | (show 3 ≤ sizeLine; decide) | (show 4 ≤ sizeLine; decide) | (show 5 ≤ sizeLine; decide) | (show 6 ≤ sizeLine; decide) | (show 7 ≤ sizeLine; decide) | (show 1 ≤ sizeLine; decide) | (show 8 ≤ sizeLine; decide) | (show 0 ≤ sizeLine; decide))
local macro_rules | `(tactic| walk_at "rd1") => `(tactic| first
  | refine ⟨_, rfl, ?_⟩
  | refine ⟨_, _, rfl, rfl, ?_⟩
  | refine ⟨_, _, _, _, rfl, rfl, (by walk_at "sq"), rfl, ?_⟩
  | refine ⟨_, _, _, _, rfl, rfl, (by walk_at "hp"), (by walk_at "hp"), (by walk_at "side"), ?_⟩
  | refine ⟨_, _, rfl, .inl (by walk_at "sq"), ?_⟩
  | refine ⟨_, _, rfl, .inr (by walk_at "sq"), ?_⟩
  | refine ⟨_, _, _, _, _, rfl, (by walk_at "hp"), (by walk_at "cls"), (by walk_at "noat"), rfl, ?_⟩
  | refine ⟨rfl, ?_⟩
  | refine And.intro (by walk_at "side") ?_
  | refine .inl ⟨_, rfl, ?_⟩
  | refine And.intro ⟨_, (by walk_at "sq")⟩ ?_
  | refine ⟨_, _, rfl, (by walk_at "sq"), ?_⟩
  | refine ⟨_, _, rfl, ?_⟩
  | refine .inr ⟨_, rfl, (by walk_at "side"), ?_⟩
  | refine iteT ?_
  | refine iteF ?_)
local macro_rules | `(tactic| walk_at "rd") => `(tactic| repeat (walk_at "rd1"))
local macro_rules | `(tactic| walk_at "nn") => `(tactic| (simp only [Int.reduceToNat, Int.reducePow, Int.reduceMul, Int.reduceAdd, Int.reduceSub, Int.reduceNeg]))
local macro_rules | `(tactic| walk_at "dr") => `(tactic| repeat (first | refine And.intro (by first | assumption | walk_at "pre") ?_ | refine And.intro (by first | decide | omega) ?_))

local macro_rules | `(tactic| walk_at "cls") => `(tactic| exact T_cl_Residue (by assumption))
local macro_rules | `(tactic| walk_at "noat") => `(tactic| first | exact Txt.no_place (by assumption) | exact Txt.no_length (by assumption))
local macro_rules | `(tactic| walk_at "pre") => `(tactic| first | assumption | exact BoxAt.new (by walk_at "pre") (by assumption) | exact BoxAt.same (by walk_at "pre") (by assumption))
section
variable {P : Program} {w : World} {K : PySem.W.Frag} {mg : Str → Option Value} {base : Heap} {D : Ad}
theorem has_at {n s x a : Int} (hn : 1 ≤ n) (h0 : 0 ≤ a) (h1 : a < n) : ((x - (a - s) % n) % n = 0 ↔ (x + s) % n = a) := by
  have e : (x - (a - s) % n) % n = (x + s - a) % n := by
    rw [Int.sub_emod, Int.emod_emod_of_dvd _ (Int.dvd_refl n), ← Int.sub_emod, show x - (a - s) = x + s - a by omega]
  rw [e]
  have b := Int.emod_add_mul_ediv (x + s) n
  have b0 := Int.emod_nonneg (x + s) (b := n) (by omega)
  have b1 := Int.emod_lt_of_pos (x + s) (b := n) (by omega)
  generalize (x + s) % n = p at *
  generalize (x + s) / n = q at *
  have e2 : x + s - a = (p - a) + n * q := by omega
  rw [e2, Int.add_mul_emod_self_left]
  constructor
  · intro h
    by_cases z : a ≤ p
    · rw [Int.emod_eq_of_lt (by omega) (by omega)] at h
      omega
    · have e3 : p - a = (p - a + n) + n * (-1) := by omega
      rw [e3, Int.add_mul_emod_self_left, Int.emod_eq_of_lt (by omega) (by omega)] at h
      omega
  · rintro rfl
    rw [show p - p = 0 by omega]
    exact Int.zero_emod n
def shownL (n s x : Int) (i : Nat) : List V := (List.range i).map fun (j : Nat) => V.int ((x + (j : Int) + s) % n)
theorem shown_next {n s x : Int} {i : Nat} : shownL n s x i ++ [.int ((x + (i : Int) + s) % n)] = shownL n s x (i + 1) := by
  unfold shownL
  rw [List.range_succ, List.map_append]
  rfl
theorem shown_at {n s x : Int} {i k : Nat} (h : i < k) : atI (shownL n s x k) (i : Int) = some (.int ((x + (i : Int) + s) % n)) := by
  refine atI_nat ?_
  unfold shownL
  rw [List.getElem?_map, List.getElem?_range h]
  rfl
def spPlaces : Sp := fun vs H Q _ => ∃ (t : Addr) (n s x a : Int), vs = [.ref t, .int x, .int a] ∧ TupAt H t n s ∧ Cyc n s ∧ Yes H Q
theorem sc__law_places : FnScope ["_law_cycle", "_law_near", "_law_spot", "_law_size", "_law_shown_here", "_law_k", "_law_told", "_law_one", "_law_days", "_law_bad"] ["_law_cycle", "_law_near", "_law_spot"] (defScope s__law_places) := ⟨rfl, rfl, rfl, by decide +kernel, rfl, by decide +kernel, by decide +kernel⟩
theorem ok__law_places (T : Txt K mg D) : FnOk P w K mg base CX0 9 D.a__law_places D.d__law_places ["_law_cycle", "_law_near", "_law_spot"] spPlaces := by
  have G_place_on := ok_place_on (P := P) (w := w) (base := base) T
  have G__law_is_number := ok__law_is_number (P := P) (w := w) (base := base) T
  have G__law_shown := ok__law_shown (P := P) (w := w) (base := base) T
  have G_days_at := ok_days_at (P := P) (w := w) (base := base) T
  have G_Residue___contains__ := ok_Residue_has (P := P) (w := w) (base := base) T
  have G__law_refused := ok__law_refused (P := P) (w := w) (base := base) T
  refine T.F__law_places.ok sc__law_places (fun vs H Q E h => ?_) (fun cdv A outer s H vs Q E hr h => ?_)
  · obtain ⟨t, n, s, x, a, rfl, _⟩ := h
    rfl
  · obtain ⟨t, n, s, x, a, rfl, ht, ⟨n1, n2, s1, s2⟩, k⟩ := h
    have htt := ht
    unfold TupAt at ht
    refine ⟨_, (pss_cons (ps_set (i := 3) sc__law_places.nd rfl (Or.inl rfl) (pe_ix ix_tup (pv 0) pe_int (fun _ _ => rfl)))
      (pss_cons (ps_set (i := 4) sc__law_places.nd rfl (Or.inl rfl) (pe_lst pa_nil))
      (pss_cons (ps_for PassesOwn.never rfl (pi_range1 (by rfl) T.n_range (pa_cons (pe_op op_mul pe_int (pv 3)) pa_nil)) (pg_name (i := 5) sc__law_places.nd rfl (Or.inl rfl))
      (pss_cons (ps_set (i := 6) sc__law_places.nd rfl (Or.inl rfl) (pe_call G_place_on (hr.mono (by decide)) (by rfl) T.g_place_on T.F_place_on.kp T.b_place_on .nil pass0 (pa_cons (pv 0) (pa_cons (pe_op op_add (pv 1) (pv 5)) pa_nil))))
      (pss_cons (ps_if (PW.pt (pw_or (pt_not (pt_val (pe_call G__law_is_number (hr.mono (by decide)) (by rfl) T.g__law_is_number T.F__law_is_number.kp T.b__law_is_number .nil pass0 (pa_cons (pv 6) pa_nil)))) (pw_or1 (pt_cmpR op_ne (pv 6) (pe_call G__law_shown (hr.mono (by decide)) (by rfl) T.g__law_shown T.F__law_shown.kp T.b__law_shown .nil pass0 (pa_cons (pv 0) (pa_cons (pe_op op_add (pv 1) (pv 5)) pa_nil))) (nomark _)))))
      (pss_one (ps_ret pe_bl))
      pss_nil)
      (pss_one (ps_expr (pe_bm PySem.F.plainAttrs_list PySem.F.slot_list_append PySem.F.type_list_append mt_append (pv 4) (pa_cons (pe_call G__law_shown (hr.mono (by decide)) (by rfl) T.g__law_shown T.F__law_shown.kp T.b__law_shown .nil pass0 (pa_cons (pv 0) (pa_cons (pe_op op_add (pv 1) (pv 5)) pa_nil))) pa_nil)))))))
      (pss_cons (ps_for PassesOwn.never rfl (pi_list (pe_lst (pa_cons pe_int (pa_cons (pe_op op_sub (pv 3) pe_int) (pa_cons (pe_op op_mod (pe_callTy call_int1 (by rfl) T.n_int (by decide +kernel) (pa_cons (pv 2) pa_nil)) (pv 3)) pa_nil))))) (pg_name (i := 7) sc__law_places.nd rfl (Or.inl rfl))
      (pss_cons (ps_set (i := 8) sc__law_places.nd rfl (Or.inl rfl) (pe_call G_days_at (hr.mono (by decide)) (by rfl) T.g_days_at T.F_days_at.kp T.b_days_at .nil passL (pa_cons (pv 0) (pa_cons (pv 7) pa_nil))))
      (pss_cons (ps_if (PW.pt (pw_or (pt_not (pt_val (pe_callB call_isi (by rfl) T.n_isinstance (by decide +kernel) (pa_cons (pv 8) (pa_cons (pe_glob (v := .ref D.c_Residue) (by rfl) T.g_Residue rfl) pa_nil))))) (pw_or (pt_not (pt_val (pe_call G__law_is_number (hr.mono (by decide)) (by rfl) T.g__law_is_number T.F__law_is_number.kp T.b__law_is_number .nil pass0 (pa_cons (pe_fld (pv 8) rfl) pa_nil)))) (pw_or1 (pt_not (pt_val (pe_call G__law_is_number (hr.mono (by decide)) (by rfl) T.g__law_is_number T.F__law_is_number.kp T.b__law_is_number .nil pass0 (pa_cons (pe_fld (pv 8) rfl) pa_nil))))))))
      (pss_one (ps_ret pe_bl))
      pss_nil)
      (pss_cons (ps_if (PW.pt (pw_or (pt_cmpR op_ne (pe_fld (pv 8) rfl) (pv 3) (nomark _)) (pw_or1 (pt_not (pt_chain op_le op_lt pe_int (pe_fld (pv 8) rfl) (pv 3))))))
      (pss_one (ps_ret pe_bl))
      pss_nil)
      (pss_one (ps_for PassesOwn.never rfl (pi_range1 (by rfl) T.n_range (pa_cons (pe_op op_mul pe_int (pv 3)) pa_nil)) (pg_name (i := 5) sc__law_places.nd rfl (Or.inl rfl))
      (pss_one (ps_if (pt_cmpR op_ne (pe_cmpR (XR.op_in_own (T_o_Residue___contains__ T) G_Residue___contains__ (hr.mono (by decide)) T.b_Residue___contains__ pass0) (pe_op op_add (pv 1) (pv 5)) (pv 8) rfl) (pe_cmpR op_eq (pe_ix ix_list (pv 4) (pv 5) (fun _ _ => rfl)) (pv 7) (nomark _)) (nomark _))
      (pss_one (ps_ret pe_bl))
      pss_nil))))))))
      (pss_cons (ps_for PassesOwn.never rfl (pi_list (pe_lst (pa_cons (pe_un un_neg pe_int) (pa_cons (pv 3) (pa_cons (pe_op op_add (pv 3) (pe_callB call_abs (by rfl) T.n_abs (by decide +kernel) (pa_cons (pv 2) pa_nil))) (pa_cons (pe_op op_sub (pe_un un_neg pe_int) (pe_callB call_abs (by rfl) T.n_abs (by decide +kernel) (pa_cons (pv 2) pa_nil))) pa_nil)))))) (pg_name (i := 9) sc__law_places.nd rfl (Or.inl rfl))
      (pss_one (ps_if (pt_not (pt_val (pe_call G__law_refused (hr.mono (by decide)) (by rfl) T.g__law_refused T.F__law_refused.kp T.b__law_refused .nil pass0 (pa_cons (pv 0) (pa_cons (pv 9) pa_nil)))))
      (pss_one (ps_ret pe_bl))
      pss_nil)))
      (pss_one (ps_ret pe_bl))))))), ?_⟩
    walk_at "rd"
    intro l hl
    walk_at "rd"
    refine ⟨by omega, by omega, ?_⟩
    refine for_range (fun i σ H2 => Stop (∃ (v1 v2 : Option V), σ = [some (.ref t), some (.int x), some (.int a), some (.int n), some (.ref l), v1, v2, none, none, none] ∧ H2 l = some (.lst (shownL n s x i)) ∧ ∀ q o, q ≠ l → H q = some o → H2 q = some o)) (.go ⟨none, none, rfl, upd_same, fun q o hq e => by rw [upd_ne hq]; exact e⟩) ?_ ?_
    · intro i σ H2 hi hm
      obtain ⟨v1, v2, rfl, e1, ex⟩ := hm.out
      have ht2 := ex _ _ (ne_of_none ht hl) ht
      walk_at "rd"
      refine ⟨t, n, s, _, rfl, ht2, n1, by omega, ?_⟩
      walk_at "rd"
      refine ⟨t, n, s, _, rfl, ht2, n1, by omega, ?_⟩
      walk_at "rd"
      refine ifF (by simp) ?_
      walk_at "rd"
      refine ⟨.inl ⟨rfl, _, SqL.of e1⟩, ?_⟩
      walk_at "rd"
      refine ⟨t, n, s, _, rfl, ht2, n1, by omega, ?_⟩
      walk_at "rd"
      refine ⟨l, _, _, rfl, rfl, e1, ?_, ?_⟩
      · unfold shownL
        rw [List.length_map, List.length_range, sizeLine_eq]
        omega
      · refine .go ⟨_, _, rfl, ?_, fun q o hq e => by rw [upd_ne hq]; exact ex q o hq e⟩
        rw [upd_same, show (0 + (i : Int)) = (i : Int) by omega]
        exact congrArg (fun z => some (HO.lst z)) shown_next
    · intro σ H2 hm
      obtain ⟨v1, v2, rfl, e1, ex⟩ := hm.out
      have x2 : Same H H2 := fun q o e => ex q o (ne_of_none e hl) e
      have ht2 := x2 _ _ ht
      walk_at "rd"
      intro l2 hl2
      walk_at "rd"
      have all : ∀ v ∈ ([.int 0, .int (n - 1), .int (a % n)] : List V), ∃ z : Int, v = .int z ∧ 0 ≤ z ∧ z < n := by
        intro v hv
        have a0 := Int.emod_nonneg a (b := n) (by omega)
        have a1 := Int.emod_lt_of_pos a (b := n) (by omega)
        simp only [List.mem_cons, List.not_mem_nil, or_false] at hv
        rcases hv with rfl | rfl | rfl <;> exact ⟨_, rfl, by omega, by omega⟩
      generalize hL : ([.int 0, .int (n - 1), .int (a % n)] : List V) = L at all
      have hl3 : (L2.upd H2 l2 (.lst L)) l2 = some (.lst L) := upd_same
      have z2 := Same.new (o := .lst L) (Same.refl H2) hl2
      refine for_list (K := K) (a := l2) (xs := L) (fun i σ H3 => Stop (∃ (v1 v2 v3 v4 : Option V), σ = [some (.ref t), some (.int x), some (.int a), some (.int n), some (.ref l), v1, v2, v3, v4, none] ∧ Same (L2.upd H2 l2 (.lst L)) H3))
        (.go ⟨_, _, _, _, rfl, hL ▸ Same.refl _⟩) (fun i σ H3 _ h => by obtain ⟨_, _, _, _, _, y⟩ := h.out; exact SqL.of (y _ _ hl3)) ?_ ?_
      · intro i y σ H3 hi hm
        obtain ⟨v1, v2, v3, v4, rfl, x3⟩ := hm.out
        obtain ⟨one, rfl, o1, o2⟩ := all y (List.mem_of_getElem? hi)
        have ht3 := x3 _ _ (z2 _ _ ht2)
        have e3 := x3 _ _ (z2 _ _ e1)
        walk_at "rd"
        refine ⟨t, n, s, one, rfl, ht3, n1, by omega, fun h => (h ⟨o1, o2⟩).elim, fun _ _ r H4 n4 x4 S4 => ?_⟩
        obtain ⟨dx, h4⟩ := id S4
        have e4 := x4 _ _ e3
        walk_at "rd"
        refine ⟨_, _, _, _, true, rfl, .own D.c_Residue, T_ty_Residue T h4, T.z_Residue, ?_⟩
        walk_at "rd"
        refine ifF (by simp) ?_
        unfold tChain
        walk_at "rd"
        have b0 := Int.emod_nonneg (one - s) (b := n) (by omega)
        have b1 := Int.emod_lt_of_pos (one - s) (b := n) (by omega)
        walk_at "br"
        rotate_left
        · rename_i hb
          exact absurd b0 (by omega)
        walk_at "rd"
        walk_at "br"
        · rename_i hb
          exact absurd b1 (by omega)
        walk_at "rd"
        refine ⟨by omega, by omega, ?_⟩
        refine for_range (fun j σ H5 => Stop (∃ v5, σ = [some (.ref t), some (.int x), some (.int a), some (.int n), some (.ref l), v5, v2, some (.int one), some (.ref r), none] ∧ H5 = H4)) (.go ⟨_, rfl, rfl⟩) ?_ ?_
        · intro j σ H5 hj hm
          obtain ⟨v5, rfl, rfl⟩ := hm.out
          walk_at "rd"
          refine ⟨_, _, _, rfl, h4, r, _, n, _, rfl, S4, n1, by omega, ?_⟩
          walk_at "rd"
          refine ⟨_, _, _, _, rfl, rfl, SqL.of e4, (by rw [Int.zero_add]; exact shown_at (by omega)), ?_⟩
          walk_at "rd"
          have q := has_at (s := s) (x := x + (j : Int)) n1 o1 o2
          refine ifF (by simpa using q) ?_
          exact .go ⟨_, rfl, rfl⟩
        · intro σ H5 hm
          obtain ⟨v5, rfl, rfl⟩ := hm.out
          walk_at "rd"
          exact .go ⟨_, _, _, _, rfl, x3.trans x4⟩
      · intro σ H3 hm
        obtain ⟨v1, v2, v3, v4, rfl, x3⟩ := hm.out
        have x3' := x2.trans (z2.trans x3)
        walk_at "rd"
        intro l5 hl5
        walk_at "rd"
        have a0 : 0 ≤ (if a < 0 then -a else a) := by split <;> omega
        have all5 : ∀ v ∈ ([.int (-1), .int n, .int (n + (if a < 0 then -a else a)), .int (-1 - (if a < 0 then -a else a))] : List V), ∃ z : Int, v = .int z ∧ ¬(0 ≤ z ∧ z < n) := by
          intro v hv
          simp only [List.mem_cons, List.not_mem_nil, or_false] at hv
          rcases hv with rfl | rfl | rfl | rfl <;> exact ⟨_, rfl, by omega⟩
        generalize hL5 : ([.int (-1), .int n, .int (n + (if a < 0 then -a else a)), .int (-1 - (if a < 0 then -a else a))] : List V) = L5 at all5
        have hl6 : (L2.upd H3 l5 (.lst L5)) l5 = some (.lst L5) := upd_same
        have z5 := Same.new (o := .lst L5) (Same.refl H3) hl5
        refine for_list (K := K) (a := l5) (xs := L5) (fun i σ H4 => Stop (∃ (v5 : Option V), σ = [some (.ref t), some (.int x), some (.int a), some (.int n), some (.ref l), v1, v2, v3, v4, v5] ∧ Same (L2.upd H3 l5 (.lst L5)) H4))
          (.go ⟨_, rfl, hL5 ▸ Same.refl _⟩) (fun i σ H4 _ h => by obtain ⟨_, _, y⟩ := h.out; exact SqL.of (y _ _ hl6)) ?_ ?_
        · intro i y σ H4 hi hm
          obtain ⟨v5, rfl, x4⟩ := hm.out
          obtain ⟨z, rfl, o⟩ := all5 y (List.mem_of_getElem? hi)
          walk_at "rd"
          refine ⟨t, n, s, z, rfl, x4 _ _ (z5 _ _ (x3' _ _ ht)), n1, by omega, o, fun H5 x5 => ?_⟩
          walk_at "rd"
          exact .go ⟨_, rfl, x4.trans x5⟩
        · intro σ H4 hm
          obtain ⟨v5, rfl, x4⟩ := hm.out
          walk_at "rd"
          exact k _ (x3'.trans (z5.trans x4))
def spBounds : Sp := fun vs H Q _ => ∃ (b : Addr), vs = [.ref b] ∧ BoxAt H b ∧ ∀ t H' lo hi, 1 ≤ lo → lo ≤ 60 → 1 ≤ hi → hi ≤ 60 → BoxAt H' b → ExB b H H' → t ≠ b → TupAt H' t lo hi → Q (.ref t) H'
theorem sc__law_bounds : FnScope ["_law_box_here", "_law_least", "_law_wide", "_law_more"] ["_law_box_here"] (defScope s__law_bounds) := ⟨rfl, rfl, rfl, by decide +kernel, rfl, by decide +kernel, by decide +kernel⟩
theorem ok__law_bounds (T : Txt K mg D) : FnOk P w K mg base CX0 2 D.a__law_bounds D.d__law_bounds ["_law_box_here"] spBounds := by
  have G__law_draw := ok__law_draw (P := P) (w := w) (base := base) T
  refine T.F__law_bounds.ok sc__law_bounds (fun vs H Q E h => ?_) (fun cdv A outer s H vs Q E hr h => ?_)
  · obtain ⟨b, rfl, _⟩ := h
    rfl
  · obtain ⟨b, rfl, hb, k⟩ := h
    refine ⟨_, (pss_cons (ps_set (i := 1) sc__law_bounds.nd rfl (Or.inl rfl) (pe_op op_add pe_int (pe_call G__law_draw (hr.mono (by decide)) (by rfl) T.g__law_draw T.F__law_draw.kp T.b__law_draw .nil pass0 (pa_cons (pv 0) (pa_cons pe_int pa_nil)))))
      (pss_cons (ps_set (i := 2) sc__law_bounds.nd rfl (Or.inl rfl) (pe_call G__law_draw (hr.mono (by decide)) (by rfl) T.g__law_draw T.F__law_draw.kp T.b__law_draw .nil pass0 (pa_cons (pv 0) (pa_cons pe_int pa_nil))))
      (pss_cons (ps_set (i := 3) sc__law_bounds.nd rfl (Or.inl rfl) (pe_op op_sub (pe_call G__law_draw (hr.mono (by decide)) (by rfl) T.g__law_draw T.F__law_draw.kp T.b__law_draw .nil pass0 (pa_cons (pv 0) (pa_cons pe_int pa_nil))) pe_int))
      (Evl.pss_cut (ps_if (pt_cmpR op_eq (pv 2) pe_int (nomark _))
      (pss_one (ps_set (i := 3) sc__law_bounds.nd rfl (Or.inl rfl) (pe_call G__law_draw (hr.mono (by decide)) (by rfl) T.g__law_draw T.F__law_draw.kp T.b__law_draw .nil pass0 (pa_cons (pv 0) (pa_cons pe_int pa_nil)))))
      pss_nil)
      (pss_one (ps_ret (pe_tup (pa_cons (pv 1) (pa_cons (pe_callB (call_max2 rfl) (by rfl) T.n_max (by decide +kernel) (pa_cons pe_int (pa_cons (pe_callB (call_min2 rfl) (by rfl) T.n_min (by decide +kernel) (pa_cons pe_int (pa_cons (pe_op op_add (pv 1) (pv 3)) pa_nil))) pa_nil))) pa_nil))))))))), ?_⟩
    walk_at "rd"
    walk_at "dr"
    intro r1 H1 p1 q1 B1 x1
    walk_at "rd"
    walk_at "dr"
    intro r2 H2 p2 q2 B2 x2
    walk_at "rd"
    walk_at "dr"
    intro r3 H3 p3 q3 B3 x3
    walk_at "rd"
    refine ⟨fun σ' H' => Stop (∃ m, σ' = [some (.ref b), some (.int (1 + r1)), some (.int r2), some (.int m)] ∧ BoxAt H' b ∧ ExB b H H'), ?_, fun σ4 H4 hm => ?_⟩
    · walk_at "rd"
      walk_at "br"
      · walk_at "rd"
        walk_at "dr"
        intro r4 H4 p4 q4 B4 x4
        walk_at "rd"
        exact .go ⟨r4, rfl, B4, ((x1.trans x2).trans x3).trans x4⟩
      · walk_at "rd"
        exact .go ⟨_, rfl, B3, (x1.trans x2).trans x3⟩
    · obtain ⟨m, rfl, B4, x4⟩ := hm.out
      walk_at "rd1"
      walk_at "rd1"
      walk_at "rd1"
      walk_at "rd1"
      refine ⟨60, 1 + r1 + m, rfl, ?_⟩
      refine ⟨1, _, rfl, ?_⟩
      walk_at "rd"
      intro t ht
      have e1 := min_if 60 (1 + r1 + m)
      have e2 := max_if 1 (if 1 + r1 + m < 60 then 1 + r1 + m else 60)
      refine k t _ _ _ (by omega) (by omega) ?_ ?_ (B4.new ht) (x4.new ht) (B4.ne ht) upd_same
      · show 1 ≤ (if (if 1 + r1 + m < 60 then 1 + r1 + m else 60) > 1 then (if 1 + r1 + m < 60 then 1 + r1 + m else 60) else 1)
        rw [e2, e1]
        omega
      · show (if (if 1 + r1 + m < 60 then 1 + r1 + m else 60) > 1 then (if 1 + r1 + m < 60 then 1 + r1 + m else 60) else 1) ≤ 60
        rw [e2, e1]
        omega
def spCycles : Sp := fun vs H Q _ => ∃ (b : Addr), vs = [.ref b] ∧ BoxAt H b ∧ ∀ l t u H' n s m r, Cyc n s → Cyc m r → BoxAt H' b → ExB b H H' → l ≠ b → t ≠ b → u ≠ b → H' l = some (.lst [.ref t, .ref u]) → TupAt H' t n s → TupAt H' u m r → Q (.ref l) H'
theorem sc__law_cycles : FnScope ["_law_box_here", "_law_size", "_law_shift", "_law_way", "_law_other", "_law_second"] ["_law_box_here"] (defScope s__law_cycles) := ⟨rfl, rfl, rfl, by decide +kernel, rfl, by decide +kernel, by decide +kernel⟩
theorem ok__law_cycles (T : Txt K mg D) : FnOk P w K mg base CX0 2 D.a__law_cycles D.d__law_cycles ["_law_box_here"] spCycles := by
  have G__law_draw := ok__law_draw (P := P) (w := w) (base := base) T
  refine T.F__law_cycles.ok sc__law_cycles (fun vs H Q E h => ?_) (fun cdv A outer s H vs Q E hr h => ?_)
  · obtain ⟨b, rfl, _⟩ := h
    rfl
  · obtain ⟨b, rfl, hb, k⟩ := h
    refine ⟨_, (pss_cons (ps_set (i := 1) sc__law_cycles.nd rfl (Or.inl rfl) (pe_op op_add pe_int (pe_call G__law_draw (hr.mono (by decide)) (by rfl) T.g__law_draw T.F__law_draw.kp T.b__law_draw .nil pass0 (pa_cons (pv 0) (pa_cons (pe_ix ix_list (pe_lst (pa_cons pe_int (pa_cons pe_int pa_nil))) (pe_call G__law_draw (hr.mono (by decide)) (by rfl) T.g__law_draw T.F__law_draw.kp T.b__law_draw .nil pass0 (pa_cons (pv 0) (pa_cons pe_int pa_nil))) (fun _ _ => rfl)) pa_nil)))))
      (pss_cons (ps_set (i := 2) sc__law_cycles.nd rfl (Or.inl rfl) (pe_call G__law_draw (hr.mono (by decide)) (by rfl) T.g__law_draw T.F__law_draw.kp T.b__law_draw .nil pass0 (pa_cons (pv 0) (pa_cons (pv 1) pa_nil))))
      (pss_cons (ps_set (i := 3) sc__law_cycles.nd rfl (Or.inl rfl) (pe_call G__law_draw (hr.mono (by decide)) (by rfl) T.g__law_draw T.F__law_draw.kp T.b__law_draw .nil pass0 (pa_cons (pv 0) (pa_cons pe_int pa_nil))))
      (pss_cons (ps_set (i := 4) sc__law_cycles.nd rfl (Or.inl rfl) (pe_op op_add pe_int (pe_call G__law_draw (hr.mono (by decide)) (by rfl) T.g__law_draw T.F__law_draw.kp T.b__law_draw .nil pass0 (pa_cons (pv 0) (pa_cons pe_int pa_nil)))))
      (Evl.pss_cut (ps_if (pt_cmpR op_gt (pv 3) pe_int (nomark _))
      (pss_one (ps_set (i := 4) sc__law_cycles.nd rfl (Or.inl rfl) (pe_op op_mul (pv 1) (pe_op op_add pe_int (pe_call G__law_draw (hr.mono (by decide)) (by rfl) T.g__law_draw T.F__law_draw.kp T.b__law_draw .nil pass0 (pa_cons (pv 0) (pa_cons (pe_op op_fdivW pe_int (pv 1)) pa_nil)))))))
      pss_nil)
      (pss_cons (ps_set (i := 5) sc__law_cycles.nd rfl (Or.inl rfl) (pe_call G__law_draw (hr.mono (by decide)) (by rfl) T.g__law_draw T.F__law_draw.kp T.b__law_draw .nil pass0 (pa_cons (pv 0) (pa_cons (pv 4) pa_nil))))
      (Evl.pss_cut (ps_if (pt_cmpR op_eq (pv 3) pe_int (nomark _))
      (pss_one (ps_set (i := 5) sc__law_cycles.nd rfl (Or.inl rfl) (pe_op op_add (pv 2) (pe_op op_mul (pv 1) (pe_call G__law_draw (hr.mono (by decide)) (by rfl) T.g__law_draw T.F__law_draw.kp T.b__law_draw .nil pass0 (pa_cons (pv 0) (pa_cons (pe_op op_fdivW (pv 4) (pv 1)) pa_nil)))))))
      pss_nil)
      (pss_one (ps_ret (pe_lst (pa_cons (pe_tup (pa_cons (pv 1) (pa_cons (pv 2) pa_nil))) (pa_cons (pe_tup (pa_cons (pv 4) (pa_cons (pv 5) pa_nil))) pa_nil)))))))))))), ?_⟩
    walk_at "rd"
    intro l hl
    have nl : l ≠ b := BoxAt.ne hb hl
    walk_at "rd"
    walk_at "dr"
    intro r1 H1 p1 q1 B1 x1
    have all : ∀ v ∈ ([.int 7, .int 60] : List V), ∃ z : Int, v = .int z ∧ 0 < z ∧ z ≤ 60 := by
      intro v hv
      simp only [List.mem_cons, List.not_mem_nil, or_false] at hv
      rcases hv with rfl | rfl <;> exact ⟨_, rfl, by decide, by decide⟩
    obtain ⟨v, a, mm⟩ := at_lt (xs := [V.int 7, .int 60]) p1 q1
    obtain ⟨z, rfl, z1, z2⟩ := all v mm
    refine ⟨_, _, _, _, rfl, rfl, SqL.of (x1 l _ nl upd_same), a, ?_⟩
    walk_at "rd"
    walk_at "dr"
    intro r2 H2 p2 q2 B2 x2
    walk_at "rd"
    walk_at "dr"
    intro s H3 p3 q3 B3 x3
    walk_at "rd"
    walk_at "dr"
    intro way H4 p4 q4 B4 x4
    walk_at "rd"
    walk_at "dr"
    intro r5 H5 p5 q5 B5 x5
    have y5 := (ExB.refl.new hl).trans ((x1.trans x2).trans ((x3.trans x4).trans x5))
    walk_at "rd"
    refine ⟨fun σ' H' => Stop (∃ m, σ' = [some (.ref b), some (.int (1 + r2)), some (.int s), some (.int way), some (.int m), none] ∧ BoxAt H' b ∧ ExB b H H' ∧ 1 ≤ m ∧ m ≤ 60 ∧ (way > 1 → ∃ e, 1 ≤ e ∧ m = (1 + r2) * e)), ?_, fun σ6 H6 hm => ?_⟩
    · walk_at "rd"
      walk_at "br"
      · walk_at "rd"
        have hp : 1 ≤ 60 / (1 + r2) := Int.le_ediv_of_mul_le (by omega) (by omega)
        have hq : 60 / (1 + r2) ≤ 60 := Int.ediv_le_self _ (by omega)
        refine ⟨by omega, by omega, fun e H6 p6 q6 B6 x6 => ?_⟩
        have e1 : 0 < (1 + r2) * (1 + e) := Int.mul_pos (by omega) (by omega)
        have e2 : (1 + r2) * (1 + e) ≤ (1 + r2) * (60 / (1 + r2)) := Int.mul_le_mul_of_nonneg_left (by omega) (by omega)
        have e3 : (1 + r2) * (60 / (1 + r2)) ≤ 60 := Int.mul_ediv_self_le (by omega)
        walk_at "rd"
        exact .go ⟨(1 + r2) * (1 + e), rfl, B6, y5.trans x6, by omega, by omega, fun _ => ⟨1 + e, by omega, rfl⟩⟩
      · rename_i hw
        exact .go ⟨1 + r5, rfl, B5, y5, by omega, by omega, fun h => absurd h (by omega)⟩
    · obtain ⟨m, rfl, B6, x6, m1, m2, me⟩ := hm.out
      walk_at "rd"
      walk_at "dr"
      intro r H7 p7 q7 B7 x7
      refine ⟨fun σ' H' => Stop (∃ r', σ' = [some (.ref b), some (.int (1 + r2)), some (.int s), some (.int way), some (.int m), some (.int r')] ∧ BoxAt H' b ∧ ExB b H H' ∧ 0 ≤ r' ∧ r' < m), ?_, fun σ8 H8 hm => ?_⟩
      · walk_at "rd"
        walk_at "br"
        · rename_i hw
          obtain ⟨e, f1, rfl⟩ := me (by omega)
          have hd : (1 + r2) * e / (1 + r2) = e := Int.mul_ediv_cancel_left _ (by omega)
          have hle : (1 + r2) * e / (1 + r2) ≤ (1 + r2) * e := Int.ediv_le_self _ (by omega)
          walk_at "rd"
          refine ⟨by omega, fun f H8 p8 q8 B8 x8 => ?_⟩
          rw [hd] at q8
          have g1 : (1 + r2) * (f + 1) ≤ (1 + r2) * e := Int.mul_le_mul_of_nonneg_left (by omega) (by omega)
          have g2 : 0 ≤ (1 + r2) * f := Int.mul_nonneg (by omega) p8
          rw [Int.mul_add] at g1
          walk_at "rd"
          exact .go ⟨s + (1 + r2) * f, rfl, B8, (x6.trans x7).trans x8, by omega, by omega⟩
        · exact .go ⟨r, rfl, B7, x6.trans x7, p7, q7⟩
      · obtain ⟨r', rfl, B8, x8, g1, g2⟩ := hm.out
        walk_at "rd"
        intro t ht
        walk_at "rd"
        intro u hu
        walk_at "rd"
        intro l2 hl2
        have B9 := (B8.new (o := .tup [.int (1 + r2), .int s]) ht)
        have B10 := (B9.new (o := .tup [.int m, .int r']) hu)
        have ntu : t ≠ u := ne_of_none upd_same hu
        have htl : t ≠ l2 := ne_of_none (by rw [upd_ne ntu]; exact upd_same) hl2
        have hul : u ≠ l2 := ne_of_none upd_same hl2
        refine k l2 t u _ (1 + r2) s m r' ⟨by omega, by omega, by omega, by omega⟩ ⟨by omega, by omega, by omega, by omega⟩ (B10.new hl2) (((x8.new ht).new hu).new hl2) (B10.ne hl2) (B8.ne ht) (B9.ne hu) upd_same ?_ ?_
        · unfold TupAt
          rw [upd_ne htl, upd_ne ntu]
          exact upd_same
        · unfold TupAt
          rw [upd_ne hul]
          exact upd_same
end
end Toy
set_option Elab.async false
set_option linter.all false
set_option maxRecDepth 100000
set_option maxHeartbeats 4000000
namespace Toy
open PySem L2 XR
local macro_rules | `(tactic| walk_at "ne") => `(tactic| first | assumption | (apply Ne.symm; assumption) | exact XR.ne_fresh (by assumption) (by walk_at "hp") | exact Ne.symm (XR.ne_fresh (by assumption) (by walk_at "hp")))
local macro_rules | `(tactic| walk_at "hp") => `(tactic| first | assumption | exact upd_same | (refine Eq.trans (upd_ne ?_) ?_; (walk_at "ne"); walk_at "hp"))
local macro_rules | `(tactic| walk_at "sq") => `(tactic| first | walk_at "hp" | exact SqL.of (by walk_at "hp") | exact SqT.of (by walk_at "hp"))
local macro_rules | `(tactic| walk_at "br") => `(tactic| (refine ite2 ?_ ?_ <;> intro hbr <;> (try simp only [decide_eq_true_eq, decide_eq_false_iff_not, V.int.injEq, V.bl.injEq, V.str.injEq, Bool.not_eq_true, Bool.not_eq_eq_eq_not, Bool.not_true, Bool.not_false, ne_eq, Int.reduceToNat, Int.reducePow, Int.reduceMul, Int.reduceAdd, Int.reduceSub, reduceCtorEq, not_true_eq_false, not_false_eq_true, Int.not_lt, Int.not_le] at hbr)))
local macro_rules | `(tactic| walk_at "side") => `(tactic| first
  | exact ⟨by decide, by decide, by decide⟩
  | exact .inl ⟨by decide, by decide⟩
  | exact .inr ⟨by decide, by decide⟩
  | exact XR.divw (by first | decide | omega) (by first | decide | omega)
  | (show (_ : Int) = _; first | rfl | omega)
  | (show (0 : Int) < _; first | decide | assumption | omega)
  | exact .inl ⟨by omega, by omega⟩
  | exact .inr ⟨by omega, by omega⟩
  | exact .inl (XR.cmul_mod (by decide))
  | exact XR.log_lt (by omega) (by omega)
  | decide
  | (rw [sizeLine_eq]; simp; done)
  | (show 2 ≤ sizeLine; decide) | (show 3 ≤ sizeLine; decide) | (show 4 ≤ sizeLine; decide) | (show 5 ≤ sizeLine; decide) | (show 6 ≤ sizeLine; decide) | (show 7 ≤ sizeLine; decide) | (show 1 ≤ sizeLine; decide) | (show 8 ≤ sizeLine; decide) | (show 0 ≤ sizeLine; decide))
local macro_rules | `(tactic| walk_at "rd1") => `(tactic| first
  | refine ⟨_, rfl, ?_⟩
  | refine ⟨_, _, rfl, rfl, ?_⟩
  | refine ⟨_, _, _, _, rfl, rfl, (by walk_at "sq"), rfl, ?_⟩
  | refine ⟨_, _, _, _, rfl, rfl, (by walk_at "hp"), (by walk_at "hp"), (by walk_at "side"), ?_⟩
  | refine ⟨_, _, rfl, .inl (by walk_at "sq"), ?_⟩
  | refine ⟨_, _, rfl, .inr (by walk_at "sq"), ?_⟩
  | refine ⟨_, _, _, _, _, rfl, (by walk_at "hp"), (by walk_at "cls"), (by walk_at "noat"), rfl, ?_⟩
  | refine ⟨rfl, ?_⟩
  | refine And.intro (by walk_at "side") ?_
  | refine .inl ⟨_, rfl, ?_⟩
  | refine And.intro ⟨_, (by walk_at "sq")⟩ ?_
  | refine ⟨_, _, rfl, (by walk_at "sq"), ?_⟩
  | refine ⟨_, _, rfl, ?_⟩
  | refine .inr ⟨_, rfl, (by walk_at "side"), ?_⟩
  | refine iteT ?_
  | refine iteF ?_)
local macro_rules | `(tactic| walk_at "rd") => `(tactic| repeat (walk_at "rd1"))
local macro_rules | `(tactic| walk_at "nn") => `(tactic| (simp only [Int.reduceToNat, Int.reducePow, Int.reduceMul, Int.reduceAdd, Int.reduceSub, Int.reduceNeg]))
local macro_rules | `(tactic| walk_at "dr") => `(tactic| repeat (first | refine And.intro (by first | assumption | walk_at "pre") ?_ | refine And.intro (by first | decide | omega) ?_))

local macro_rules | `(tactic| walk_at "cls") => `(tactic| exact T_cl_Residue (by assumption))
local macro_rules | `(tactic| walk_at "noat") => `(tactic| first | exact Txt.no_place (by assumption) | exact Txt.no_length (by assumption))
local macro_rules | `(tactic| walk_at "pre") => `(tactic| first | assumption | exact BoxAt.new (by walk_at "pre") (by assumption) | exact BoxAt.same (by walk_at "pre") (by assumption))
section
variable {P : Program} {w : World} {K : PySem.W.Frag} {mg : Str → Option Value} {base : Heap} {D : Ad}
def cycRow (n : Int) : List (Int × Int) := (List.range n.toNat).map fun (j : Nat) => (n, (j : Int))
def cycs (lo : Int) : Nat → List (Int × Int)
  | 0 => []
  | k + 1 => cycs lo k ++ cycRow (lo + (k : Int))
/-- new tuples with these pairs -/
def PairsAt (H : Hp) (vs : List V) (cs : List (Int × Int)) : Prop := Paired (fun v c => ∃ t, v = .ref t ∧ TupAt H t c.1 c.2) vs cs
theorem PairsAt.mono {H H' : Hp} (h : ∀ t a b, TupAt H t a b → TupAt H' t a b) : ∀ {vs : List V} {cs : List (Int × Int)}, PairsAt H vs cs → PairsAt H' vs cs
  | _, _, .nil => .nil
  | _, _, .cons ⟨t, e, x⟩ r => .cons ⟨t, e, h _ _ _ x⟩ (PairsAt.mono h r)
theorem TupAt.put {H : Hp} {Dl tp t : Addr} {l l' : List V} {o : HO} {a b : Int} (hD : H Dl = some (.lst l)) (ht : H tp = none) (x : TupAt H t a b) : TupAt (L2.upd (L2.upd H tp o) Dl (.lst l')) t a b := by
  unfold TupAt at *
  have n1 : t ≠ Dl := fun z => by rw [z, hD] at x; cases x
  rw [upd_ne n1, upd_ne (ne_of_none x ht)]
  exact x
def spAll : Sp := fun vs H Q _ => ∃ (lo hi : Int), vs = [.int lo, .int hi] ∧ 1 ≤ lo ∧ lo ≤ 60 ∧ 1 ≤ hi ∧ hi ≤ 60 ∧ ∀ l H' vs, H l = none → Same H H' → H' l = some (.lst vs) → PairsAt H' vs (cycs lo (hi + 1 - lo).toNat) → Q (.ref l) H'
theorem sc_all_cycles : FnScope ["least", "most", "length", "shift"] ["least", "most"] (defScope s_all_cycles) := ⟨rfl, rfl, rfl, by decide +kernel, rfl, by decide +kernel, by decide +kernel⟩
theorem ok_all_cycles (T : Txt K mg D) : FnOk P w K mg base CX0 1 D.a_all_cycles D.d_all_cycles ["least", "most"] spAll := by
  refine T.F_all_cycles.ok sc_all_cycles (fun vs H Q E h => ?_) (fun cdv A outer s H vs Q E hr h => ?_)
  · obtain ⟨lo, hi, rfl, _⟩ := h
    rfl
  · obtain ⟨lo, hi, rfl, l1, l2, h1, h2, k⟩ := h
    refine ⟨_, (pss_one (ps_ret (pe_lc2 (own := [("length", 2), ("shift", 3)]) (vs1 := [3]) (g := gName 2) (g1 := gName 3) (tt := tYes) (tt1 := tYes) (by rfl) sc_all_cycles.nd (pi_range2 (by rfl) T.n_range (pa_cons (pv 0) (pa_cons (pe_op op_add (pv 1) pe_int) pa_nil))) (blkOk_by (own := [("length", 2), ("shift", 3)]) (N := ["least", "most", "length", "shift"]) (sc := defScope s_all_cycles) (by decide +kernel)) (by decide) (fun _ _ _ _ _ => (pg_name (i := 2) sc_all_cycles.nd rfl (Or.inl rfl))) (fun _ _ _ _ _ => pts_nil) (fun _ _ _ _ _ => (pi_range1 (by rfl) T.n_range (pa_cons (pv 2) pa_nil))) (fun _ _ _ _ _ => (pg_name (i := 3) sc_all_cycles.nd rfl (Or.inl rfl))) (fun _ _ _ _ _ => pts_nil) (fun _ _ _ _ _ => (pe_tup (pa_cons (pv 2) (pa_cons (pv 3) pa_nil))))))), ?_⟩
    walk_at "rd"
    refine ⟨⟨by omega, by omega, by omega, by omega⟩, ?_⟩
    intro Dl hD
    refine XR.turn_range (fun i H' => ∃ vs, H' Dl = some (.lst vs) ∧ vs.length ≤ 60 * i ∧ PairsAt H' vs (cycs lo i) ∧ ∀ q o, q ≠ Dl → H q = some o → H' q = some o)
      ⟨[], upd_same, Nat.le_refl _, .nil, fun q o hq e => by rw [upd_ne hq]; exact e⟩ ?_ ?_
    · rintro i H' hi2 ⟨vs, e1, e2, e3, ex⟩
      have hi3 : i < 61 := by omega
      walk_at "rd"
      refine ⟨by omega, by omega, ?_⟩
      refine XR.turn_range (fun j H' => ∃ vs, H' Dl = some (.lst vs) ∧ vs.length ≤ 60 * i + j ∧ PairsAt H' vs (cycs lo i ++ (List.range j).map fun (j : Nat) => (lo + (i : Int), (j : Int))) ∧ ∀ q o, q ≠ Dl → H q = some o → H' q = some o)
        ⟨vs, e1, e2, by simpa using e3, ex⟩ ?_ ?_
      · rintro j H2 hj ⟨ws, f1, f2, f3, fx⟩
        have hj3 : j < 121 := by omega
        walk_at "rd"
        intro tp htp
        have ntD : tp ≠ Dl := ne_of_none f1 htp |>.symm
        walk_at "rd"
        refine ⟨ws, by rw [upd_ne ntD.symm]; exact f1, by rw [sizeLine_eq]; omega, ws ++ [.ref tp], upd_same, by rw [List.length_append]; exact Nat.succ_le_succ f2, ?_, fun q o hq e => ?_⟩
        · rw [List.range_succ, List.map_append, ← List.append_assoc]
          refine Paired.snoc (PairsAt.mono (fun t a b x => x.put f1 htp) f3) ⟨tp, rfl, ?_⟩
          unfold TupAt
          rw [upd_ne ntD, Int.zero_add]
          exact upd_same
        · have qt : q ≠ tp := ne_of_none (fx q o hq e) htp
          rw [upd_ne hq, upd_ne qt]
          exact fx q o hq e
      · rintro H2 ⟨ws, f1, f2, f3, fx⟩
        exact ⟨ws, f1, by omega, f3, fx⟩
    · rintro H' ⟨vs, e1, e2, e3, ex⟩
      exact k Dl H' vs hD (fun q o e => ex q o (ne_of_none e hD) e) e1 e3
theorem TupAt.put1 {H : Hp} {Dl t : Addr} {l l' : List V} {a b : Int} (hD : H Dl = some (.lst l)) (x : TupAt H t a b) : TupAt (L2.upd H Dl (.lst l')) t a b := by
  unfold TupAt at *
  have n1 : t ≠ Dl := fun z => by rw [z, hD] at x; cases x
  rw [upd_ne n1]
  exact x
theorem PairsAt.get {H : Hp} : ∀ {vs : List V} {cs : List (Int × Int)} {i : Nat} {v : V}, PairsAt H vs cs → vs[i]? = some v → ∃ t c, v = .ref t ∧ cs[i]? = some c ∧ TupAt H t c.1 c.2
  | _, _, i, _, .nil, e => by cases i <;> cases e
  | _, _, 0, _, .cons ⟨t, h, x⟩ _, e => by cases e; exact ⟨t, _, h, rfl, x⟩
  | _, _, i + 1, _, .cons _ r, e => PairsAt.get (i := i) r e
theorem PairsAt.len {H : Hp} {vs : List V} {cs : List (Int × Int)} (h : PairsAt H vs cs) : vs.length = cs.length := Paired.length h
theorem cycs_len {lo : Int} (h1 : 1 ≤ lo) (h2 : lo ≤ 60) : ∀ k : Nat, k ≤ 60 → (cycs lo k).length ≤ 120 * k
  | 0, _ => Nat.le_refl _
  | k + 1, h => by
    have := cycs_len h1 h2 k (by omega)
    show (cycs lo k ++ cycRow (lo + (k : Int))).length ≤ _
    unfold cycRow
    rw [List.length_append, List.length_map, List.length_range]
    omega
theorem PairsAt.append {H : Hp} {us : List V} {ds : List (Int × Int)} (q : PairsAt H us ds) : ∀ {vs : List V} {cs : List (Int × Int)}, PairsAt H vs cs → PairsAt H (vs ++ us) (cs ++ ds)
  | _, _, .nil => q
  | _, _, .cons h r => .cons h (PairsAt.append q r)
theorem cycs_ok {lo : Int} (h1 : 1 ≤ lo) : ∀ k : Nat, lo + (k : Int) ≤ 61 → ∀ c ∈ cycs lo k, Cyc c.1 c.2
  | 0, _, c, hc => by cases hc
  | k + 1, h, c, hc => by
    rcases List.mem_append.mp (show c ∈ cycs lo k ++ cycRow (lo + (k : Int)) from hc) with z | z
    · exact cycs_ok h1 k (by omega) c z
    · obtain ⟨j, hj, rfl⟩ := List.mem_map.mp z
      have := List.mem_range.mp hj
      exact ⟨by show 1 ≤ lo + (k : Int); omega, by show lo + (k : Int) ≤ 60; omega, by show (0 : Int) ≤ (j : Int); omega, by show (j : Int) < lo + (k : Int); omega⟩
abbrev suitP (n s : Int) : Int × Int → Bool := fun c => decide (c.1 % n = 0 ∧ c.2 % n = s)
def spOuters : Sp := fun vs H Q _ => ∃ (t : Addr) (n s lo hi : Int), vs = [.ref t, .int lo, .int hi] ∧ TupAt H t n s ∧ 1 ≤ n ∧ n < 2 ^ 63 ∧ 1 ≤ lo ∧ lo ≤ 60 ∧ 1 ≤ hi ∧ hi ≤ 60 ∧ ∀ l H' vs, H l = none → Same H H' → H' l = some (.lst vs) → PairsAt H' vs ((cycs lo (hi + 1 - lo).toNat).filter (suitP n s)) → Q (.ref l) H'
theorem sc_whole_outers : FnScope ["inner", "least", "most", "outer"] ["inner", "least", "most"] (defScope s_whole_outers) := ⟨rfl, rfl, rfl, by decide +kernel, rfl, by decide +kernel, by decide +kernel⟩
theorem ok_whole_outers (T : Txt K mg D) : FnOk P w K mg base CX0 2 D.a_whole_outers D.d_whole_outers ["inner", "least", "most"] spOuters := by
  have G_all_cycles := ok_all_cycles (P := P) (w := w) (base := base) T
  have G_is_whole := ok_is_whole (P := P) (w := w) (base := base) T
  refine T.F_whole_outers.ok sc_whole_outers (fun vs H Q E h => ?_) (fun cdv A outer s H vs Q E hr h => ?_)
  · obtain ⟨t, n, s, lo, hi, rfl, _⟩ := h
    rfl
  · obtain ⟨t, n, s, lo, hi, rfl, ht, n1, n2, l1, l2, h1, h2, k⟩ := h
    refine ⟨_, (pss_one (ps_ret (pe_lc (own := [("outer", 3)]) (g := gName 3) (by rfl) sc_whole_outers.nd (pi_list (pe_call G_all_cycles (hr.mono (by decide)) (by rfl) T.g_all_cycles T.F_all_cycles.kp T.b_all_cycles .nil pass0 (pa_cons (pv 1) (pa_cons (pv 2) pa_nil)))) (blkOk_by (own := [("outer", 3)]) (N := ["inner", "least", "most", "outer"]) (sc := defScope s_whole_outers) (by decide +kernel)) (fun _ _ _ _ _ => (pg_name (i := 3) sc_whole_outers.nd rfl (Or.inl rfl))) (fun _ _ _ _ _ => (pts_one (pt_val (pe_call G_is_whole (hr.mono (by decide)) (by rfl) T.g_is_whole T.F_is_whole.kp T.b_is_whole .nil pass0 (pa_cons (pv 0) (pa_cons (pv 3) pa_nil)))))) (fun _ _ _ _ _ => (pv 3))))), ?_⟩
    walk_at "rd"
    refine ⟨l2, h1, h2, fun l H1 vs nl x1 el pv => ?_⟩
    have ht1 := x1 _ _ ht
    have hlen := cycs_len l1 l2 (hi + 1 - lo).toNat (by omega)
    generalize cycs lo (hi + 1 - lo).toNat = cs at *
    walk_at "rd"
    intro Dl hD
    refine lc_list (K := K) (a := l) (xs := vs) (fun i H' => ∃ ws, H' Dl = some (.lst ws) ∧ ws.length ≤ i ∧ PairsAt H' ws ((cs.take i).filter (suitP n s)) ∧ ∀ q o, q ≠ Dl → H1 q = some o → H' q = some o)
      ⟨[], upd_same, Nat.le_refl _, .nil, fun q o hq e => by rw [upd_ne hq]; exact e⟩ (fun i H' _ h => by obtain ⟨_, _, _, _, ex⟩ := h; exact SqL.of (ex _ _ (ne_of_none el hD) el)) ?_ ?_
    · rintro i x H' hi3 ⟨ws, e1, e2, e3, ex⟩
      obtain ⟨u, c, rfl, hc, hu⟩ := pv.get hi3
      have hib : i < vs.length := (List.getElem?_eq_some_iff.mp hi3).1
      have hlv := pv.len
      have hu2 := ex _ _ (ne_of_none hu hD) hu
      have ht2 := ex _ _ (ne_of_none ht1 hD) ht1
      have tk : cs.take (i + 1) = cs.take i ++ [c] := take_one hc
      walk_at "rd"
      refine ⟨t, u, n, s, c.1, c.2, rfl, ht2, hu2, n1, n2, ?_⟩
      walk_at "rd"
      rw [tk, List.filter_append]
      walk_at "br"
      · rename_i hb
        walk_at "rd"
        have f : [c].filter (suitP n s) = [c] := by simp [suitP, hb]
        rw [f]
        refine ⟨ws, e1, by rw [sizeLine_eq]; omega, ws ++ [.ref u], upd_same, by rw [List.length_append]; exact Nat.succ_le_succ e2, Paired.snoc (PairsAt.mono (fun t a b x => x.put1 e1) e3) ⟨u, rfl, TupAt.put1 e1 hu2⟩, fun q o hq e => by rw [upd_ne hq]; exact ex q o hq e⟩
      · rename_i hb
        have f : [c].filter (suitP n s) = [] := by simp [suitP]; omega
        rw [f, List.append_nil]
        exact ⟨ws, e1, by omega, e3, ex⟩
    · rintro H' ⟨ws, e1, e2, e3, ex⟩
      rw [pv.len, List.take_length] at e3
      exact k Dl H' ws (Same.free x1 hD) (x1.trans fun q o e => ex q o (ne_of_none e hD) e) e1 e3
def pairD (c : Int × Int) : PyData := .tuple [.int c.1, .int c.2]
theorem dp_pairs {H : Hp} : ∀ {vs : List V} {cs : List (Int × Int)}, PairsAt H vs cs → DpAll K H vs (cs.map pairD)
  | _, _, .nil => .nil
  | _, _, .cons ⟨t, h, x⟩ r => h ▸ .cons (.tup (SqT.of x) (.cons (.int _) (.cons (.int _) .nil))) (dp_pairs r)
theorem pairs_can : ∀ cs : List (Int × Int), PyData.canLayAll0 (cs.map pairD) = true
  | [] => rfl
  | _ :: r => by
    show (PyData.canLay0 _ && PyData.canLayAll0 (r.map pairD)) = true
    rw [pairs_can r]
    rfl
theorem pairs_eqv : ∀ cs : List (Int × Int), PyData.eqvAll (cs.map pairD) (cs.map pairD) = true
  | [] => rfl
  | c :: r => by
    show (PyData.eqv (pairD c) (pairD c) && PyData.eqvAll (r.map pairD) (r.map pairD)) = true
    rw [pairs_eqv r]
    simp [pairD, PyData.eqv, PyData.eqvAll]
theorem pairs_depth : ∀ cs : List (Int × Int), PyData.depthAll (cs.map pairD) ≤ 8
  | [] => by decide
  | c :: r => by
    have := pairs_depth r
    show max (PyData.depth (pairD c)) (PyData.depthAll (r.map pairD)) ≤ 8
    have h : PyData.depth (pairD c) ≤ 8 := by
      unfold pairD
      simp [PyData.depth, PyData.depthAll]
    omega
def spListL : Sp := fun vs H Q _ => ∃ (l1 l2 : Addr) (v1 v2 : List V) (cs : List (Int × Int)), vs = [.ref l1, .ref l2] ∧ H l1 = some (.lst v1) ∧ H l2 = some (.lst v2) ∧ PairsAt H v1 cs ∧ PairsAt H v2 cs ∧ cs.length ≤ 10 ^ 5 ∧ Yes H Q
theorem sc__law_is_list : FnScope ["_law_told", "_law_due", "_law_one"] ["_law_told", "_law_due"] (defScope s__law_is_list) := ⟨rfl, rfl, rfl, by decide +kernel, rfl, by decide +kernel, by decide +kernel⟩
theorem ok__law_is_list (T : Txt K mg D) : FnOk P w K mg base CX0 3 D.a__law_is_list D.d__law_is_list ["_law_told", "_law_due"] spListL := by
  have G__law_is_cycle := ok__law_is_cycle (P := P) (w := w) (base := base) T
  refine T.F__law_is_list.ok sc__law_is_list (fun vs H Q E h => ?_) (fun cdv A outer s H vs Q E hr h => ?_)
  · obtain ⟨l1, l2, v1, v2, cs, rfl, _⟩ := h
    rfl
  · obtain ⟨l1, l2, v1, v2, cs, rfl, h1, h2, p1, p2, hl, k⟩ := h
    refine ⟨_, (pss_cons (ps_if (PW.pt (pw_or (pt_not (pt_val (pe_callB call_isi (by rfl) T.n_isinstance (by decide +kernel) (pa_cons (pv 0) (pa_cons (pe_bltn (v := .ty "list") (u := .type "list") (by rfl) T.n_list (by decide +kernel) rfl) pa_nil))))) (pw_or1 (pt_cmpR op_ne (pe_callB call_len_seq (by rfl) T.n_len (by decide +kernel) (pa_cons (pv 0) pa_nil)) (pe_callB call_len_seq (by rfl) T.n_len (by decide +kernel) (pa_cons (pv 1) pa_nil)) (nomark _)))))
      (pss_one (ps_ret pe_bl))
      pss_nil)
      (pss_one (ps_ret (pe_and (pe_callB (cr_all rfl) (by rfl) T.n_all (by decide +kernel) (pa_cons (pe_lc (own := [("_law_one", 2)]) (g := gName 2) (tt := tYes) (by rfl) sc__law_is_list.nd (pi_list (pv 0)) (blkOk_by (own := [("_law_one", 2)]) (N := ["_law_told", "_law_due", "_law_one"]) (sc := defScope s__law_is_list) (by decide +kernel)) (fun _ _ _ _ _ => (pg_name (i := 2) sc__law_is_list.nd rfl (Or.inl rfl))) (fun _ _ _ _ _ => pts_nil) (fun _ _ _ _ _ => (pe_call G__law_is_cycle (hr.mono (by decide)) (by rfl) T.g__law_is_cycle T.F__law_is_cycle.kp T.b__law_is_cycle .nil pass0 (pa_cons (pv 2) pa_nil)))) pa_nil)) (pe_one (pe_cmpR (op_eqD hr.units) (pv 0) (pv 1) (nomark _))))))), ?_⟩
    walk_at "rd"
    refine ⟨_, _, _, _, true, rfl, .ty "list", .base (.lst h1), kit_ty (by decide +kernel), ?_⟩
    walk_at "rd"
    have n1 := p1.len
    have n2 := p2.len
    refine ifF ?_ ?_
    · show (!decide (V.int (v1.length : Int) = V.int (v2.length : Int))) = false
      rw [n1, n2]
      simp
    walk_at "rd"
    intro Dl hD
    refine lc_list (K := K) (a := l1) (xs := v1) (fun i H' => H' Dl = some (.lst ((List.replicate i true).map V.bl)) ∧ ∀ q o, q ≠ Dl → H q = some o → H' q = some o)
      ⟨upd_same, fun q o hq e => by rw [upd_ne hq]; exact e⟩ (fun i H' _ h => SqL.of (h.2 _ _ (ne_of_none h1 hD) h1)) ?_ ?_
    · rintro i x H' hi ⟨e1, ex⟩
      obtain ⟨u, c, rfl, hc, hu⟩ := p1.get hi
      have hib : i < v1.length := (List.getElem?_eq_some_iff.mp hi).1
      walk_at "rd"
      refine ⟨u, _, _, rfl, ex _ _ (ne_of_none hu hD) hu, ?_⟩
      walk_at "rd"
      refine ⟨_, e1, by rw [List.length_map, List.length_replicate, sizeLine_eq]; omega, ?_, fun q o hq e => by rw [upd_ne hq]; exact ex q o hq e⟩
      rw [upd_same, List.replicate_succ', List.map_append]
      rfl
    · rintro H' ⟨e1, ex⟩
      have x1 : Same H H' := fun q o e => ex q o (ne_of_none e hD) e
      walk_at "rd"
      refine ifT (by simp) ?_
      walk_at "rd"
      refine ⟨.list (cs.map pairD), .list (cs.map pairD), .lst (SqL.of (x1 _ _ h1)) (dp_pairs (p1.mono fun t a b y => x1 _ _ y)), .lst (SqL.of (x1 _ _ h2)) (dp_pairs (p2.mono fun t a b y => x1 _ _ y)), ?_, ?_, ?_⟩
      · show (PyData.canLayAll0 (cs.map pairD) && decide (PyData.depthAll (cs.map pairD) + 1 ≤ 64)) = true
        have := pairs_depth cs
        rw [pairs_can]
        simp
        omega
      · show (PyData.canLayAll0 (cs.map pairD) && decide (PyData.depthAll (cs.map pairD) + 1 ≤ 64)) = true
        have := pairs_depth cs
        rw [pairs_can]
        simp
        omega
      · refine k.at ?_ x1
        show PyData.eqvAll (cs.map pairD) (cs.map pairD) = true
        exact pairs_eqv cs
def spListsL : Sp := fun vs H Q _ => ∃ (t : Addr) (n s lo hi : Int), vs = [.ref t, .int lo, .int hi] ∧ TupAt H t n s ∧ Cyc n s ∧ 1 ≤ lo ∧ lo ≤ 60 ∧ 1 ≤ hi ∧ hi ≤ 60 ∧ Yes H Q
theorem sc__law_lists : FnScope ["_law_inner", "_law_least", "_law_most", "_law_due", "_law_size", "_law_one", "_law_shift"] ["_law_inner", "_law_least", "_law_most"] (defScope s__law_lists) := ⟨rfl, rfl, rfl, by decide +kernel, rfl, by decide +kernel, by decide +kernel⟩
theorem ok__law_lists (T : Txt K mg D) : FnOk P w K mg base CX0 4 D.a__law_lists D.d__law_lists ["_law_inner", "_law_least", "_law_most"] spListsL := by
  have G_all_cycles := ok_all_cycles (P := P) (w := w) (base := base) T
  have G_whole_outers := ok_whole_outers (P := P) (w := w) (base := base) T
  have G__law_is_list := ok__law_is_list (P := P) (w := w) (base := base) T
  have G__law_suits := ok__law_suits (P := P) (w := w) (base := base) T
  refine T.F__law_lists.ok sc__law_lists (fun vs H Q E h => ?_) (fun cdv A outer s H vs Q E hr h => ?_)
  · obtain ⟨t, n, s, lo, hi, rfl, _⟩ := h
    rfl
  · obtain ⟨t, n, s, lo, hi, rfl, ht, cy, l1, l2, h1, h2, k⟩ := h
    obtain ⟨n1, n2, s1, s2⟩ := id cy
    refine ⟨_, (pss_cons (ps_set (i := 3) sc__law_lists.nd rfl (Or.inl rfl) (pe_lst pa_nil))
      (pss_cons (ps_for PassesOwn.never rfl (pi_range2 (by rfl) T.n_range (pa_cons (pv 1) (pa_cons (pe_op op_add (pv 2) pe_int) pa_nil))) (pg_name (i := 4) sc__law_lists.nd rfl (Or.inr rfl))
      (pss_one (ps_expr (pe_bm PySem.F.plainAttrs_list PySem.F.slot_list_extend PySem.F.type_list_extend mt_extend (pv 3) (pa_cons (pe_lc (own := [("_law_shift", 6)]) (g := gName 6) (tt := tYes) (by rfl) sc__law_lists.nd (pi_range1 (by rfl) T.n_range (pa_cons (pv 4) pa_nil)) (blkOk_by (own := [("_law_shift", 6)]) (N := ["_law_inner", "_law_least", "_law_most", "_law_due", "_law_size", "_law_one", "_law_shift"]) (sc := defScope s__law_lists) (by decide +kernel)) (fun _ _ _ _ _ => (pg_name (i := 6) sc__law_lists.nd rfl (Or.inl rfl))) (fun _ _ _ _ _ => pts_nil) (fun _ _ _ _ _ => (pe_tup (pa_cons (pv 4) (pa_cons (pv 6) pa_nil))))) pa_nil)))))
      (pss_cons (ps_if (pt_not (pt_val (pe_call G__law_is_list (hr.mono (by decide)) (by rfl) T.g__law_is_list T.F__law_is_list.kp T.b__law_is_list .nil pass0 (pa_cons (pe_call G_all_cycles (hr.mono (by decide)) (by rfl) T.g_all_cycles T.F_all_cycles.kp T.b_all_cycles .nil pass0 (pa_cons (pv 1) (pa_cons (pv 2) pa_nil))) (pa_cons (pv 3) pa_nil)))))
      (pss_one (ps_ret pe_bl))
      pss_nil)
      (pss_one (ps_ret (pe_call G__law_is_list (hr.mono (by decide)) (by rfl) T.g__law_is_list T.F__law_is_list.kp T.b__law_is_list .nil pass0 (pa_cons (pe_call G_whole_outers (hr.mono (by decide)) (by rfl) T.g_whole_outers T.F_whole_outers.kp T.b_whole_outers .nil pass0 (pa_cons (pv 0) (pa_cons (pv 1) (pa_cons (pv 2) pa_nil)))) (pa_cons (pe_lc (own := [("_law_one", 5)]) (g := gName 5) (by rfl) sc__law_lists.nd (pi_list (pv 3)) (blkOk_by (own := [("_law_one", 5)]) (N := ["_law_inner", "_law_least", "_law_most", "_law_due", "_law_size", "_law_one", "_law_shift"]) (sc := defScope s__law_lists) (by decide +kernel)) (fun _ _ _ _ _ => (pg_name (i := 5) sc__law_lists.nd rfl (Or.inl rfl))) (fun _ _ _ _ _ => (pts_one (pt_val (pe_call G__law_suits (hr.mono (by decide)) (by rfl) T.g__law_suits T.F__law_suits.kp T.b__law_suits .nil pass0 (pa_cons (pv 0) (pa_cons (pv 5) pa_nil)))))) (fun _ _ _ _ _ => (pv 5))) pa_nil)))))))), ?_⟩
    walk_at "rd"
    intro dl hdl
    walk_at "rd"
    refine ⟨⟨by omega, by omega, by omega, by omega⟩, ?_⟩
    refine for_range (fun i σ H2 => Stop (∃ (v1 : Option V) (ws : List V), σ = [some (.ref t), some (.int lo), some (.int hi), some (.ref dl), v1, none, none] ∧ H2 dl = some (.lst ws) ∧ PairsAt H2 ws (cycs lo i) ∧ ∀ q o, q ≠ dl → H q = some o → H2 q = some o)) (.go ⟨none, [], rfl, upd_same, .nil, fun q o hq e => by rw [upd_ne hq]; exact e⟩) ?_ ?_
    · intro i σ H2 hi2 hm
      obtain ⟨v1, ws, rfl, e1, e2, ex⟩ := hm.out
      have hi3 : i < 61 := by omega
      have hlen := cycs_len l1 l2 i (by omega)
      have hlw := e2.len
      walk_at "rd"
      refine ⟨.inl ⟨rfl, _, SqL.of e1⟩, ?_⟩
      walk_at "rd"
      refine ⟨by omega, by omega, ?_⟩
      intro Dl hD
      have ndl : dl ≠ Dl := ne_of_none e1 hD
      refine lc_range (fun j H' => ∃ us, H' Dl = some (.lst us) ∧ us.length ≤ j ∧ PairsAt H' us ((List.range j).map fun (j : Nat) => (lo + (i : Int), (j : Int))) ∧ ∀ q o, q ≠ Dl → H2 q = some o → H' q = some o)
        ⟨[], upd_same, Nat.le_refl _, .nil, fun q o hq e => by rw [upd_ne hq]; exact e⟩ ?_ ?_
      · rintro j H3 hj ⟨us, f1, f2, f3, fx⟩
        have hj3 : j < 121 := by omega
        walk_at "rd"
        intro tp htp
        have ntD : tp ≠ Dl := ne_of_none f1 htp |>.symm
        walk_at "rd"
        refine ⟨us, by rw [upd_ne ntD.symm]; exact f1, by rw [sizeLine_eq]; omega, us ++ [.ref tp], upd_same, by rw [List.length_append]; exact Nat.succ_le_succ f2, ?_, fun q o hq e => ?_⟩
        · rw [List.range_succ, List.map_append]
          refine Paired.snoc (PairsAt.mono (fun t a b x => x.put f1 htp) f3) ⟨tp, rfl, ?_⟩
          unfold TupAt
          rw [upd_ne ntD, Int.zero_add]
          exact upd_same
        · have qt : q ≠ tp := ne_of_none (fx q o hq e) htp
          rw [upd_ne hq, upd_ne qt]
          exact fx q o hq e
      · rintro H3 ⟨us, f1, f2, f3, fx⟩
        have e1' := fx _ _ ndl e1
        refine ⟨dl, Dl, ws, us, rfl, rfl, e1', f1, by rw [sizeLine_eq]; omega, ?_⟩
        refine .go ⟨_, ws ++ us, rfl, upd_same, PairsAt.append (f3.mono fun t a b y => y.put1 e1') (e2.mono fun t a b y => TupAt.put1 e1' (fx _ _ (ne_of_none y hD) y)), fun q o hq e => ?_⟩
        rw [upd_ne hq]
        exact fx _ _ (ne_of_none (ex q o hq e) hD) (ex q o hq e)
    · intro σ H2 hm
      obtain ⟨v1, ws, rfl, e1, e2, ex⟩ := hm.out
      have x2 : Same H H2 := fun q o e => ex q o (ne_of_none e hdl) e
      have hlen := cycs_len l1 l2 (hi + 1 - lo).toNat (by omega)
      walk_at "rd"
      refine ⟨l2, h1, h2, fun l H3 vs nl x3 el pv => ?_⟩
      have e1' := x3 _ _ e1
      have e2' := e2.mono fun t a b y => x3 _ _ y
      walk_at "rd"
      refine ⟨l, dl, vs, ws, _, rfl, el, e1', pv, e2', by omega, fun H4 x4 => ?_⟩
      have ht4 := x4 _ _ (x3 _ _ (x2 _ _ ht))
      walk_at "rd"
      refine ⟨t, n, s, lo, hi, rfl, ht4, n1, by omega, l1, l2, h1, h2, fun l' H5 vs' nl' x5 el' pv' => ?_⟩
      have e1'' := x5 _ _ (x4 _ _ e1')
      have e2'' := e2'.mono fun t a b y => x5 _ _ (x4 _ _ y)
      walk_at "rd"
      have hok := cycs_ok l1 (hi + 1 - lo).toNat (by omega)
      have x5' : Same H H5 := x2.trans (x3.trans (x4.trans x5))
      have ht5 := x5' _ _ ht
      generalize cycs lo (hi + 1 - lo).toNat = cs at *
      intro Dl hD
      refine lc_list (K := K) (a := dl) (xs := ws) (fun i H' => ∃ us, H' Dl = some (.lst us) ∧ us.length ≤ i ∧ PairsAt H' us ((cs.take i).filter (suitP n s)) ∧ ∀ q o, q ≠ Dl → H5 q = some o → H' q = some o)
        ⟨[], upd_same, Nat.le_refl _, .nil, fun q o hq e => by rw [upd_ne hq]; exact e⟩ (fun i H' _ h => by obtain ⟨_, _, _, _, ex⟩ := h; exact SqL.of (ex _ _ (ne_of_none e1'' hD) e1'')) ?_ ?_
      · rintro i x H' hi3 ⟨us, f1, f2, f3, fx⟩
        obtain ⟨u, c, rfl, hc, hu⟩ := e2''.get hi3
        have hib : i < ws.length := (List.getElem?_eq_some_iff.mp hi3).1
        have hlv := e2''.len
        have hu2 := fx _ _ (ne_of_none hu hD) hu
        have ht6 := fx _ _ (ne_of_none ht5 hD) ht5
        have tk : cs.take (i + 1) = cs.take i ++ [c] := take_one hc
        walk_at "rd"
        refine ⟨t, u, n, s, c.1, c.2, rfl, ht6, hu2, cy, hok c (List.mem_of_getElem? hc), ?_⟩
        walk_at "rd"
        rw [tk, List.filter_append]
        walk_at "br"
        · rename_i hb
          walk_at "rd"
          have f : [c].filter (suitP n s) = [c] := by simp [suitP, hb]
          rw [f]
          refine ⟨us, f1, by rw [sizeLine_eq]; omega, us ++ [.ref u], upd_same, by rw [List.length_append]; exact Nat.succ_le_succ f2, Paired.snoc (PairsAt.mono (fun t a b x => x.put1 f1) f3) ⟨u, rfl, TupAt.put1 f1 hu2⟩, fun q o hq e => by rw [upd_ne hq]; exact fx q o hq e⟩
        · rename_i hb
          have f : [c].filter (suitP n s) = [] := by simp [suitP]; omega
          rw [f, List.append_nil]
          exact ⟨us, f1, by omega, f3, fx⟩
      · rintro H' ⟨us, f1, f2, f3, fx⟩
        rw [e2''.len, List.take_length] at f3
        have x6 : Same H5 H' := fun q o e => fx q o (ne_of_none e hD) e
        have hfl := List.length_filter_le (suitP n s) cs
        refine ⟨l', Dl, vs', us, _, rfl, x6 _ _ el', f1, pv'.mono fun t a b y => x6 _ _ y, f3, by omega, fun H7 x7 => ?_⟩
        exact k _ (x5'.trans (x6.trans x7))
end
end Toy
set_option Elab.async false
set_option linter.all false
set_option maxRecDepth 100000
set_option maxHeartbeats 4000000
namespace Toy
open PySem L2 XR
local macro_rules | `(tactic| walk_at "ne") => `(tactic| first | assumption | (apply Ne.symm; assumption) | exact XR.ne_fresh (by assumption) (by walk_at "hp") | exact Ne.symm (XR.ne_fresh (by assumption) (by walk_at "hp")))
local macro_rules | `(tactic| walk_at "hp") => `(tactic| first | assumption | exact upd_same | (refine Eq.trans (upd_ne ?_) ?_; (walk_at "ne"); walk_at "hp"))
local macro_rules | `(tactic| walk_at "sq") => `(tactic| first | walk_at "hp" | exact SqL.of (by walk_at "hp") | exact SqT.of (by walk_at "hp"))
local macro_rules | `(tactic| walk_at "br") => `(tactic| (refine ite2 ?_ ?_ <;> intro hbr <;> (try simp only [decide_eq_true_eq, decide_eq_false_iff_not, V.int.injEq, V.bl.injEq, V.str.injEq, Bool.not_eq_true, Bool.not_eq_eq_eq_not, Bool.not_true, Bool.not_false, ne_eq, Int.reduceToNat, Int.reducePow, Int.reduceMul, Int.reduceAdd, Int.reduceSub, reduceCtorEq, not_true_eq_false, not_false_eq_true, Int.not_lt, Int.not_le] at hbr)))
local macro_rules | `(tactic| walk_at "side") => `(tactic| first
  | exact ⟨by decide, by decide, by decide⟩
  | exact .inl ⟨by decide, by decide⟩
  | exact .inr ⟨by decide, by decide⟩
  | exact XR.divw (by first | decide | omega) (by first | decide | omega)
  | (show (_ : Int) = _; first | rfl | omega)
  | (show (0 : Int) < _; first | decide | assumption | omega)
  | exact .inl ⟨by omega, by omega⟩
  | exact .inr ⟨by omega, by omega⟩
  | exact .inl (XR.cmul_mod (by decide))
  | exact XR.log_lt (by omega) (by omega)
  | decide
  | (rw [sizeLine_eq]; simp; done)
  | (show 2 ≤ sizeLine; decide) | (show 3 ≤ sizeLine; decide) | (show 4 ≤ sizeLine; decide) | (show 5 ≤ sizeLine; decide) | (show 6 ≤ sizeLine; decide) | (show 7 ≤ sizeLine; decide) | (show 1 ≤ sizeLine; decide) | (show 8 ≤ sizeLine; decide) | (show 0 ≤ sizeLine; decide))
local macro_rules | `(tactic| walk_at "rd1") => `(tactic| first
  | refine ⟨_, rfl, ?_⟩
  | refine ⟨_, _, rfl, rfl, ?_⟩
  | refine ⟨_, _, _, _, rfl, rfl, (by walk_at "sq"), rfl, ?_⟩
  | refine ⟨_, _, _, _, rfl, rfl, (by walk_at "hp"), (by walk_at "hp"), (by walk_at "side"), ?_⟩
  | refine ⟨_, _, rfl, .inl (by walk_at "sq"), ?_⟩
  | refine ⟨_, _, rfl, .inr (by walk_at "sq"), ?_⟩
  | refine ⟨_, _, _, _, _, rfl, (by walk_at "hp"), (by walk_at "cls"), (by walk_at "noat"), rfl, ?_⟩
  | refine ⟨rfl, ?_⟩
  | refine And.intro (by walk_at "side") ?_
  | refine .inl ⟨_, rfl, ?_⟩
  | refine And.intro ⟨_, (by walk_at "sq")⟩ ?_
  | refine ⟨_, _, rfl, (by walk_at "sq"), ?_⟩
  | refine ⟨_, _, rfl, ?_⟩
  | refine .inr ⟨_, rfl, (by walk_at "side"), ?_⟩
  | refine iteT ?_
  | refine iteF ?_)
local macro_rules | `(tactic| walk_at "rd") => `(tactic| repeat (walk_at "rd1"))
local macro_rules | `(tactic| walk_at "nn") => `(tactic| (simp only [Int.reduceToNat, Int.reducePow, Int.reduceMul, Int.reduceAdd, Int.reduceSub, Int.reduceNeg]))
local macro_rules | `(tactic| walk_at "dr") => `(tactic| repeat (first | refine And.intro (by first | assumption | walk_at "pre") ?_ | refine And.intro (by first | decide | omega) ?_))

local macro_rules | `(tactic| walk_at "cls") => `(tactic| exact T_cl_Residue (by assumption))
local macro_rules | `(tactic| walk_at "noat") => `(tactic| first | exact Txt.no_place (by assumption) | exact Txt.no_length (by assumption))
local macro_rules | `(tactic| walk_at "pre") => `(tactic| first | assumption | exact BoxAt.new (by walk_at "pre") (by assumption) | exact BoxAt.same (by walk_at "pre") (by assumption))
section
variable {P : Program} {w : World} {K : PySem.W.Frag} {mg : Str → Option Value} {base : Heap} {D : Ad}
theorem TupAt.exb {H H' : Hp} {t b : Addr} {x y : Int} (s : TupAt H t x y) (n : t ≠ b) (e : ExB b H H') : TupAt H' t x y := e _ _ n s
theorem TupAt.same {H H' : Hp} {t : Addr} {x y : Int} (s : TupAt H t x y) (e : Same H H') : TupAt H' t x y := e _ _ s
def spLaw (K : PySem.W.Frag) : Sp := fun vs H Q _ => ∃ (a : Addr) (ns : List Int), vs = [.ref a] ∧ SqL K H a (ns.map V.int) ∧ ns.length ≤ 63 ∧ ∀ H', Q (.bl true) H'
theorem sc_law : FnScope ["_law_script", "_law_box_here", "_law_cycles_here", "_law_bounds_here", "_law_k", "_law_near", "_law_days", "_law_long", "_law_last", "_law_other"] ["_law_script"] (defScope s_law) := ⟨rfl, rfl, rfl, by decide +kernel, rfl, by decide +kernel, by decide +kernel⟩
theorem ok_law (T : Txt K mg D) : FnOk P w K mg base CX0 10 D.a_law D.d_law ["_law_script"] (spLaw K) := by
  have G__law_box := ok__law_box (P := P) (w := w) (base := base) T
  have G__law_cycles := ok__law_cycles (P := P) (w := w) (base := base) T
  have G__law_bounds := ok__law_bounds (P := P) (w := w) (base := base) T
  have G__law_day := ok__law_day (P := P) (w := w) (base := base) T
  have G__law_draw := ok__law_draw (P := P) (w := w) (base := base) T
  have G__law_places := ok__law_places (P := P) (w := w) (base := base) T
  have G__law_moved := ok__law_moved (P := P) (w := w) (base := base) T
  have G__law_counted := ok__law_counted (P := P) (w := w) (base := base) T
  have G__law_lists := ok__law_lists (P := P) (w := w) (base := base) T
  have G__law_says := ok__law_says (P := P) (w := w) (base := base) T
  have G_is_whole := ok_is_whole (P := P) (w := w) (base := base) T
  have G__law_whole := ok__law_whole (P := P) (w := w) (base := base) T
  refine T.F_law.ok sc_law (fun vs H Q E h => ?_) (fun cdv A outer s H vs Q E hr h => ?_)
  · obtain ⟨a, ns, rfl, _⟩ := h
    rfl
  · obtain ⟨sa, ns, rfl, hS, hl, k⟩ := h
    refine ⟨_, (pss_cons (ps_set (i := 1) sc_law.nd rfl (Or.inl rfl) (pe_call G__law_box (hr.mono (by decide)) (by rfl) T.g__law_box T.F__law_box.kp T.b__law_box .nil pass0 (pa_cons (pv 0) pa_nil)))
      (pss_cons (ps_set (i := 2) sc_law.nd rfl (Or.inl rfl) (pe_call G__law_cycles (hr.mono (by decide)) (by rfl) T.g__law_cycles T.F__law_cycles.kp T.b__law_cycles .nil pass0 (pa_cons (pv 1) pa_nil)))
      (pss_cons (ps_set (i := 3) sc_law.nd rfl (Or.inl rfl) (pe_call G__law_bounds (hr.mono (by decide)) (by rfl) T.g__law_bounds T.F__law_bounds.kp T.b__law_bounds .nil pass0 (pa_cons (pv 1) pa_nil)))
      (pss_cons (ps_for PassesOwn.never rfl (pi_list (pe_lst (pa_cons pe_int (pa_cons pe_int pa_nil)))) (pg_name (i := 4) sc_law.nd rfl (Or.inl rfl))
      (pss_cons (ps_set (i := 5) sc_law.nd rfl (Or.inl rfl) (pe_call G__law_day (hr.mono (by decide)) (by rfl) T.g__law_day T.F__law_day.kp T.b__law_day .nil pass0 (pa_cons (pv 1) pa_nil)))
      (pss_cons (ps_set (i := 6) sc_law.nd rfl (Or.inl rfl) (pe_call G__law_day (hr.mono (by decide)) (by rfl) T.g__law_day T.F__law_day.kp T.b__law_day .nil pass0 (pa_cons (pv 1) pa_nil)))
      (pss_cons (ps_set (i := 7) sc_law.nd rfl (Or.inl rfl) (pe_call G__law_draw (hr.mono (by decide)) (by rfl) T.g__law_draw T.F__law_draw.kp T.b__law_draw .nil pass0 (pa_cons (pv 1) (pa_cons pe_int pa_nil))))
      (pss_cons (ps_set (i := 8) sc_law.nd rfl (Or.inl rfl) (pe_op op_sub (pe_op op_add (pv 5) (pe_call G__law_draw (hr.mono (by decide)) (by rfl) T.g__law_draw T.F__law_draw.kp T.b__law_draw .nil pass0 (pa_cons (pv 1) (pa_cons pe_int pa_nil)))) pe_int))
      (Evl.pss_cut (ps_if (pt_cmpR op_eq (pv 7) pe_int (nomark _))
      (pss_one (ps_set (i := 8) sc_law.nd rfl (Or.inl rfl) (pe_op op_add (pv 8) (pe_call G__law_draw (hr.mono (by decide)) (by rfl) T.g__law_draw T.F__law_draw.kp T.b__law_draw .nil pass0 (pa_cons (pv 1) (pa_cons (pe_op op_pow pe_int pe_int) pa_nil))))))
      pss_nil)
      (pss_cons (ps_if (PW.pt (pw_or (pt_not (pt_val (pe_call G__law_places (hr.mono (by decide)) (by rfl) T.g__law_places T.F__law_places.kp T.b__law_places .nil pass0 (pa_cons (pe_ix ix_list (pv 2) (pv 4) (fun _ _ => rfl)) (pa_cons (pv 5) (pa_cons (pv 6) pa_nil)))))) (pw_or1 (pt_not (pt_val (pe_call G__law_moved (hr.mono (by decide)) (by rfl) T.g__law_moved T.F__law_moved.kp T.b__law_moved .nil pass0 (pa_cons (pe_ix ix_list (pv 2) (pv 4) (fun _ _ => rfl)) (pa_cons (pv 5) (pa_cons (pv 6) pa_nil)))))))))
      (pss_one (ps_ret pe_bl))
      pss_nil)
      (pss_cons (ps_if (pt_not (pt_val (pe_call G__law_counted (hr.mono (by decide)) (by rfl) T.g__law_counted T.F__law_counted.kp T.b__law_counted .nil pass0 (pa_cons (pe_ix ix_list (pv 2) (pv 4) (fun _ _ => rfl)) (pa_cons (pv 5) (pa_cons (pv 8) pa_nil))))))
      (pss_one (ps_ret pe_bl))
      pss_nil)
      (pss_cons (ps_if (pt_not (pt_val (pe_call G__law_lists (hr.mono (by decide)) (by rfl) T.g__law_lists T.F__law_lists.kp T.b__law_lists .nil pass0 (pa_cons (pe_ix ix_list (pv 2) (pv 4) (fun _ _ => rfl)) (pa_cons (pe_ix ix_tup (pv 3) pe_int (fun _ _ => rfl)) (pa_cons (pe_ix ix_tup (pv 3) pe_int (fun _ _ => rfl)) pa_nil))))))
      (pss_one (ps_ret pe_bl))
      pss_nil)
      (pss_one (ps_for PassesOwn.never rfl (pi_list (pv 2)) (pg_name (i := 9) sc_law.nd rfl (Or.inl rfl))
      (pss_one (ps_if (pt_not (pt_val (pe_call G__law_says (hr.mono (by decide)) (by rfl) T.g__law_says T.F__law_says.kp T.b__law_says .nil pass0 (pa_cons (pe_call G_is_whole (hr.mono (by decide)) (by rfl) T.g_is_whole T.F_is_whole.kp T.b_is_whole .nil pass0 (pa_cons (pe_ix ix_list (pv 2) (pv 4) (fun _ _ => rfl)) (pa_cons (pv 9) pa_nil))) (pa_cons (pe_call G__law_whole (hr.mono (by decide)) (by rfl) T.g__law_whole T.F__law_whole.kp T.b__law_whole .nil pass0 (pa_cons (pe_ix ix_list (pv 2) (pv 4) (fun _ _ => rfl)) (pa_cons (pv 9) pa_nil))) pa_nil)))))
      (pss_one (ps_ret pe_bl))
      pss_nil)))))))))))))
      (pss_one (ps_ret pe_bl)))))), ?_⟩
    walk_at "rd"
    refine ⟨hl, fun bx H1 hb x1 B1 => ?_⟩
    walk_at "rd"
    refine ⟨B1, fun l t u H2 n s m r cy1 cy2 B2 x2 nl nt nu el ht hu => ?_⟩
    walk_at "rd"
    refine ⟨B2, fun tb H3 lo hi lo1 lo2 hi1 hi2 B3 x3 ntb htb => ?_⟩
    have el3 := x3 _ _ nl el
    have ht3 := ht.exb nt x3
    have hu3 := hu.exb nu x3
    walk_at "rd"
    intro l2 hl2
    walk_at "rd"
    have nl2 := B3.ne hl2
    have z3 := Same.new (o := .lst [.int 0, .int 1]) (Same.refl H3) hl2
    refine for_list (K := K) (a := l2) (xs := [.int 0, .int 1]) (fun i σ H' => Stop (∃ v1 v2 v3 v4 v5 v6, σ = [some (.ref sa), some (.ref bx), some (.ref l), some (.ref tb), v1, v2, v3, v4, v5, v6] ∧ BoxAt H' bx ∧ H' l2 = some (.lst [.int 0, .int 1]) ∧ H' l = some (.lst [.ref t, .ref u]) ∧ TupAt H' t n s ∧ TupAt H' u m r ∧ TupAt H' tb lo hi))
      (.go ⟨none, none, none, none, none, none, rfl, B3.new hl2, upd_same, z3 _ _ el3, ht3.same z3, hu3.same z3, htb.same z3⟩) (fun i σ H' _ h => by obtain ⟨_, _, _, _, _, _, _, _, e, _⟩ := h.out; exact SqL.of e) ?_ ?_
    · intro i x σ H4 hi4 hm
      obtain ⟨v1, v2, v3, v4, v5, v6, rfl, B4, el4, h4, t4, u4, b4⟩ := hm.out
      have hk : ∃ (z : Int) (c : Addr) (n' s' : Int), x = .int z ∧ atI [V.ref t, V.ref u] z = some (.ref c) ∧ TupAt H4 c n' s' ∧ Cyc n' s' ∧ c ≠ bx := by
        have hm := List.mem_of_getElem? hi4
        simp only [List.mem_cons, List.not_mem_nil, or_false] at hm
        rcases hm with h | h
        · exact ⟨0, t, n, s, h, rfl, t4, cy1, nt⟩
        · exact ⟨1, u, m, r, h, rfl, u4, cy2, nu⟩
      obtain ⟨z, c, n', s', rfl, hz, hc, cy, nc⟩ := hk
      walk_at "rd"
      walk_at "dr"
      intro near H5 p5 q5 B5 x5
      walk_at "rd"
      walk_at "dr"
      intro days H6 p6 q6 B6 x6
      walk_at "rd"
      walk_at "dr"
      intro long H7 p7 q7 B7 x7
      walk_at "rd"
      walk_at "dr"
      intro e8 H8 p8 q8 B8 x8
      have y8 : ExB bx H4 H8 := (x5.trans x6).trans (x7.trans x8)
      walk_at "rd"
      refine ⟨fun σ' H' => Stop (∃ last, σ' = [some (.ref sa), some (.ref bx), some (.ref l), some (.ref tb), some (.int z), some (.int near), some (.int days), some (.int long), some (.int last), v6] ∧ BoxAt H' bx ∧ ExB bx H4 H' ∧ near - 1 ≤ last ∧ last < 10 ^ 18), ?_, fun σ9 H9 hm => ?_⟩
      · walk_at "rd"
        walk_at "br"
        · walk_at "rd"
          walk_at "dr"
          intro e9 H9 p9 q9 B9 x9
          walk_at "rd"
          simp only [Int.reduceToNat, Int.reducePow] at q9
          exact .go ⟨_, rfl, B9, y8.trans x9, by omega, by omega⟩
        · exact .go ⟨_, rfl, B8, y8, by omega, by omega⟩
      · obtain ⟨last, rfl, B9, y9, g1, g2⟩ := hm.out
        have h9 := y9 _ _ nl h4
        have c9 := hc.exb nc y9
        have t9 := t4.exb nt y9
        have u9 := u4.exb nu y9
        have b9 := b4.exb ntb y9
        have w9 := y9 _ _ nl2 el4
        walk_at "rd"
        refine ⟨_, _, _, _, rfl, rfl, SqL.of h9, hz, ?_⟩
        walk_at "rd"
        refine ⟨c, n', s', near, days, rfl, c9, cy, fun H10 z10 => ?_⟩
        walk_at "rd"
        refine ⟨_, _, _, _, rfl, rfl, SqL.of (z10 _ _ h9), hz, ?_⟩
        walk_at "rd"
        refine ⟨c, n', s', near, days, rfl, c9.same z10, cy, fun H11 z11 => ?_⟩
        have z11 := z10.trans z11
        walk_at "rd"
        refine ⟨_, _, _, _, rfl, rfl, SqL.of (z11 _ _ h9), hz, ?_⟩
        walk_at "rd"
        refine ⟨c, n', s', near, last, rfl, c9.same z11, cy, g1, by omega, g2, fun H12 z12 => ?_⟩
        have z12 := z11.trans z12
        have b12 := b9.same z12
        unfold TupAt at b12
        walk_at "rd"
        refine ⟨_, _, _, _, rfl, rfl, SqL.of (z12 _ _ h9), hz, ?_⟩
        walk_at "rd"
        refine ⟨c, n', s', lo, hi, rfl, c9.same z12, cy, lo1, lo2, hi1, hi2, fun H13 z13 => ?_⟩
        have z13 := z12.trans z13
        have h13 := z13 _ _ h9
        have t13 := t9.same z13
        have u13 := u9.same z13
        have c13 := c9.same z13
        walk_at "rd"
        refine for_list (K := K) (a := l) (xs := [.ref t, .ref u]) (fun i σ H' => Stop (∃ v6, σ = [some (.ref sa), some (.ref bx), some (.ref l), some (.ref tb), some (.int z), some (.int near), some (.int days), some (.int long), some (.int last), v6] ∧ H' = H13))
          (.go ⟨_, rfl, rfl⟩) (fun i σ H' _ h => by obtain ⟨_, _, e⟩ := h.out; rw [e]; exact SqL.of h13) ?_ ?_
        · intro i o σ H' hi5 hm
          obtain ⟨v6, rfl, rfl⟩ := hm.out
          have ho : ∃ (o' : Addr) (m' r' : Int), o = .ref o' ∧ TupAt H' o' m' r' ∧ Cyc m' r' := by
            have hm := List.mem_of_getElem? hi5
            simp only [List.mem_cons, List.not_mem_nil, or_false] at hm
            rcases hm with h | h
            · exact ⟨t, n, s, h, t13, cy1⟩
            · exact ⟨u, m, r, h, u13, cy2⟩
          obtain ⟨o', m', r', rfl, to, co⟩ := ho
          walk_at "rd"
          refine ⟨_, _, _, _, rfl, rfl, SqL.of h13, hz, ?_⟩
          walk_at "rd"
          refine ⟨c, o', n', s', m', r', rfl, c13, to, cy.1, by have := cy.2.1; omega, ?_⟩
          walk_at "rd"
          refine ⟨_, _, _, _, rfl, rfl, SqL.of h13, hz, ?_⟩
          walk_at "rd"
          refine ⟨c, o', n', s', m', r', rfl, c13, to, cy, co, ?_⟩
          walk_at "rd"
          exact .go ⟨_, rfl, rfl⟩
        · intro σ H' hm
          obtain ⟨v6, rfl, rfl⟩ := hm.out
          exact .go ⟨_, _, _, _, _, _, rfl, B9.same z13, z13 _ _ w9, h13, t13, u13, b9.same z13⟩
    · intro σ H' hm
      obtain ⟨v1, v2, v3, v4, v5, v6, rfl, _⟩ := hm.out
      walk_at "rd"
      exact k _
end
end Toy
set_option Elab.async false
set_option linter.all false
set_option maxRecDepth 100000
set_option maxHeartbeats 4000000
namespace Toy
open PySem L2 XR
theorem all_mk {l : PySem.W.OpenLaw} {w : World} {K : PySem.W.Frag} {h : Heap} {mg : Str → Option Value} {fa : Addr} (X : K.In h) (G : h.Ns mainGlobals mg) (hfa : mg "law" = some (.ref fa))
    {x_Disjoint_init x_OutOfRange_init x__inverse x_Residue_init x_Residue___eq__ x_Residue___str__ x_Residue___contains__ x_Residue___add__ x_Residue___sub__ x_Residue___neg__ x_Residue___and__ x_Residue_first_from x_Residue_count_in x_place_on x_days_at x_all_cycles x_moved x_turns x_is_whole x_whole_outers x__law_box x__law_draw x__law_is_number x__law_day x__law_cycles x__law_bounds x__law_shown x__law_is_cycle x__law_is_list x__law_says x__law_refused x__law_places x__law_moved x__law_turns x__law_counted x__law_whole x__law_suits x__law_lists x_law x_ArchiveError x_UnknownError x_TextError x_ImpossibleError x_Disjoint x_OutOfRange x_Residue : Addr}
    {od_Disjoint_init an_Disjoint_init : Option Addr} {sl_Disjoint_init : Array (Option Value)} {oc_Disjoint_init kV_Disjoint_init dc_Disjoint_init pm_Disjoint_init cd_Disjoint_init ct_Disjoint_init : Value}
    {od_OutOfRange_init an_OutOfRange_init : Option Addr} {sl_OutOfRange_init : Array (Option Value)} {oc_OutOfRange_init kV_OutOfRange_init dc_OutOfRange_init pm_OutOfRange_init cd_OutOfRange_init ct_OutOfRange_init : Value}
    {od__inverse an__inverse : Option Addr} {sl__inverse : Array (Option Value)} {oc__inverse kV__inverse dc__inverse pm__inverse cd__inverse ct__inverse : Value}
    {od_Residue_init an_Residue_init : Option Addr} {sl_Residue_init : Array (Option Value)} {oc_Residue_init kV_Residue_init dc_Residue_init pm_Residue_init cd_Residue_init ct_Residue_init : Value}
    {od_Residue___eq__ an_Residue___eq__ : Option Addr} {sl_Residue___eq__ : Array (Option Value)} {oc_Residue___eq__ kV_Residue___eq__ dc_Residue___eq__ pm_Residue___eq__ cd_Residue___eq__ ct_Residue___eq__ : Value}
    {od_Residue___str__ an_Residue___str__ : Option Addr} {sl_Residue___str__ : Array (Option Value)} {oc_Residue___str__ kV_Residue___str__ dc_Residue___str__ pm_Residue___str__ cd_Residue___str__ ct_Residue___str__ : Value}
    {od_Residue___contains__ an_Residue___contains__ : Option Addr} {sl_Residue___contains__ : Array (Option Value)} {oc_Residue___contains__ kV_Residue___contains__ dc_Residue___contains__ pm_Residue___contains__ cd_Residue___contains__ ct_Residue___contains__ : Value}
    {od_Residue___add__ an_Residue___add__ : Option Addr} {sl_Residue___add__ : Array (Option Value)} {oc_Residue___add__ kV_Residue___add__ dc_Residue___add__ pm_Residue___add__ cd_Residue___add__ ct_Residue___add__ : Value}
    {od_Residue___sub__ an_Residue___sub__ : Option Addr} {sl_Residue___sub__ : Array (Option Value)} {oc_Residue___sub__ kV_Residue___sub__ dc_Residue___sub__ pm_Residue___sub__ cd_Residue___sub__ ct_Residue___sub__ : Value}
    {od_Residue___neg__ an_Residue___neg__ : Option Addr} {sl_Residue___neg__ : Array (Option Value)} {oc_Residue___neg__ kV_Residue___neg__ dc_Residue___neg__ pm_Residue___neg__ cd_Residue___neg__ ct_Residue___neg__ : Value}
    {od_Residue___and__ an_Residue___and__ : Option Addr} {sl_Residue___and__ : Array (Option Value)} {oc_Residue___and__ kV_Residue___and__ dc_Residue___and__ pm_Residue___and__ cd_Residue___and__ ct_Residue___and__ : Value}
    {od_Residue_first_from an_Residue_first_from : Option Addr} {sl_Residue_first_from : Array (Option Value)} {oc_Residue_first_from kV_Residue_first_from dc_Residue_first_from pm_Residue_first_from cd_Residue_first_from ct_Residue_first_from : Value}
    {od_Residue_count_in an_Residue_count_in : Option Addr} {sl_Residue_count_in : Array (Option Value)} {oc_Residue_count_in kV_Residue_count_in dc_Residue_count_in pm_Residue_count_in cd_Residue_count_in ct_Residue_count_in : Value}
    {od_place_on an_place_on : Option Addr} {sl_place_on : Array (Option Value)} {oc_place_on kV_place_on dc_place_on pm_place_on cd_place_on ct_place_on : Value}
    {od_days_at an_days_at : Option Addr} {sl_days_at : Array (Option Value)} {oc_days_at kV_days_at dc_days_at pm_days_at cd_days_at ct_days_at : Value}
    {od_all_cycles an_all_cycles : Option Addr} {sl_all_cycles : Array (Option Value)} {oc_all_cycles kV_all_cycles dc_all_cycles pm_all_cycles cd_all_cycles ct_all_cycles : Value}
    {od_moved an_moved : Option Addr} {sl_moved : Array (Option Value)} {oc_moved kV_moved dc_moved pm_moved cd_moved ct_moved : Value}
    {od_turns an_turns : Option Addr} {sl_turns : Array (Option Value)} {oc_turns kV_turns dc_turns pm_turns cd_turns ct_turns : Value}
    {od_is_whole an_is_whole : Option Addr} {sl_is_whole : Array (Option Value)} {oc_is_whole kV_is_whole dc_is_whole pm_is_whole cd_is_whole ct_is_whole : Value}
    {od_whole_outers an_whole_outers : Option Addr} {sl_whole_outers : Array (Option Value)} {oc_whole_outers kV_whole_outers dc_whole_outers pm_whole_outers cd_whole_outers ct_whole_outers : Value}
    {od__law_box an__law_box : Option Addr} {sl__law_box : Array (Option Value)} {oc__law_box kV__law_box dc__law_box pm__law_box cd__law_box ct__law_box : Value}
    {od__law_draw an__law_draw : Option Addr} {sl__law_draw : Array (Option Value)} {oc__law_draw kV__law_draw dc__law_draw pm__law_draw cd__law_draw ct__law_draw : Value}
    {od__law_is_number an__law_is_number : Option Addr} {sl__law_is_number : Array (Option Value)} {oc__law_is_number kV__law_is_number dc__law_is_number pm__law_is_number cd__law_is_number ct__law_is_number : Value}
    {od__law_day an__law_day : Option Addr} {sl__law_day : Array (Option Value)} {oc__law_day kV__law_day dc__law_day pm__law_day cd__law_day ct__law_day : Value}
    {od__law_cycles an__law_cycles : Option Addr} {sl__law_cycles : Array (Option Value)} {oc__law_cycles kV__law_cycles dc__law_cycles pm__law_cycles cd__law_cycles ct__law_cycles : Value}
    {od__law_bounds an__law_bounds : Option Addr} {sl__law_bounds : Array (Option Value)} {oc__law_bounds kV__law_bounds dc__law_bounds pm__law_bounds cd__law_bounds ct__law_bounds : Value}
    {od__law_shown an__law_shown : Option Addr} {sl__law_shown : Array (Option Value)} {oc__law_shown kV__law_shown dc__law_shown pm__law_shown cd__law_shown ct__law_shown : Value}
    {od__law_is_cycle an__law_is_cycle : Option Addr} {sl__law_is_cycle : Array (Option Value)} {oc__law_is_cycle kV__law_is_cycle dc__law_is_cycle pm__law_is_cycle cd__law_is_cycle ct__law_is_cycle : Value}
    {od__law_is_list an__law_is_list : Option Addr} {sl__law_is_list : Array (Option Value)} {oc__law_is_list kV__law_is_list dc__law_is_list pm__law_is_list cd__law_is_list ct__law_is_list : Value}
    {od__law_says an__law_says : Option Addr} {sl__law_says : Array (Option Value)} {oc__law_says kV__law_says dc__law_says pm__law_says cd__law_says ct__law_says : Value}
    {od__law_refused an__law_refused : Option Addr} {sl__law_refused : Array (Option Value)} {oc__law_refused kV__law_refused dc__law_refused pm__law_refused cd__law_refused ct__law_refused : Value}
    {od__law_places an__law_places : Option Addr} {sl__law_places : Array (Option Value)} {oc__law_places kV__law_places dc__law_places pm__law_places cd__law_places ct__law_places : Value}
    {od__law_moved an__law_moved : Option Addr} {sl__law_moved : Array (Option Value)} {oc__law_moved kV__law_moved dc__law_moved pm__law_moved cd__law_moved ct__law_moved : Value}
    {od__law_turns an__law_turns : Option Addr} {sl__law_turns : Array (Option Value)} {oc__law_turns kV__law_turns dc__law_turns pm__law_turns cd__law_turns ct__law_turns : Value}
    {od__law_counted an__law_counted : Option Addr} {sl__law_counted : Array (Option Value)} {oc__law_counted kV__law_counted dc__law_counted pm__law_counted cd__law_counted ct__law_counted : Value}
    {od__law_whole an__law_whole : Option Addr} {sl__law_whole : Array (Option Value)} {oc__law_whole kV__law_whole dc__law_whole pm__law_whole cd__law_whole ct__law_whole : Value}
    {od__law_suits an__law_suits : Option Addr} {sl__law_suits : Array (Option Value)} {oc__law_suits kV__law_suits dc__law_suits pm__law_suits cd__law_suits ct__law_suits : Value}
    {od__law_lists an__law_lists : Option Addr} {sl__law_lists : Array (Option Value)} {oc__law_lists kV__law_lists dc__law_lists pm__law_lists cd__law_lists ct__law_lists : Value}
    {od_law an_law : Option Addr} {sl_law : Array (Option Value)} {oc_law kV_law dc_law pm_law cd_law ct_law : Value}
    {nm_OutOfRange q_OutOfRange : Str} {N_OutOfRange : Addr} {bs_OutOfRange bm_OutOfRange : List Value} {sn_OutOfRange : List Str} {sub_OutOfRange : List Value} {ab_OutOfRange : Bool} {col_OutOfRange : Option Bool} {dd_OutOfRange : Option Addr} {m0_OutOfRange m1_OutOfRange m2_OutOfRange m3_OutOfRange m5_OutOfRange : Option Value}
    (hC_ArchiveError : PySem.W.nsIn K mainGlobals "ArchiveError" = some (some (.ref x_ArchiveError)))
    (hK_ArchiveError : PySem.W.keepIn K (.ref x_ArchiveError) = true)
    (hC_UnknownError : PySem.W.nsIn K mainGlobals "UnknownError" = some (some (.ref x_UnknownError)))
    (hK_UnknownError : PySem.W.keepIn K (.ref x_UnknownError) = true)
    (hC_TextError : PySem.W.nsIn K mainGlobals "TextError" = some (some (.ref x_TextError)))
    (hK_TextError : PySem.W.keepIn K (.ref x_TextError) = true)
    (hC_ImpossibleError : PySem.W.nsIn K mainGlobals "ImpossibleError" = some (some (.ref x_ImpossibleError)))
    (hK_ImpossibleError : PySem.W.keepIn K (.ref x_ImpossibleError) = true)
    (hC_Disjoint : PySem.W.nsIn K mainGlobals "Disjoint" = some (some (.ref x_Disjoint)))
    (hK_Disjoint : PySem.W.keepIn K (.ref x_Disjoint) = true)
    (hC_OutOfRange : PySem.W.nsIn K mainGlobals "OutOfRange" = some (some (.ref x_OutOfRange)))
    (hK_OutOfRange : PySem.W.keepIn K (.ref x_OutOfRange) = true)
    (hC_Residue : PySem.W.nsIn K mainGlobals "Residue" = some (some (.ref x_Residue)))
    (hK_Residue : PySem.W.keepIn K (.ref x_Residue) = true)
    (ha_Disjoint_init : PySem.W.findIn K (.ref x_Disjoint) "__init__" = some (some (.ref x_Disjoint_init)))
    (hi_Disjoint_init : PySem.W.isFn K (.ref x_Disjoint_init) = true)
    (hl_Disjoint_init : K.lookup x_Disjoint_init = some ⟨oc_Disjoint_init, od_Disjoint_init, .func (PySem.W.fnOf "__init__" "Disjoint.__init__" (defArgs s_Disjoint_init) (defBody s_Disjoint_init) (defScope s_Disjoint_init) .none kV_Disjoint_init dc_Disjoint_init pm_Disjoint_init an_Disjoint_init cd_Disjoint_init ct_Disjoint_init), sl_Disjoint_init⟩)
    (hc_Disjoint_init : PySem.W.codeIn K cd_Disjoint_init "Disjoint.__init__" = true)
    (hk_Disjoint_init : PySem.W.keepIn K (.ref x_Disjoint_init) = true)
    (ha_OutOfRange_init : PySem.W.findIn K (.ref x_OutOfRange) "__init__" = some (some (.ref x_OutOfRange_init)))
    (hi_OutOfRange_init : PySem.W.isFn K (.ref x_OutOfRange_init) = true)
    (hl_OutOfRange_init : K.lookup x_OutOfRange_init = some ⟨oc_OutOfRange_init, od_OutOfRange_init, .func (PySem.W.fnOf "__init__" "OutOfRange.__init__" (defArgs s_OutOfRange_init) (defBody s_OutOfRange_init) (defScope s_OutOfRange_init) .none kV_OutOfRange_init dc_OutOfRange_init pm_OutOfRange_init an_OutOfRange_init cd_OutOfRange_init ct_OutOfRange_init), sl_OutOfRange_init⟩)
    (hc_OutOfRange_init : PySem.W.codeIn K cd_OutOfRange_init "OutOfRange.__init__" = true)
    (hk_OutOfRange_init : PySem.W.keepIn K (.ref x_OutOfRange_init) = true)
    (ha__inverse : PySem.W.nsIn K mainGlobals "_inverse" = some (some (.ref x__inverse)))
    (hl__inverse : K.lookup x__inverse = some ⟨oc__inverse, od__inverse, .func (PySem.W.fnOf "_inverse" "_inverse" (defArgs s__inverse) (defBody s__inverse) (defScope s__inverse) .none kV__inverse dc__inverse pm__inverse an__inverse cd__inverse ct__inverse), sl__inverse⟩)
    (hc__inverse : PySem.W.codeIn K cd__inverse "_inverse" = true)
    (hk__inverse : PySem.W.keepIn K (.ref x__inverse) = true)
    (ha_Residue_init : PySem.W.findIn K (.ref x_Residue) "__init__" = some (some (.ref x_Residue_init)))
    (hi_Residue_init : PySem.W.isFn K (.ref x_Residue_init) = true)
    (hl_Residue_init : K.lookup x_Residue_init = some ⟨oc_Residue_init, od_Residue_init, .func (PySem.W.fnOf "__init__" "Residue.__init__" (defArgs s_Residue_init) (defBody s_Residue_init) (defScope s_Residue_init) .none kV_Residue_init dc_Residue_init pm_Residue_init an_Residue_init cd_Residue_init ct_Residue_init), sl_Residue_init⟩)
    (hc_Residue_init : PySem.W.codeIn K cd_Residue_init "Residue.__init__" = true)
    (hk_Residue_init : PySem.W.keepIn K (.ref x_Residue_init) = true)
    (ha_Residue___eq__ : PySem.W.findIn K (.ref x_Residue) "__eq__" = some (some (.ref x_Residue___eq__)))
    (hi_Residue___eq__ : PySem.W.isFn K (.ref x_Residue___eq__) = true)
    (hl_Residue___eq__ : K.lookup x_Residue___eq__ = some ⟨oc_Residue___eq__, od_Residue___eq__, .func (PySem.W.fnOf "__eq__" "Residue.__eq__" (defArgs s_Residue___eq__) (defBody s_Residue___eq__) (defScope s_Residue___eq__) .none kV_Residue___eq__ dc_Residue___eq__ pm_Residue___eq__ an_Residue___eq__ cd_Residue___eq__ ct_Residue___eq__), sl_Residue___eq__⟩)
    (hc_Residue___eq__ : PySem.W.codeIn K cd_Residue___eq__ "Residue.__eq__" = true)
    (hk_Residue___eq__ : PySem.W.keepIn K (.ref x_Residue___eq__) = true)
    (ha_Residue___str__ : PySem.W.findIn K (.ref x_Residue) "__str__" = some (some (.ref x_Residue___str__)))
    (hi_Residue___str__ : PySem.W.isFn K (.ref x_Residue___str__) = true)
    (hl_Residue___str__ : K.lookup x_Residue___str__ = some ⟨oc_Residue___str__, od_Residue___str__, .func (PySem.W.fnOf "__str__" "Residue.__str__" (defArgs s_Residue___str__) (defBody s_Residue___str__) (defScope s_Residue___str__) .none kV_Residue___str__ dc_Residue___str__ pm_Residue___str__ an_Residue___str__ cd_Residue___str__ ct_Residue___str__), sl_Residue___str__⟩)
    (hc_Residue___str__ : PySem.W.codeIn K cd_Residue___str__ "Residue.__str__" = true)
    (hk_Residue___str__ : PySem.W.keepIn K (.ref x_Residue___str__) = true)
    (ha_Residue___contains__ : PySem.W.findIn K (.ref x_Residue) "__contains__" = some (some (.ref x_Residue___contains__)))
    (hi_Residue___contains__ : PySem.W.isFn K (.ref x_Residue___contains__) = true)
    (hl_Residue___contains__ : K.lookup x_Residue___contains__ = some ⟨oc_Residue___contains__, od_Residue___contains__, .func (PySem.W.fnOf "__contains__" "Residue.__contains__" (defArgs s_Residue___contains__) (defBody s_Residue___contains__) (defScope s_Residue___contains__) .none kV_Residue___contains__ dc_Residue___contains__ pm_Residue___contains__ an_Residue___contains__ cd_Residue___contains__ ct_Residue___contains__), sl_Residue___contains__⟩)
    (hc_Residue___contains__ : PySem.W.codeIn K cd_Residue___contains__ "Residue.__contains__" = true)
    (hk_Residue___contains__ : PySem.W.keepIn K (.ref x_Residue___contains__) = true)
    (ha_Residue___add__ : PySem.W.findIn K (.ref x_Residue) "__add__" = some (some (.ref x_Residue___add__)))
    (hi_Residue___add__ : PySem.W.isFn K (.ref x_Residue___add__) = true)
    (hl_Residue___add__ : K.lookup x_Residue___add__ = some ⟨oc_Residue___add__, od_Residue___add__, .func (PySem.W.fnOf "__add__" "Residue.__add__" (defArgs s_Residue___add__) (defBody s_Residue___add__) (defScope s_Residue___add__) .none kV_Residue___add__ dc_Residue___add__ pm_Residue___add__ an_Residue___add__ cd_Residue___add__ ct_Residue___add__), sl_Residue___add__⟩)
    (hc_Residue___add__ : PySem.W.codeIn K cd_Residue___add__ "Residue.__add__" = true)
    (hk_Residue___add__ : PySem.W.keepIn K (.ref x_Residue___add__) = true)
    (ha_Residue___sub__ : PySem.W.findIn K (.ref x_Residue) "__sub__" = some (some (.ref x_Residue___sub__)))
    (hi_Residue___sub__ : PySem.W.isFn K (.ref x_Residue___sub__) = true)
    (hl_Residue___sub__ : K.lookup x_Residue___sub__ = some ⟨oc_Residue___sub__, od_Residue___sub__, .func (PySem.W.fnOf "__sub__" "Residue.__sub__" (defArgs s_Residue___sub__) (defBody s_Residue___sub__) (defScope s_Residue___sub__) .none kV_Residue___sub__ dc_Residue___sub__ pm_Residue___sub__ an_Residue___sub__ cd_Residue___sub__ ct_Residue___sub__), sl_Residue___sub__⟩)
    (hc_Residue___sub__ : PySem.W.codeIn K cd_Residue___sub__ "Residue.__sub__" = true)
    (hk_Residue___sub__ : PySem.W.keepIn K (.ref x_Residue___sub__) = true)
    (ha_Residue___neg__ : PySem.W.findIn K (.ref x_Residue) "__neg__" = some (some (.ref x_Residue___neg__)))
    (hi_Residue___neg__ : PySem.W.isFn K (.ref x_Residue___neg__) = true)
    (hl_Residue___neg__ : K.lookup x_Residue___neg__ = some ⟨oc_Residue___neg__, od_Residue___neg__, .func (PySem.W.fnOf "__neg__" "Residue.__neg__" (defArgs s_Residue___neg__) (defBody s_Residue___neg__) (defScope s_Residue___neg__) .none kV_Residue___neg__ dc_Residue___neg__ pm_Residue___neg__ an_Residue___neg__ cd_Residue___neg__ ct_Residue___neg__), sl_Residue___neg__⟩)
    (hc_Residue___neg__ : PySem.W.codeIn K cd_Residue___neg__ "Residue.__neg__" = true)
    (hk_Residue___neg__ : PySem.W.keepIn K (.ref x_Residue___neg__) = true)
    (ha_Residue___and__ : PySem.W.findIn K (.ref x_Residue) "__and__" = some (some (.ref x_Residue___and__)))
    (hi_Residue___and__ : PySem.W.isFn K (.ref x_Residue___and__) = true)
    (hl_Residue___and__ : K.lookup x_Residue___and__ = some ⟨oc_Residue___and__, od_Residue___and__, .func (PySem.W.fnOf "__and__" "Residue.__and__" (defArgs s_Residue___and__) (defBody s_Residue___and__) (defScope s_Residue___and__) .none kV_Residue___and__ dc_Residue___and__ pm_Residue___and__ an_Residue___and__ cd_Residue___and__ ct_Residue___and__), sl_Residue___and__⟩)
    (hc_Residue___and__ : PySem.W.codeIn K cd_Residue___and__ "Residue.__and__" = true)
    (hk_Residue___and__ : PySem.W.keepIn K (.ref x_Residue___and__) = true)
    (ha_Residue_first_from : PySem.W.findIn K (.ref x_Residue) "first_from" = some (some (.ref x_Residue_first_from)))
    (hi_Residue_first_from : PySem.W.isFn K (.ref x_Residue_first_from) = true)
    (hl_Residue_first_from : K.lookup x_Residue_first_from = some ⟨oc_Residue_first_from, od_Residue_first_from, .func (PySem.W.fnOf "first_from" "Residue.first_from" (defArgs s_Residue_first_from) (defBody s_Residue_first_from) (defScope s_Residue_first_from) .none kV_Residue_first_from dc_Residue_first_from pm_Residue_first_from an_Residue_first_from cd_Residue_first_from ct_Residue_first_from), sl_Residue_first_from⟩)
    (hc_Residue_first_from : PySem.W.codeIn K cd_Residue_first_from "Residue.first_from" = true)
    (hk_Residue_first_from : PySem.W.keepIn K (.ref x_Residue_first_from) = true)
    (ha_Residue_count_in : PySem.W.findIn K (.ref x_Residue) "count_in" = some (some (.ref x_Residue_count_in)))
    (hi_Residue_count_in : PySem.W.isFn K (.ref x_Residue_count_in) = true)
    (hl_Residue_count_in : K.lookup x_Residue_count_in = some ⟨oc_Residue_count_in, od_Residue_count_in, .func (PySem.W.fnOf "count_in" "Residue.count_in" (defArgs s_Residue_count_in) (defBody s_Residue_count_in) (defScope s_Residue_count_in) .none kV_Residue_count_in dc_Residue_count_in pm_Residue_count_in an_Residue_count_in cd_Residue_count_in ct_Residue_count_in), sl_Residue_count_in⟩)
    (hc_Residue_count_in : PySem.W.codeIn K cd_Residue_count_in "Residue.count_in" = true)
    (hk_Residue_count_in : PySem.W.keepIn K (.ref x_Residue_count_in) = true)
    (ha_place_on : PySem.W.nsIn K mainGlobals "place_on" = some (some (.ref x_place_on)))
    (hl_place_on : K.lookup x_place_on = some ⟨oc_place_on, od_place_on, .func (PySem.W.fnOf "place_on" "place_on" (defArgs s_place_on) (defBody s_place_on) (defScope s_place_on) .none kV_place_on dc_place_on pm_place_on an_place_on cd_place_on ct_place_on), sl_place_on⟩)
    (hc_place_on : PySem.W.codeIn K cd_place_on "place_on" = true)
    (hk_place_on : PySem.W.keepIn K (.ref x_place_on) = true)
    (ha_days_at : PySem.W.nsIn K mainGlobals "days_at" = some (some (.ref x_days_at)))
    (hl_days_at : K.lookup x_days_at = some ⟨oc_days_at, od_days_at, .func (PySem.W.fnOf "days_at" "days_at" (defArgs s_days_at) (defBody s_days_at) (defScope s_days_at) .none kV_days_at dc_days_at pm_days_at an_days_at cd_days_at ct_days_at), sl_days_at⟩)
    (hc_days_at : PySem.W.codeIn K cd_days_at "days_at" = true)
    (hk_days_at : PySem.W.keepIn K (.ref x_days_at) = true)
    (ha_all_cycles : PySem.W.nsIn K mainGlobals "all_cycles" = some (some (.ref x_all_cycles)))
    (hl_all_cycles : K.lookup x_all_cycles = some ⟨oc_all_cycles, od_all_cycles, .func (PySem.W.fnOf "all_cycles" "all_cycles" (defArgs s_all_cycles) (defBody s_all_cycles) (defScope s_all_cycles) .none kV_all_cycles dc_all_cycles pm_all_cycles an_all_cycles cd_all_cycles ct_all_cycles), sl_all_cycles⟩)
    (hc_all_cycles : PySem.W.codeIn K cd_all_cycles "all_cycles" = true)
    (hk_all_cycles : PySem.W.keepIn K (.ref x_all_cycles) = true)
    (ha_moved : PySem.W.nsIn K mainGlobals "moved" = some (some (.ref x_moved)))
    (hl_moved : K.lookup x_moved = some ⟨oc_moved, od_moved, .func (PySem.W.fnOf "moved" "moved" (defArgs s_moved) (defBody s_moved) (defScope s_moved) .none kV_moved dc_moved pm_moved an_moved cd_moved ct_moved), sl_moved⟩)
    (hc_moved : PySem.W.codeIn K cd_moved "moved" = true)
    (hk_moved : PySem.W.keepIn K (.ref x_moved) = true)
    (ha_turns : PySem.W.nsIn K mainGlobals "turns" = some (some (.ref x_turns)))
    (hl_turns : K.lookup x_turns = some ⟨oc_turns, od_turns, .func (PySem.W.fnOf "turns" "turns" (defArgs s_turns) (defBody s_turns) (defScope s_turns) .none kV_turns dc_turns pm_turns an_turns cd_turns ct_turns), sl_turns⟩)
    (hc_turns : PySem.W.codeIn K cd_turns "turns" = true)
    (hk_turns : PySem.W.keepIn K (.ref x_turns) = true)
    (ha_is_whole : PySem.W.nsIn K mainGlobals "is_whole" = some (some (.ref x_is_whole)))
    (hl_is_whole : K.lookup x_is_whole = some ⟨oc_is_whole, od_is_whole, .func (PySem.W.fnOf "is_whole" "is_whole" (defArgs s_is_whole) (defBody s_is_whole) (defScope s_is_whole) .none kV_is_whole dc_is_whole pm_is_whole an_is_whole cd_is_whole ct_is_whole), sl_is_whole⟩)
    (hc_is_whole : PySem.W.codeIn K cd_is_whole "is_whole" = true)
    (hk_is_whole : PySem.W.keepIn K (.ref x_is_whole) = true)
    (ha_whole_outers : PySem.W.nsIn K mainGlobals "whole_outers" = some (some (.ref x_whole_outers)))
    (hl_whole_outers : K.lookup x_whole_outers = some ⟨oc_whole_outers, od_whole_outers, .func (PySem.W.fnOf "whole_outers" "whole_outers" (defArgs s_whole_outers) (defBody s_whole_outers) (defScope s_whole_outers) .none kV_whole_outers dc_whole_outers pm_whole_outers an_whole_outers cd_whole_outers ct_whole_outers), sl_whole_outers⟩)
    (hc_whole_outers : PySem.W.codeIn K cd_whole_outers "whole_outers" = true)
    (hk_whole_outers : PySem.W.keepIn K (.ref x_whole_outers) = true)
    (ha__law_box : PySem.W.nsIn K mainGlobals "_law_box" = some (some (.ref x__law_box)))
    (hl__law_box : K.lookup x__law_box = some ⟨oc__law_box, od__law_box, .func (PySem.W.fnOf "_law_box" "_law_box" (defArgs s__law_box) (defBody s__law_box) (defScope s__law_box) .none kV__law_box dc__law_box pm__law_box an__law_box cd__law_box ct__law_box), sl__law_box⟩)
    (hc__law_box : PySem.W.codeIn K cd__law_box "_law_box" = true)
    (hk__law_box : PySem.W.keepIn K (.ref x__law_box) = true)
    (ha__law_draw : PySem.W.nsIn K mainGlobals "_law_draw" = some (some (.ref x__law_draw)))
    (hl__law_draw : K.lookup x__law_draw = some ⟨oc__law_draw, od__law_draw, .func (PySem.W.fnOf "_law_draw" "_law_draw" (defArgs s__law_draw) (defBody s__law_draw) (defScope s__law_draw) .none kV__law_draw dc__law_draw pm__law_draw an__law_draw cd__law_draw ct__law_draw), sl__law_draw⟩)
    (hc__law_draw : PySem.W.codeIn K cd__law_draw "_law_draw" = true)
    (hk__law_draw : PySem.W.keepIn K (.ref x__law_draw) = true)
    (ha__law_is_number : PySem.W.nsIn K mainGlobals "_law_is_number" = some (some (.ref x__law_is_number)))
    (hl__law_is_number : K.lookup x__law_is_number = some ⟨oc__law_is_number, od__law_is_number, .func (PySem.W.fnOf "_law_is_number" "_law_is_number" (defArgs s__law_is_number) (defBody s__law_is_number) (defScope s__law_is_number) .none kV__law_is_number dc__law_is_number pm__law_is_number an__law_is_number cd__law_is_number ct__law_is_number), sl__law_is_number⟩)
    (hc__law_is_number : PySem.W.codeIn K cd__law_is_number "_law_is_number" = true)
    (hk__law_is_number : PySem.W.keepIn K (.ref x__law_is_number) = true)
    (ha__law_day : PySem.W.nsIn K mainGlobals "_law_day" = some (some (.ref x__law_day)))
    (hl__law_day : K.lookup x__law_day = some ⟨oc__law_day, od__law_day, .func (PySem.W.fnOf "_law_day" "_law_day" (defArgs s__law_day) (defBody s__law_day) (defScope s__law_day) .none kV__law_day dc__law_day pm__law_day an__law_day cd__law_day ct__law_day), sl__law_day⟩)
    (hc__law_day : PySem.W.codeIn K cd__law_day "_law_day" = true)
    (hk__law_day : PySem.W.keepIn K (.ref x__law_day) = true)
    (ha__law_cycles : PySem.W.nsIn K mainGlobals "_law_cycles" = some (some (.ref x__law_cycles)))
    (hl__law_cycles : K.lookup x__law_cycles = some ⟨oc__law_cycles, od__law_cycles, .func (PySem.W.fnOf "_law_cycles" "_law_cycles" (defArgs s__law_cycles) (defBody s__law_cycles) (defScope s__law_cycles) .none kV__law_cycles dc__law_cycles pm__law_cycles an__law_cycles cd__law_cycles ct__law_cycles), sl__law_cycles⟩)
    (hc__law_cycles : PySem.W.codeIn K cd__law_cycles "_law_cycles" = true)
    (hk__law_cycles : PySem.W.keepIn K (.ref x__law_cycles) = true)
    (ha__law_bounds : PySem.W.nsIn K mainGlobals "_law_bounds" = some (some (.ref x__law_bounds)))
    (hl__law_bounds : K.lookup x__law_bounds = some ⟨oc__law_bounds, od__law_bounds, .func (PySem.W.fnOf "_law_bounds" "_law_bounds" (defArgs s__law_bounds) (defBody s__law_bounds) (defScope s__law_bounds) .none kV__law_bounds dc__law_bounds pm__law_bounds an__law_bounds cd__law_bounds ct__law_bounds), sl__law_bounds⟩)
    (hc__law_bounds : PySem.W.codeIn K cd__law_bounds "_law_bounds" = true)
    (hk__law_bounds : PySem.W.keepIn K (.ref x__law_bounds) = true)
    (ha__law_shown : PySem.W.nsIn K mainGlobals "_law_shown" = some (some (.ref x__law_shown)))
    (hl__law_shown : K.lookup x__law_shown = some ⟨oc__law_shown, od__law_shown, .func (PySem.W.fnOf "_law_shown" "_law_shown" (defArgs s__law_shown) (defBody s__law_shown) (defScope s__law_shown) .none kV__law_shown dc__law_shown pm__law_shown an__law_shown cd__law_shown ct__law_shown), sl__law_shown⟩)
    (hc__law_shown : PySem.W.codeIn K cd__law_shown "_law_shown" = true)
    (hk__law_shown : PySem.W.keepIn K (.ref x__law_shown) = true)
    (ha__law_is_cycle : PySem.W.nsIn K mainGlobals "_law_is_cycle" = some (some (.ref x__law_is_cycle)))
    (hl__law_is_cycle : K.lookup x__law_is_cycle = some ⟨oc__law_is_cycle, od__law_is_cycle, .func (PySem.W.fnOf "_law_is_cycle" "_law_is_cycle" (defArgs s__law_is_cycle) (defBody s__law_is_cycle) (defScope s__law_is_cycle) .none kV__law_is_cycle dc__law_is_cycle pm__law_is_cycle an__law_is_cycle cd__law_is_cycle ct__law_is_cycle), sl__law_is_cycle⟩)
    (hc__law_is_cycle : PySem.W.codeIn K cd__law_is_cycle "_law_is_cycle" = true)
    (hk__law_is_cycle : PySem.W.keepIn K (.ref x__law_is_cycle) = true)
    (ha__law_is_list : PySem.W.nsIn K mainGlobals "_law_is_list" = some (some (.ref x__law_is_list)))
    (hl__law_is_list : K.lookup x__law_is_list = some ⟨oc__law_is_list, od__law_is_list, .func (PySem.W.fnOf "_law_is_list" "_law_is_list" (defArgs s__law_is_list) (defBody s__law_is_list) (defScope s__law_is_list) .none kV__law_is_list dc__law_is_list pm__law_is_list an__law_is_list cd__law_is_list ct__law_is_list), sl__law_is_list⟩)
    (hc__law_is_list : PySem.W.codeIn K cd__law_is_list "_law_is_list" = true)
    (hk__law_is_list : PySem.W.keepIn K (.ref x__law_is_list) = true)
    (ha__law_says : PySem.W.nsIn K mainGlobals "_law_says" = some (some (.ref x__law_says)))
    (hl__law_says : K.lookup x__law_says = some ⟨oc__law_says, od__law_says, .func (PySem.W.fnOf "_law_says" "_law_says" (defArgs s__law_says) (defBody s__law_says) (defScope s__law_says) .none kV__law_says dc__law_says pm__law_says an__law_says cd__law_says ct__law_says), sl__law_says⟩)
    (hc__law_says : PySem.W.codeIn K cd__law_says "_law_says" = true)
    (hk__law_says : PySem.W.keepIn K (.ref x__law_says) = true)
    (ha__law_refused : PySem.W.nsIn K mainGlobals "_law_refused" = some (some (.ref x__law_refused)))
    (hl__law_refused : K.lookup x__law_refused = some ⟨oc__law_refused, od__law_refused, .func (PySem.W.fnOf "_law_refused" "_law_refused" (defArgs s__law_refused) (defBody s__law_refused) (defScope s__law_refused) .none kV__law_refused dc__law_refused pm__law_refused an__law_refused cd__law_refused ct__law_refused), sl__law_refused⟩)
    (hc__law_refused : PySem.W.codeIn K cd__law_refused "_law_refused" = true)
    (hk__law_refused : PySem.W.keepIn K (.ref x__law_refused) = true)
    (ha__law_places : PySem.W.nsIn K mainGlobals "_law_places" = some (some (.ref x__law_places)))
    (hl__law_places : K.lookup x__law_places = some ⟨oc__law_places, od__law_places, .func (PySem.W.fnOf "_law_places" "_law_places" (defArgs s__law_places) (defBody s__law_places) (defScope s__law_places) .none kV__law_places dc__law_places pm__law_places an__law_places cd__law_places ct__law_places), sl__law_places⟩)
    (hc__law_places : PySem.W.codeIn K cd__law_places "_law_places" = true)
    (hk__law_places : PySem.W.keepIn K (.ref x__law_places) = true)
    (ha__law_moved : PySem.W.nsIn K mainGlobals "_law_moved" = some (some (.ref x__law_moved)))
    (hl__law_moved : K.lookup x__law_moved = some ⟨oc__law_moved, od__law_moved, .func (PySem.W.fnOf "_law_moved" "_law_moved" (defArgs s__law_moved) (defBody s__law_moved) (defScope s__law_moved) .none kV__law_moved dc__law_moved pm__law_moved an__law_moved cd__law_moved ct__law_moved), sl__law_moved⟩)
    (hc__law_moved : PySem.W.codeIn K cd__law_moved "_law_moved" = true)
    (hk__law_moved : PySem.W.keepIn K (.ref x__law_moved) = true)
    (ha__law_turns : PySem.W.nsIn K mainGlobals "_law_turns" = some (some (.ref x__law_turns)))
    (hl__law_turns : K.lookup x__law_turns = some ⟨oc__law_turns, od__law_turns, .func (PySem.W.fnOf "_law_turns" "_law_turns" (defArgs s__law_turns) (defBody s__law_turns) (defScope s__law_turns) .none kV__law_turns dc__law_turns pm__law_turns an__law_turns cd__law_turns ct__law_turns), sl__law_turns⟩)
    (hc__law_turns : PySem.W.codeIn K cd__law_turns "_law_turns" = true)
    (hk__law_turns : PySem.W.keepIn K (.ref x__law_turns) = true)
    (ha__law_counted : PySem.W.nsIn K mainGlobals "_law_counted" = some (some (.ref x__law_counted)))
    (hl__law_counted : K.lookup x__law_counted = some ⟨oc__law_counted, od__law_counted, .func (PySem.W.fnOf "_law_counted" "_law_counted" (defArgs s__law_counted) (defBody s__law_counted) (defScope s__law_counted) .none kV__law_counted dc__law_counted pm__law_counted an__law_counted cd__law_counted ct__law_counted), sl__law_counted⟩)
    (hc__law_counted : PySem.W.codeIn K cd__law_counted "_law_counted" = true)
    (hk__law_counted : PySem.W.keepIn K (.ref x__law_counted) = true)
    (ha__law_whole : PySem.W.nsIn K mainGlobals "_law_whole" = some (some (.ref x__law_whole)))
    (hl__law_whole : K.lookup x__law_whole = some ⟨oc__law_whole, od__law_whole, .func (PySem.W.fnOf "_law_whole" "_law_whole" (defArgs s__law_whole) (defBody s__law_whole) (defScope s__law_whole) .none kV__law_whole dc__law_whole pm__law_whole an__law_whole cd__law_whole ct__law_whole), sl__law_whole⟩)
    (hc__law_whole : PySem.W.codeIn K cd__law_whole "_law_whole" = true)
    (hk__law_whole : PySem.W.keepIn K (.ref x__law_whole) = true)
    (ha__law_suits : PySem.W.nsIn K mainGlobals "_law_suits" = some (some (.ref x__law_suits)))
    (hl__law_suits : K.lookup x__law_suits = some ⟨oc__law_suits, od__law_suits, .func (PySem.W.fnOf "_law_suits" "_law_suits" (defArgs s__law_suits) (defBody s__law_suits) (defScope s__law_suits) .none kV__law_suits dc__law_suits pm__law_suits an__law_suits cd__law_suits ct__law_suits), sl__law_suits⟩)
    (hc__law_suits : PySem.W.codeIn K cd__law_suits "_law_suits" = true)
    (hk__law_suits : PySem.W.keepIn K (.ref x__law_suits) = true)
    (ha__law_lists : PySem.W.nsIn K mainGlobals "_law_lists" = some (some (.ref x__law_lists)))
    (hl__law_lists : K.lookup x__law_lists = some ⟨oc__law_lists, od__law_lists, .func (PySem.W.fnOf "_law_lists" "_law_lists" (defArgs s__law_lists) (defBody s__law_lists) (defScope s__law_lists) .none kV__law_lists dc__law_lists pm__law_lists an__law_lists cd__law_lists ct__law_lists), sl__law_lists⟩)
    (hc__law_lists : PySem.W.codeIn K cd__law_lists "_law_lists" = true)
    (hk__law_lists : PySem.W.keepIn K (.ref x__law_lists) = true)
    (ha_law : PySem.W.nsIn K mainGlobals "law" = some (some (.ref x_law)))
    (hl_law : K.lookup x_law = some ⟨oc_law, od_law, .func (PySem.W.fnOf "law" "law" (defArgs s_law) (defBody s_law) (defScope s_law) .none kV_law dc_law pm_law an_law cd_law ct_law), sl_law⟩)
    (hc_law : PySem.W.codeIn K cd_law "law" = true)
    (hk_law : PySem.W.keepIn K (.ref x_law) = true)
    (hn_ValueError : PySem.W.nsIn K mainGlobals "ValueError" = some none)
    (hn_abs : PySem.W.nsIn K mainGlobals "abs" = some none)
    (hn_all : PySem.W.nsIn K mainGlobals "all" = some none)
    (hn_bool : PySem.W.nsIn K mainGlobals "bool" = some none)
    (hn_int : PySem.W.nsIn K mainGlobals "int" = some none)
    (hn_isinstance : PySem.W.nsIn K mainGlobals "isinstance" = some none)
    (hn_len : PySem.W.nsIn K mainGlobals "len" = some none)
    (hn_list : PySem.W.nsIn K mainGlobals "list" = some none)
    (hn_max : PySem.W.nsIn K mainGlobals "max" = some none)
    (hn_min : PySem.W.nsIn K mainGlobals "min" = some none)
    (hn_range : PySem.W.nsIn K mainGlobals "range" = some none)
    (hn_tuple : PySem.W.nsIn K mainGlobals "tuple" = some none)
    (ol_OutOfRange : K.lookup x_OutOfRange = some (excClassObj nm_OutOfRange q_OutOfRange x_OutOfRange N_OutOfRange bs_OutOfRange bm_OutOfRange true sn_OutOfRange sub_OutOfRange ab_OutOfRange col_OutOfRange dd_OutOfRange m0_OutOfRange m1_OutOfRange m2_OutOfRange m3_OutOfRange m5_OutOfRange "ValueError.__new__"))
    (or_OutOfRange : PySem.HandSPX.refsVE bm_OutOfRange = true)
    (hx_xsa_OutOfRange : PySem.W.findIn K (.ref x_OutOfRange) "__setattr__" = some (some (.builtin "object.__setattr__")))
    (hx_xga_OutOfRange : PySem.W.findIn K (.ref x_OutOfRange) "__getattribute__" = some (some (.builtin "BaseException.__getattribute__")))
    (hx_xgg_OutOfRange : PySem.W.findIn K (.ref x_OutOfRange) "__getattr__" = some none)
    (hx_xbe_OutOfRange : PySem.W.subIn K (.ref x_OutOfRange) (.type "BaseException") = some true)
    (hx_xty_OutOfRange : PySem.W.typeIn K (.ref x_OutOfRange) = some (.type "type"))
    (hx_xhd_OutOfRange : PySem.W.hasDictIn K x_OutOfRange = true)
    (hx_xca_OutOfRange : PySem.W.findIn K (.ref x_OutOfRange) "__class__" = some (some (.builtin "object.__class__")))
    (hx_xmo_OutOfRange : PySem.W.mroIn K x_OutOfRange (.type "object") = some true)
    (hx_xti_OutOfRange : PySem.W.typeIn K (.ref x_OutOfRange_init) = some (.type "function"))
    (hx_cn_ : PySem.W.specialIn K (.builtin "object.__class__") "__get__" = some (some (.builtin "getset_descriptor.__get__")))
    (hx_ct_ : PySem.W.takesIn K (.builtin "object.__class__") = some true)
    (hx_ymk_Residue : PySem.W.makesIn K x_Residue = true)
    (hx_ypg_Residue : PySem.W.plainGet K x_Residue Str.empty = true)
    (hx_yhd_Residue : PySem.W.hasDictIn K x_Residue = true)
    (hx_ypo_Residue : PySem.W.plainOver K x_Residue = true)
    (hx_ysa_Residue : PySem.W.findIn K (.ref x_Residue) "__setattr__" = some (some (.builtin "object.__setattr__")))
    (hx_ysf_Residue : PySem.W.selfFirst K x_Residue = true)
    (hx_yca_Residue : PySem.W.findIn K (.ref x_Residue) "__class__" = some (some (.builtin "object.__class__")))
    (hx_ymo_Residue : PySem.W.mroIn K x_Residue (.type "object") = some true)
    (hx_no_place : PySem.W.findIn K (.ref x_Residue) "place" = some none)
    (hx_no_length : PySem.W.findIn K (.ref x_Residue) "length" = some none)
    (hx_e_value : PySem.W.findIn K (.ref x_OutOfRange) "value" = some none)
    (hx_z_Residue : PySem.W.kitOne K (.ref x_Residue) (.ref x_Residue) = some true)
    (hx_z_oU : PySem.W.kitOne K (.ref x_OutOfRange) (.ref x_UnknownError) = some false)
    (hx_z_oT : PySem.W.kitOne K (.ref x_OutOfRange) (.ref x_TextError) = some false)
    (hx_z_oI : PySem.W.kitOne K (.ref x_OutOfRange) (.ref x_ImpossibleError) = some false)
    (hx_z_oO : PySem.W.kitOne K (.ref x_OutOfRange) (.ref x_OutOfRange) = some true)
    (hx_z_oV : PySem.W.kitOne K (.ref x_OutOfRange) (.type "ValueError") = some true)
    (hx_m_oa : PySem.W.exmOne K (.ref x_OutOfRange) (.ref x_ArchiveError) = some true) :
    ∃ fd : FuncData, (∀ (s : Shared) (v : Value), BindsTo s fd ⟨[v], []⟩ [("_law_script", v)]) ∧ ∀ base : Heap, K.In base → base.Ns mainGlobals mg → FnOk l.prog w K mg base CX0 10 fa fd ["_law_script"] (spLaw K) := by
  have e := hfa.symm.trans (PySem.W.mg_of X G ha_law)
  cases e
  have F_Disjoint_init := fun_mk (st := s_Disjoint_init) hl_Disjoint_init hc_Disjoint_init hk_Disjoint_init
  have b_Disjoint_init := F_Disjoint_init.binds (ps := ["self", "divisor"]) fun _ _ _ _ _ _ us hl => match us, hl with | [_, _], _ => rfl
  have F_OutOfRange_init := fun_mk (st := s_OutOfRange_init) hl_OutOfRange_init hc_OutOfRange_init hk_OutOfRange_init
  have b_OutOfRange_init := F_OutOfRange_init.binds (ps := ["self", "value"]) fun _ _ _ _ _ _ us hl => match us, hl with | [_, _], _ => rfl
  have F__inverse := fun_mk (st := s__inverse) hl__inverse hc__inverse hk__inverse
  have b__inverse := F__inverse.binds (ps := ["number", "length"]) fun _ _ _ _ _ _ us hl => match us, hl with | [_, _], _ => rfl
  have F_Residue_init := fun_mk (st := s_Residue_init) hl_Residue_init hc_Residue_init hk_Residue_init
  have b_Residue_init := F_Residue_init.binds (ps := ["self", "place", "length"]) fun _ _ _ _ _ _ us hl => match us, hl with | [_, _, _], _ => rfl
  have F_Residue___eq__ := fun_mk (st := s_Residue___eq__) hl_Residue___eq__ hc_Residue___eq__ hk_Residue___eq__
  have b_Residue___eq__ := F_Residue___eq__.binds (ps := ["self", "other"]) fun _ _ _ _ _ _ us hl => match us, hl with | [_, _], _ => rfl
  have F_Residue___str__ := fun_mk (st := s_Residue___str__) hl_Residue___str__ hc_Residue___str__ hk_Residue___str__
  have b_Residue___str__ := F_Residue___str__.binds (ps := ["self"]) fun _ _ _ _ _ _ us hl => match us, hl with | [_], _ => rfl
  have F_Residue___contains__ := fun_mk (st := s_Residue___contains__) hl_Residue___contains__ hc_Residue___contains__ hk_Residue___contains__
  have b_Residue___contains__ := F_Residue___contains__.binds (ps := ["self", "day"]) fun _ _ _ _ _ _ us hl => match us, hl with | [_, _], _ => rfl
  have F_Residue___add__ := fun_mk (st := s_Residue___add__) hl_Residue___add__ hc_Residue___add__ hk_Residue___add__
  have b_Residue___add__ := F_Residue___add__.binds (ps := ["self", "many"]) fun _ _ _ _ _ _ us hl => match us, hl with | [_, _], _ => rfl
  have F_Residue___sub__ := fun_mk (st := s_Residue___sub__) hl_Residue___sub__ hc_Residue___sub__ hk_Residue___sub__
  have b_Residue___sub__ := F_Residue___sub__.binds (ps := ["self", "many"]) fun _ _ _ _ _ _ us hl => match us, hl with | [_, _], _ => rfl
  have F_Residue___neg__ := fun_mk (st := s_Residue___neg__) hl_Residue___neg__ hc_Residue___neg__ hk_Residue___neg__
  have b_Residue___neg__ := F_Residue___neg__.binds (ps := ["self"]) fun _ _ _ _ _ _ us hl => match us, hl with | [_], _ => rfl
  have F_Residue___and__ := fun_mk (st := s_Residue___and__) hl_Residue___and__ hc_Residue___and__ hk_Residue___and__
  have b_Residue___and__ := F_Residue___and__.binds (ps := ["self", "other"]) fun _ _ _ _ _ _ us hl => match us, hl with | [_, _], _ => rfl
  have F_Residue_first_from := fun_mk (st := s_Residue_first_from) hl_Residue_first_from hc_Residue_first_from hk_Residue_first_from
  have b_Residue_first_from := F_Residue_first_from.binds (ps := ["self", "day"]) fun _ _ _ _ _ _ us hl => match us, hl with | [_, _], _ => rfl
  have F_Residue_count_in := fun_mk (st := s_Residue_count_in) hl_Residue_count_in hc_Residue_count_in hk_Residue_count_in
  have b_Residue_count_in := F_Residue_count_in.binds (ps := ["self", "first", "last"]) fun _ _ _ _ _ _ us hl => match us, hl with | [_, _, _], _ => rfl
  have F_place_on := fun_mk (st := s_place_on) hl_place_on hc_place_on hk_place_on
  have b_place_on := F_place_on.binds (ps := ["cycle", "day"]) fun _ _ _ _ _ _ us hl => match us, hl with | [_, _], _ => rfl
  have F_days_at := fun_mk (st := s_days_at) hl_days_at hc_days_at hk_days_at
  have b_days_at := F_days_at.binds (ps := ["cycle", "place"]) fun _ _ _ _ _ _ us hl => match us, hl with | [_, _], _ => rfl
  have F_all_cycles := fun_mk (st := s_all_cycles) hl_all_cycles hc_all_cycles hk_all_cycles
  have b_all_cycles := F_all_cycles.binds (ps := ["least", "most"]) fun _ _ _ _ _ _ us hl => match us, hl with | [_, _], _ => rfl
  have F_moved := fun_mk (st := s_moved) hl_moved hc_moved hk_moved
  have b_moved := F_moved.binds (ps := ["cycle", "days"]) fun _ _ _ _ _ _ us hl => match us, hl with | [_, _], _ => rfl
  have F_turns := fun_mk (st := s_turns) hl_turns hc_turns hk_turns
  have b_turns := F_turns.binds (ps := ["cycle", "first", "last"]) fun _ _ _ _ _ _ us hl => match us, hl with | [_, _, _], _ => rfl
  have F_is_whole := fun_mk (st := s_is_whole) hl_is_whole hc_is_whole hk_is_whole
  have b_is_whole := F_is_whole.binds (ps := ["inner", "outer"]) fun _ _ _ _ _ _ us hl => match us, hl with | [_, _], _ => rfl
  have F_whole_outers := fun_mk (st := s_whole_outers) hl_whole_outers hc_whole_outers hk_whole_outers
  have b_whole_outers := F_whole_outers.binds (ps := ["inner", "least", "most"]) fun _ _ _ _ _ _ us hl => match us, hl with | [_, _, _], _ => rfl
  have F__law_box := fun_mk (st := s__law_box) hl__law_box hc__law_box hk__law_box
  have b__law_box := F__law_box.binds (ps := ["_law_script"]) fun _ _ _ _ _ _ us hl => match us, hl with | [_], _ => rfl
  have F__law_draw := fun_mk (st := s__law_draw) hl__law_draw hc__law_draw hk__law_draw
  have b__law_draw := F__law_draw.binds (ps := ["_law_box_here", "_law_size"]) fun _ _ _ _ _ _ us hl => match us, hl with | [_, _], _ => rfl
  have F__law_is_number := fun_mk (st := s__law_is_number) hl__law_is_number hc__law_is_number hk__law_is_number
  have b__law_is_number := F__law_is_number.binds (ps := ["_law_value"]) fun _ _ _ _ _ _ us hl => match us, hl with | [_], _ => rfl
  have F__law_day := fun_mk (st := s__law_day) hl__law_day hc__law_day hk__law_day
  have b__law_day := F__law_day.binds (ps := ["_law_box_here"]) fun _ _ _ _ _ _ us hl => match us, hl with | [_], _ => rfl
  have F__law_cycles := fun_mk (st := s__law_cycles) hl__law_cycles hc__law_cycles hk__law_cycles
  have b__law_cycles := F__law_cycles.binds (ps := ["_law_box_here"]) fun _ _ _ _ _ _ us hl => match us, hl with | [_], _ => rfl
  have F__law_bounds := fun_mk (st := s__law_bounds) hl__law_bounds hc__law_bounds hk__law_bounds
  have b__law_bounds := F__law_bounds.binds (ps := ["_law_box_here"]) fun _ _ _ _ _ _ us hl => match us, hl with | [_], _ => rfl
  have F__law_shown := fun_mk (st := s__law_shown) hl__law_shown hc__law_shown hk__law_shown
  have b__law_shown := F__law_shown.binds (ps := ["_law_cycle", "_law_day_here"]) fun _ _ _ _ _ _ us hl => match us, hl with | [_, _], _ => rfl
  have F__law_is_cycle := fun_mk (st := s__law_is_cycle) hl__law_is_cycle hc__law_is_cycle hk__law_is_cycle
  have b__law_is_cycle := F__law_is_cycle.binds (ps := ["_law_told"]) fun _ _ _ _ _ _ us hl => match us, hl with | [_], _ => rfl
  have F__law_is_list := fun_mk (st := s__law_is_list) hl__law_is_list hc__law_is_list hk__law_is_list
  have b__law_is_list := F__law_is_list.binds (ps := ["_law_told", "_law_due"]) fun _ _ _ _ _ _ us hl => match us, hl with | [_, _], _ => rfl
  have F__law_says := fun_mk (st := s__law_says) hl__law_says hc__law_says hk__law_says
  have b__law_says := F__law_says.binds (ps := ["_law_told", "_law_due"]) fun _ _ _ _ _ _ us hl => match us, hl with | [_, _], _ => rfl
  have F__law_refused := fun_mk (st := s__law_refused) hl__law_refused hc__law_refused hk__law_refused
  have b__law_refused := F__law_refused.binds (ps := ["_law_cycle", "_law_spot"]) fun _ _ _ _ _ _ us hl => match us, hl with | [_, _], _ => rfl
  have F__law_places := fun_mk (st := s__law_places) hl__law_places hc__law_places hk__law_places
  have b__law_places := F__law_places.binds (ps := ["_law_cycle", "_law_near", "_law_spot"]) fun _ _ _ _ _ _ us hl => match us, hl with | [_, _, _], _ => rfl
  have F__law_moved := fun_mk (st := s__law_moved) hl__law_moved hc__law_moved hk__law_moved
  have b__law_moved := F__law_moved.binds (ps := ["_law_cycle", "_law_near", "_law_days"]) fun _ _ _ _ _ _ us hl => match us, hl with | [_, _, _], _ => rfl
  have F__law_turns := fun_mk (st := s__law_turns) hl__law_turns hc__law_turns hk__law_turns
  have b__law_turns := F__law_turns.binds (ps := ["_law_cycle", "_law_first", "_law_last"]) fun _ _ _ _ _ _ us hl => match us, hl with | [_, _, _], _ => rfl
  have F__law_counted := fun_mk (st := s__law_counted) hl__law_counted hc__law_counted hk__law_counted
  have b__law_counted := F__law_counted.binds (ps := ["_law_cycle", "_law_first", "_law_last"]) fun _ _ _ _ _ _ us hl => match us, hl with | [_, _, _], _ => rfl
  have F__law_whole := fun_mk (st := s__law_whole) hl__law_whole hc__law_whole hk__law_whole
  have b__law_whole := F__law_whole.binds (ps := ["_law_inner", "_law_outer"]) fun _ _ _ _ _ _ us hl => match us, hl with | [_, _], _ => rfl
  have F__law_suits := fun_mk (st := s__law_suits) hl__law_suits hc__law_suits hk__law_suits
  have b__law_suits := F__law_suits.binds (ps := ["_law_inner", "_law_outer"]) fun _ _ _ _ _ _ us hl => match us, hl with | [_, _], _ => rfl
  have F__law_lists := fun_mk (st := s__law_lists) hl__law_lists hc__law_lists hk__law_lists
  have b__law_lists := F__law_lists.binds (ps := ["_law_inner", "_law_least", "_law_most"]) fun _ _ _ _ _ _ us hl => match us, hl with | [_, _, _], _ => rfl
  have F_law := fun_mk (st := s_law) hl_law hc_law hk_law
  have b_law := F_law.binds (ps := ["_law_script"]) fun _ _ _ _ _ _ us hl => match us, hl with | [_], _ => rfl
  let D : Ad := {
    a_Disjoint_init := x_Disjoint_init, d_Disjoint_init := PySem.W.fnOf "__init__" "Disjoint.__init__" (defArgs s_Disjoint_init) (defBody s_Disjoint_init) (defScope s_Disjoint_init) .none kV_Disjoint_init dc_Disjoint_init pm_Disjoint_init an_Disjoint_init cd_Disjoint_init ct_Disjoint_init,
    a_OutOfRange_init := x_OutOfRange_init, d_OutOfRange_init := PySem.W.fnOf "__init__" "OutOfRange.__init__" (defArgs s_OutOfRange_init) (defBody s_OutOfRange_init) (defScope s_OutOfRange_init) .none kV_OutOfRange_init dc_OutOfRange_init pm_OutOfRange_init an_OutOfRange_init cd_OutOfRange_init ct_OutOfRange_init,
    a__inverse := x__inverse, d__inverse := PySem.W.fnOf "_inverse" "_inverse" (defArgs s__inverse) (defBody s__inverse) (defScope s__inverse) .none kV__inverse dc__inverse pm__inverse an__inverse cd__inverse ct__inverse,
    a_Residue_init := x_Residue_init, d_Residue_init := PySem.W.fnOf "__init__" "Residue.__init__" (defArgs s_Residue_init) (defBody s_Residue_init) (defScope s_Residue_init) .none kV_Residue_init dc_Residue_init pm_Residue_init an_Residue_init cd_Residue_init ct_Residue_init,
    a_Residue___eq__ := x_Residue___eq__, d_Residue___eq__ := PySem.W.fnOf "__eq__" "Residue.__eq__" (defArgs s_Residue___eq__) (defBody s_Residue___eq__) (defScope s_Residue___eq__) .none kV_Residue___eq__ dc_Residue___eq__ pm_Residue___eq__ an_Residue___eq__ cd_Residue___eq__ ct_Residue___eq__,
    a_Residue___str__ := x_Residue___str__, d_Residue___str__ := PySem.W.fnOf "__str__" "Residue.__str__" (defArgs s_Residue___str__) (defBody s_Residue___str__) (defScope s_Residue___str__) .none kV_Residue___str__ dc_Residue___str__ pm_Residue___str__ an_Residue___str__ cd_Residue___str__ ct_Residue___str__,
    a_Residue___contains__ := x_Residue___contains__, d_Residue___contains__ := PySem.W.fnOf "__contains__" "Residue.__contains__" (defArgs s_Residue___contains__) (defBody s_Residue___contains__) (defScope s_Residue___contains__) .none kV_Residue___contains__ dc_Residue___contains__ pm_Residue___contains__ an_Residue___contains__ cd_Residue___contains__ ct_Residue___contains__,
    a_Residue___add__ := x_Residue___add__, d_Residue___add__ := PySem.W.fnOf "__add__" "Residue.__add__" (defArgs s_Residue___add__) (defBody s_Residue___add__) (defScope s_Residue___add__) .none kV_Residue___add__ dc_Residue___add__ pm_Residue___add__ an_Residue___add__ cd_Residue___add__ ct_Residue___add__,
    a_Residue___sub__ := x_Residue___sub__, d_Residue___sub__ := PySem.W.fnOf "__sub__" "Residue.__sub__" (defArgs s_Residue___sub__) (defBody s_Residue___sub__) (defScope s_Residue___sub__) .none kV_Residue___sub__ dc_Residue___sub__ pm_Residue___sub__ an_Residue___sub__ cd_Residue___sub__ ct_Residue___sub__,
    a_Residue___neg__ := x_Residue___neg__, d_Residue___neg__ := PySem.W.fnOf "__neg__" "Residue.__neg__" (defArgs s_Residue___neg__) (defBody s_Residue___neg__) (defScope s_Residue___neg__) .none kV_Residue___neg__ dc_Residue___neg__ pm_Residue___neg__ an_Residue___neg__ cd_Residue___neg__ ct_Residue___neg__,
    a_Residue___and__ := x_Residue___and__, d_Residue___and__ := PySem.W.fnOf "__and__" "Residue.__and__" (defArgs s_Residue___and__) (defBody s_Residue___and__) (defScope s_Residue___and__) .none kV_Residue___and__ dc_Residue___and__ pm_Residue___and__ an_Residue___and__ cd_Residue___and__ ct_Residue___and__,
    a_Residue_first_from := x_Residue_first_from, d_Residue_first_from := PySem.W.fnOf "first_from" "Residue.first_from" (defArgs s_Residue_first_from) (defBody s_Residue_first_from) (defScope s_Residue_first_from) .none kV_Residue_first_from dc_Residue_first_from pm_Residue_first_from an_Residue_first_from cd_Residue_first_from ct_Residue_first_from,
    a_Residue_count_in := x_Residue_count_in, d_Residue_count_in := PySem.W.fnOf "count_in" "Residue.count_in" (defArgs s_Residue_count_in) (defBody s_Residue_count_in) (defScope s_Residue_count_in) .none kV_Residue_count_in dc_Residue_count_in pm_Residue_count_in an_Residue_count_in cd_Residue_count_in ct_Residue_count_in,
    a_place_on := x_place_on, d_place_on := PySem.W.fnOf "place_on" "place_on" (defArgs s_place_on) (defBody s_place_on) (defScope s_place_on) .none kV_place_on dc_place_on pm_place_on an_place_on cd_place_on ct_place_on,
    a_days_at := x_days_at, d_days_at := PySem.W.fnOf "days_at" "days_at" (defArgs s_days_at) (defBody s_days_at) (defScope s_days_at) .none kV_days_at dc_days_at pm_days_at an_days_at cd_days_at ct_days_at,
    a_all_cycles := x_all_cycles, d_all_cycles := PySem.W.fnOf "all_cycles" "all_cycles" (defArgs s_all_cycles) (defBody s_all_cycles) (defScope s_all_cycles) .none kV_all_cycles dc_all_cycles pm_all_cycles an_all_cycles cd_all_cycles ct_all_cycles,
    a_moved := x_moved, d_moved := PySem.W.fnOf "moved" "moved" (defArgs s_moved) (defBody s_moved) (defScope s_moved) .none kV_moved dc_moved pm_moved an_moved cd_moved ct_moved,
    a_turns := x_turns, d_turns := PySem.W.fnOf "turns" "turns" (defArgs s_turns) (defBody s_turns) (defScope s_turns) .none kV_turns dc_turns pm_turns an_turns cd_turns ct_turns,
    a_is_whole := x_is_whole, d_is_whole := PySem.W.fnOf "is_whole" "is_whole" (defArgs s_is_whole) (defBody s_is_whole) (defScope s_is_whole) .none kV_is_whole dc_is_whole pm_is_whole an_is_whole cd_is_whole ct_is_whole,
    a_whole_outers := x_whole_outers, d_whole_outers := PySem.W.fnOf "whole_outers" "whole_outers" (defArgs s_whole_outers) (defBody s_whole_outers) (defScope s_whole_outers) .none kV_whole_outers dc_whole_outers pm_whole_outers an_whole_outers cd_whole_outers ct_whole_outers,
    a__law_box := x__law_box, d__law_box := PySem.W.fnOf "_law_box" "_law_box" (defArgs s__law_box) (defBody s__law_box) (defScope s__law_box) .none kV__law_box dc__law_box pm__law_box an__law_box cd__law_box ct__law_box,
    a__law_draw := x__law_draw, d__law_draw := PySem.W.fnOf "_law_draw" "_law_draw" (defArgs s__law_draw) (defBody s__law_draw) (defScope s__law_draw) .none kV__law_draw dc__law_draw pm__law_draw an__law_draw cd__law_draw ct__law_draw,
    a__law_is_number := x__law_is_number, d__law_is_number := PySem.W.fnOf "_law_is_number" "_law_is_number" (defArgs s__law_is_number) (defBody s__law_is_number) (defScope s__law_is_number) .none kV__law_is_number dc__law_is_number pm__law_is_number an__law_is_number cd__law_is_number ct__law_is_number,
    a__law_day := x__law_day, d__law_day := PySem.W.fnOf "_law_day" "_law_day" (defArgs s__law_day) (defBody s__law_day) (defScope s__law_day) .none kV__law_day dc__law_day pm__law_day an__law_day cd__law_day ct__law_day,
    a__law_cycles := x__law_cycles, d__law_cycles := PySem.W.fnOf "_law_cycles" "_law_cycles" (defArgs s__law_cycles) (defBody s__law_cycles) (defScope s__law_cycles) .none kV__law_cycles dc__law_cycles pm__law_cycles an__law_cycles cd__law_cycles ct__law_cycles,
    a__law_bounds := x__law_bounds, d__law_bounds := PySem.W.fnOf "_law_bounds" "_law_bounds" (defArgs s__law_bounds) (defBody s__law_bounds) (defScope s__law_bounds) .none kV__law_bounds dc__law_bounds pm__law_bounds an__law_bounds cd__law_bounds ct__law_bounds,
    a__law_shown := x__law_shown, d__law_shown := PySem.W.fnOf "_law_shown" "_law_shown" (defArgs s__law_shown) (defBody s__law_shown) (defScope s__law_shown) .none kV__law_shown dc__law_shown pm__law_shown an__law_shown cd__law_shown ct__law_shown,
    a__law_is_cycle := x__law_is_cycle, d__law_is_cycle := PySem.W.fnOf "_law_is_cycle" "_law_is_cycle" (defArgs s__law_is_cycle) (defBody s__law_is_cycle) (defScope s__law_is_cycle) .none kV__law_is_cycle dc__law_is_cycle pm__law_is_cycle an__law_is_cycle cd__law_is_cycle ct__law_is_cycle,
    a__law_is_list := x__law_is_list, d__law_is_list := PySem.W.fnOf "_law_is_list" "_law_is_list" (defArgs s__law_is_list) (defBody s__law_is_list) (defScope s__law_is_list) .none kV__law_is_list dc__law_is_list pm__law_is_list an__law_is_list cd__law_is_list ct__law_is_list,
    a__law_says := x__law_says, d__law_says := PySem.W.fnOf "_law_says" "_law_says" (defArgs s__law_says) (defBody s__law_says) (defScope s__law_says) .none kV__law_says dc__law_says pm__law_says an__law_says cd__law_says ct__law_says,
    a__law_refused := x__law_refused, d__law_refused := PySem.W.fnOf "_law_refused" "_law_refused" (defArgs s__law_refused) (defBody s__law_refused) (defScope s__law_refused) .none kV__law_refused dc__law_refused pm__law_refused an__law_refused cd__law_refused ct__law_refused,
    a__law_places := x__law_places, d__law_places := PySem.W.fnOf "_law_places" "_law_places" (defArgs s__law_places) (defBody s__law_places) (defScope s__law_places) .none kV__law_places dc__law_places pm__law_places an__law_places cd__law_places ct__law_places,
    a__law_moved := x__law_moved, d__law_moved := PySem.W.fnOf "_law_moved" "_law_moved" (defArgs s__law_moved) (defBody s__law_moved) (defScope s__law_moved) .none kV__law_moved dc__law_moved pm__law_moved an__law_moved cd__law_moved ct__law_moved,
    a__law_turns := x__law_turns, d__law_turns := PySem.W.fnOf "_law_turns" "_law_turns" (defArgs s__law_turns) (defBody s__law_turns) (defScope s__law_turns) .none kV__law_turns dc__law_turns pm__law_turns an__law_turns cd__law_turns ct__law_turns,
    a__law_counted := x__law_counted, d__law_counted := PySem.W.fnOf "_law_counted" "_law_counted" (defArgs s__law_counted) (defBody s__law_counted) (defScope s__law_counted) .none kV__law_counted dc__law_counted pm__law_counted an__law_counted cd__law_counted ct__law_counted,
    a__law_whole := x__law_whole, d__law_whole := PySem.W.fnOf "_law_whole" "_law_whole" (defArgs s__law_whole) (defBody s__law_whole) (defScope s__law_whole) .none kV__law_whole dc__law_whole pm__law_whole an__law_whole cd__law_whole ct__law_whole,
    a__law_suits := x__law_suits, d__law_suits := PySem.W.fnOf "_law_suits" "_law_suits" (defArgs s__law_suits) (defBody s__law_suits) (defScope s__law_suits) .none kV__law_suits dc__law_suits pm__law_suits an__law_suits cd__law_suits ct__law_suits,
    a__law_lists := x__law_lists, d__law_lists := PySem.W.fnOf "_law_lists" "_law_lists" (defArgs s__law_lists) (defBody s__law_lists) (defScope s__law_lists) .none kV__law_lists dc__law_lists pm__law_lists an__law_lists cd__law_lists ct__law_lists,
    a_law := fa, d_law := PySem.W.fnOf "law" "law" (defArgs s_law) (defBody s_law) (defScope s_law) .none kV_law dc_law pm_law an_law cd_law ct_law,
    c_ArchiveError := x_ArchiveError,
    c_UnknownError := x_UnknownError,
    c_TextError := x_TextError,
    c_ImpossibleError := x_ImpossibleError,
    c_Disjoint := x_Disjoint,
    c_OutOfRange := x_OutOfRange,
    c_Residue := x_Residue }
  have T : Txt K mg D := { F_Disjoint_init := F_Disjoint_init, b_Disjoint_init := b_Disjoint_init, m_Disjoint_init := ha_Disjoint_init, i_Disjoint_init := hi_Disjoint_init, F_OutOfRange_init := F_OutOfRange_init, b_OutOfRange_init := b_OutOfRange_init, m_OutOfRange_init := ha_OutOfRange_init, i_OutOfRange_init := hi_OutOfRange_init, F__inverse := F__inverse, b__inverse := b__inverse, g__inverse := PySem.W.mg_of X G ha__inverse, F_Residue_init := F_Residue_init, b_Residue_init := b_Residue_init, m_Residue_init := ha_Residue_init, i_Residue_init := hi_Residue_init, F_Residue___eq__ := F_Residue___eq__, b_Residue___eq__ := b_Residue___eq__, m_Residue___eq__ := ha_Residue___eq__, i_Residue___eq__ := hi_Residue___eq__, F_Residue___str__ := F_Residue___str__, b_Residue___str__ := b_Residue___str__, m_Residue___str__ := ha_Residue___str__, i_Residue___str__ := hi_Residue___str__, F_Residue___contains__ := F_Residue___contains__, b_Residue___contains__ := b_Residue___contains__, m_Residue___contains__ := ha_Residue___contains__, i_Residue___contains__ := hi_Residue___contains__, F_Residue___add__ := F_Residue___add__, b_Residue___add__ := b_Residue___add__, m_Residue___add__ := ha_Residue___add__, i_Residue___add__ := hi_Residue___add__, F_Residue___sub__ := F_Residue___sub__, b_Residue___sub__ := b_Residue___sub__, m_Residue___sub__ := ha_Residue___sub__, i_Residue___sub__ := hi_Residue___sub__, F_Residue___neg__ := F_Residue___neg__, b_Residue___neg__ := b_Residue___neg__, m_Residue___neg__ := ha_Residue___neg__, i_Residue___neg__ := hi_Residue___neg__, F_Residue___and__ := F_Residue___and__, b_Residue___and__ := b_Residue___and__, m_Residue___and__ := ha_Residue___and__, i_Residue___and__ := hi_Residue___and__, F_Residue_first_from := F_Residue_first_from, b_Residue_first_from := b_Residue_first_from, m_Residue_first_from := ha_Residue_first_from, i_Residue_first_from := hi_Residue_first_from, F_Residue_count_in := F_Residue_count_in, b_Residue_count_in := b_Residue_count_in, m_Residue_count_in := ha_Residue_count_in, i_Residue_count_in := hi_Residue_count_in, F_place_on := F_place_on, b_place_on := b_place_on, g_place_on := PySem.W.mg_of X G ha_place_on, F_days_at := F_days_at, b_days_at := b_days_at, g_days_at := PySem.W.mg_of X G ha_days_at, F_all_cycles := F_all_cycles, b_all_cycles := b_all_cycles, g_all_cycles := PySem.W.mg_of X G ha_all_cycles, F_moved := F_moved, b_moved := b_moved, g_moved := PySem.W.mg_of X G ha_moved, F_turns := F_turns, b_turns := b_turns, g_turns := PySem.W.mg_of X G ha_turns, F_is_whole := F_is_whole, b_is_whole := b_is_whole, g_is_whole := PySem.W.mg_of X G ha_is_whole, F_whole_outers := F_whole_outers, b_whole_outers := b_whole_outers, g_whole_outers := PySem.W.mg_of X G ha_whole_outers, F__law_box := F__law_box, b__law_box := b__law_box, g__law_box := PySem.W.mg_of X G ha__law_box, F__law_draw := F__law_draw, b__law_draw := b__law_draw, g__law_draw := PySem.W.mg_of X G ha__law_draw, F__law_is_number := F__law_is_number, b__law_is_number := b__law_is_number, g__law_is_number := PySem.W.mg_of X G ha__law_is_number, F__law_day := F__law_day, b__law_day := b__law_day, g__law_day := PySem.W.mg_of X G ha__law_day, F__law_cycles := F__law_cycles, b__law_cycles := b__law_cycles, g__law_cycles := PySem.W.mg_of X G ha__law_cycles, F__law_bounds := F__law_bounds, b__law_bounds := b__law_bounds, g__law_bounds := PySem.W.mg_of X G ha__law_bounds, F__law_shown := F__law_shown, b__law_shown := b__law_shown, g__law_shown := PySem.W.mg_of X G ha__law_shown, F__law_is_cycle := F__law_is_cycle, b__law_is_cycle := b__law_is_cycle, g__law_is_cycle := PySem.W.mg_of X G ha__law_is_cycle, F__law_is_list := F__law_is_list, b__law_is_list := b__law_is_list, g__law_is_list := PySem.W.mg_of X G ha__law_is_list, F__law_says := F__law_says, b__law_says := b__law_says, g__law_says := PySem.W.mg_of X G ha__law_says, F__law_refused := F__law_refused, b__law_refused := b__law_refused, g__law_refused := PySem.W.mg_of X G ha__law_refused, F__law_places := F__law_places, b__law_places := b__law_places, g__law_places := PySem.W.mg_of X G ha__law_places, F__law_moved := F__law_moved, b__law_moved := b__law_moved, g__law_moved := PySem.W.mg_of X G ha__law_moved, F__law_turns := F__law_turns, b__law_turns := b__law_turns, g__law_turns := PySem.W.mg_of X G ha__law_turns, F__law_counted := F__law_counted, b__law_counted := b__law_counted, g__law_counted := PySem.W.mg_of X G ha__law_counted, F__law_whole := F__law_whole, b__law_whole := b__law_whole, g__law_whole := PySem.W.mg_of X G ha__law_whole, F__law_suits := F__law_suits, b__law_suits := b__law_suits, g__law_suits := PySem.W.mg_of X G ha__law_suits, F__law_lists := F__law_lists, b__law_lists := b__law_lists, g__law_lists := PySem.W.mg_of X G ha__law_lists, F_law := F_law, b_law := b_law, g_law := PySem.W.mg_of X G ha_law, g_ArchiveError := PySem.W.mg_of X G hC_ArchiveError, k_ArchiveError := hK_ArchiveError, g_UnknownError := PySem.W.mg_of X G hC_UnknownError, k_UnknownError := hK_UnknownError, g_TextError := PySem.W.mg_of X G hC_TextError, k_TextError := hK_TextError, g_ImpossibleError := PySem.W.mg_of X G hC_ImpossibleError, k_ImpossibleError := hK_ImpossibleError, g_Disjoint := PySem.W.mg_of X G hC_Disjoint, k_Disjoint := hK_Disjoint, g_OutOfRange := PySem.W.mg_of X G hC_OutOfRange, k_OutOfRange := hK_OutOfRange, g_Residue := PySem.W.mg_of X G hC_Residue, k_Residue := hK_Residue, n_ValueError := PySem.W.mg_none_of X G hn_ValueError, n_abs := PySem.W.mg_none_of X G hn_abs, n_all := PySem.W.mg_none_of X G hn_all, n_bool := PySem.W.mg_none_of X G hn_bool, n_int := PySem.W.mg_none_of X G hn_int, n_isinstance := PySem.W.mg_none_of X G hn_isinstance, n_len := PySem.W.mg_none_of X G hn_len, n_list := PySem.W.mg_none_of X G hn_list, n_max := PySem.W.mg_none_of X G hn_max, n_min := PySem.W.mg_none_of X G hn_min, n_range := PySem.W.mg_none_of X G hn_range, n_tuple := PySem.W.mg_none_of X G hn_tuple, oxl_OutOfRange := ⟨_, _, _, _, _, _, _, _, _, _, _, _, _, _, _, ol_OutOfRange, or_OutOfRange⟩, xsa_OutOfRange := hx_xsa_OutOfRange, xga_OutOfRange := hx_xga_OutOfRange, xgg_OutOfRange := hx_xgg_OutOfRange, xbe_OutOfRange := hx_xbe_OutOfRange, xty_OutOfRange := hx_xty_OutOfRange, xhd_OutOfRange := hx_xhd_OutOfRange, xca_OutOfRange := hx_xca_OutOfRange, xmo_OutOfRange := hx_xmo_OutOfRange, xti_OutOfRange := hx_xti_OutOfRange, cn_ := hx_cn_, ct_ := hx_ct_, ymk_Residue := hx_ymk_Residue, ypg_Residue := hx_ypg_Residue, yhd_Residue := hx_yhd_Residue, ypo_Residue := hx_ypo_Residue, ysa_Residue := hx_ysa_Residue, ysf_Residue := hx_ysf_Residue, yca_Residue := hx_yca_Residue, ymo_Residue := hx_ymo_Residue, no_place := hx_no_place, no_length := hx_no_length, e_value := hx_e_value, z_Residue := hx_z_Residue, z_oU := hx_z_oU, z_oT := hx_z_oT, z_oI := hx_z_oI, z_oO := hx_z_oO, z_oV := hx_z_oV, m_oa := hx_m_oa }
  exact ⟨D.d_law, fun s v => .of_eq rfl, fun base _ _ => ok_law (D := D) T⟩

theorem walk {l : PySem.W.OpenLaw} {q : Program} {loose : List Str} {XP : (Str → Option Value) → Heap → Prop} {YP : World → Heap → Prop} {d : DefRec} {K : Params → PySem.W.Frag} (hn : l.most = some 63) (hdf : d.params.defaults = [])
    (hY : ∀ (w : World) (h : Heap), YP w h → (K w.params).In h)
    (F : ∀ (w : World) (mg : Str → Option Value) (fa : Addr) (h : Heap), (K w.params).In h → h.Ns mainGlobals mg → mg d.name = some (.ref fa) →
      ∃ fd : FuncData, (∀ (s : Shared) (u : Value), BindsTo s fd ⟨[u], []⟩ [("_law_script", u)]) ∧ ∀ base : Heap, (K w.params).In base → base.Ns mainGlobals mg → FnOk l.prog w (K w.params) mg base CX0 10 fa fd ["_law_script"] (spLaw (K w.params))) :
    PySem.W.WalkO q loose XP YP l.row.toRowW d [] (fun f vs => PySem.call f vs) :=
  L2.walk_of (n := 63) (k := 10) (x := "_law_script") (CX := fun _ => CX0) (sp := fun w => spLaw (K w.params)) hn (by decide) hdf ⟨rfl, by decide, by decide⟩ hY F (fun _ _ a ns hl _ hS => ⟨a, ns, rfl, hS, hl, fun _ => rfl⟩) fun _ _ _ _ _ z => z
end Toy

open PySem PySem.W PyProof.Rows in
set_option maxRecDepth 100000 in
set_option maxHeartbeats 0 in
theorem PySem.Challenge.cw_fittingpasts_k03_cycle_places_holds : PySem.Challenge.rw_fittingpasts_k03_cycle_places.Holds := by
  w_on; o_law; k_head; (case hw => w_witness2)
  k_fill
  refine Toy.walk (l := PySem.Challenge.rw_fittingpasts_k03_cycle_places) rfl rfl (fun w h Y => PySem.W.kIn_of Y) ?F
  case F =>
    intro w mg fa h KX G hmg
    refine' Toy.all_mk KX G hmg ?hC_ArchiveError ?hK_ArchiveError ?hC_UnknownError ?hK_UnknownError ?hC_TextError ?hK_TextError ?hC_ImpossibleError ?hK_ImpossibleError ?hC_Disjoint ?hK_Disjoint ?hC_OutOfRange ?hK_OutOfRange ?hC_Residue ?hK_Residue ?ha_Disjoint_init ?hi_Disjoint_init ?hl_Disjoint_init ?hc_Disjoint_init ?hk_Disjoint_init ?ha_OutOfRange_init ?hi_OutOfRange_init ?hl_OutOfRange_init ?hc_OutOfRange_init ?hk_OutOfRange_init ?ha__inverse ?hl__inverse ?hc__inverse ?hk__inverse ?ha_Residue_init ?hi_Residue_init ?hl_Residue_init ?hc_Residue_init ?hk_Residue_init ?ha_Residue___eq__ ?hi_Residue___eq__ ?hl_Residue___eq__ ?hc_Residue___eq__ ?hk_Residue___eq__ ?ha_Residue___str__ ?hi_Residue___str__ ?hl_Residue___str__ ?hc_Residue___str__ ?hk_Residue___str__ ?ha_Residue___contains__ ?hi_Residue___contains__ ?hl_Residue___contains__ ?hc_Residue___contains__ ?hk_Residue___contains__ ?ha_Residue___add__ ?hi_Residue___add__ ?hl_Residue___add__ ?hc_Residue___add__ ?hk_Residue___add__ ?ha_Residue___sub__ ?hi_Residue___sub__ ?hl_Residue___sub__ ?hc_Residue___sub__ ?hk_Residue___sub__ ?ha_Residue___neg__ ?hi_Residue___neg__ ?hl_Residue___neg__ ?hc_Residue___neg__ ?hk_Residue___neg__ ?ha_Residue___and__ ?hi_Residue___and__ ?hl_Residue___and__ ?hc_Residue___and__ ?hk_Residue___and__ ?ha_Residue_first_from ?hi_Residue_first_from ?hl_Residue_first_from ?hc_Residue_first_from ?hk_Residue_first_from ?ha_Residue_count_in ?hi_Residue_count_in ?hl_Residue_count_in ?hc_Residue_count_in ?hk_Residue_count_in ?ha_place_on ?hl_place_on ?hc_place_on ?hk_place_on ?ha_days_at ?hl_days_at ?hc_days_at ?hk_days_at ?ha_all_cycles ?hl_all_cycles ?hc_all_cycles ?hk_all_cycles ?ha_moved ?hl_moved ?hc_moved ?hk_moved ?ha_turns ?hl_turns ?hc_turns ?hk_turns ?ha_is_whole ?hl_is_whole ?hc_is_whole ?hk_is_whole ?ha_whole_outers ?hl_whole_outers ?hc_whole_outers ?hk_whole_outers ?ha__law_box ?hl__law_box ?hc__law_box ?hk__law_box ?ha__law_draw ?hl__law_draw ?hc__law_draw ?hk__law_draw ?ha__law_is_number ?hl__law_is_number ?hc__law_is_number ?hk__law_is_number ?ha__law_day ?hl__law_day ?hc__law_day ?hk__law_day ?ha__law_cycles ?hl__law_cycles ?hc__law_cycles ?hk__law_cycles ?ha__law_bounds ?hl__law_bounds ?hc__law_bounds ?hk__law_bounds ?ha__law_shown ?hl__law_shown ?hc__law_shown ?hk__law_shown ?ha__law_is_cycle ?hl__law_is_cycle ?hc__law_is_cycle ?hk__law_is_cycle ?ha__law_is_list ?hl__law_is_list ?hc__law_is_list ?hk__law_is_list ?ha__law_says ?hl__law_says ?hc__law_says ?hk__law_says ?ha__law_refused ?hl__law_refused ?hc__law_refused ?hk__law_refused ?ha__law_places ?hl__law_places ?hc__law_places ?hk__law_places ?ha__law_moved ?hl__law_moved ?hc__law_moved ?hk__law_moved ?ha__law_turns ?hl__law_turns ?hc__law_turns ?hk__law_turns ?ha__law_counted ?hl__law_counted ?hc__law_counted ?hk__law_counted ?ha__law_whole ?hl__law_whole ?hc__law_whole ?hk__law_whole ?ha__law_suits ?hl__law_suits ?hc__law_suits ?hk__law_suits ?ha__law_lists ?hl__law_lists ?hc__law_lists ?hk__law_lists ?ha_law ?hl_law ?hc_law ?hk_law ?hn_ValueError ?hn_abs ?hn_all ?hn_bool ?hn_int ?hn_isinstance ?hn_len ?hn_list ?hn_max ?hn_min ?hn_range ?hn_tuple ?ol_OutOfRange ?or_OutOfRange ?hx_xsa_OutOfRange ?hx_xga_OutOfRange ?hx_xgg_OutOfRange ?hx_xbe_OutOfRange ?hx_xty_OutOfRange ?hx_xhd_OutOfRange ?hx_xca_OutOfRange ?hx_xmo_OutOfRange ?hx_xti_OutOfRange ?hx_cn_ ?hx_ct_ ?hx_ymk_Residue ?hx_ypg_Residue ?hx_yhd_Residue ?hx_ypo_Residue ?hx_ysa_Residue ?hx_ysf_Residue ?hx_yca_Residue ?hx_ymo_Residue ?hx_no_place ?hx_no_length ?hx_e_value ?hx_z_Residue ?hx_z_oU ?hx_z_oT ?hx_z_oI ?hx_z_oO ?hx_z_oV ?hx_m_oa
    (case hC_ArchiveError => first | k_is | rfl)
    (case hK_ArchiveError => first | k_is | rfl)
    (case hC_UnknownError => first | k_is | rfl)
    (case hK_UnknownError => first | k_is | rfl)
    (case hC_TextError => first | k_is | rfl)
    (case hK_TextError => first | k_is | rfl)
    (case hC_ImpossibleError => first | k_is | rfl)
    (case hK_ImpossibleError => first | k_is | rfl)
    (case hC_Disjoint => first | k_is | rfl)
    (case hK_Disjoint => first | k_is | rfl)
    (case hC_OutOfRange => first | k_is | rfl)
    (case hK_OutOfRange => first | k_is | rfl)
    (case hC_Residue => first | k_is | rfl)
    (case hK_Residue => first | k_is | rfl)
    (case ha_Disjoint_init => first | k_is | rfl)
    (case hi_Disjoint_init => first | k_is | rfl)
    (case hl_Disjoint_init => first | k_is | rfl)
    (case hc_Disjoint_init => first | k_is | rfl)
    (case hk_Disjoint_init => first | k_is | rfl)
    (case ha_OutOfRange_init => first | k_is | rfl)
    (case hi_OutOfRange_init => first | k_is | rfl)
    (case hl_OutOfRange_init => first | k_is | rfl)
    (case hc_OutOfRange_init => first | k_is | rfl)
    (case hk_OutOfRange_init => first | k_is | rfl)
    (case ha__inverse => first | k_is | rfl)
    (case hl__inverse => first | k_is | rfl)
    (case hc__inverse => first | k_is | rfl)
    (case hk__inverse => first | k_is | rfl)
    (case ha_Residue_init => first | k_is | rfl)
    (case hi_Residue_init => first | k_is | rfl)
    (case hl_Residue_init => first | k_is | rfl)
    (case hc_Residue_init => first | k_is | rfl)
    (case hk_Residue_init => first | k_is | rfl)
    (case ha_Residue___eq__ => first | k_is | rfl)
    (case hi_Residue___eq__ => first | k_is | rfl)
    (case hl_Residue___eq__ => first | k_is | rfl)
    (case hc_Residue___eq__ => first | k_is | rfl)
    (case hk_Residue___eq__ => first | k_is | rfl)
    (case ha_Residue___str__ => first | k_is | rfl)
    (case hi_Residue___str__ => first | k_is | rfl)
    (case hl_Residue___str__ => first | k_is | rfl)
    (case hc_Residue___str__ => first | k_is | rfl)
    (case hk_Residue___str__ => first | k_is | rfl)
    (case ha_Residue___contains__ => first | k_is | rfl)
    (case hi_Residue___contains__ => first | k_is | rfl)
    (case hl_Residue___contains__ => first | k_is | rfl)
    (case hc_Residue___contains__ => first | k_is | rfl)
    (case hk_Residue___contains__ => first | k_is | rfl)
    (case ha_Residue___add__ => first | k_is | rfl)
    (case hi_Residue___add__ => first | k_is | rfl)
    (case hl_Residue___add__ => first | k_is | rfl)
    (case hc_Residue___add__ => first | k_is | rfl)
    (case hk_Residue___add__ => first | k_is | rfl)
    (case ha_Residue___sub__ => first | k_is | rfl)
    (case hi_Residue___sub__ => first | k_is | rfl)
    (case hl_Residue___sub__ => first | k_is | rfl)
    (case hc_Residue___sub__ => first | k_is | rfl)
    (case hk_Residue___sub__ => first | k_is | rfl)
    (case ha_Residue___neg__ => first | k_is | rfl)
    (case hi_Residue___neg__ => first | k_is | rfl)
    (case hl_Residue___neg__ => first | k_is | rfl)
    (case hc_Residue___neg__ => first | k_is | rfl)
    (case hk_Residue___neg__ => first | k_is | rfl)
    (case ha_Residue___and__ => first | k_is | rfl)
    (case hi_Residue___and__ => first | k_is | rfl)
    (case hl_Residue___and__ => first | k_is | rfl)
    (case hc_Residue___and__ => first | k_is | rfl)
    (case hk_Residue___and__ => first | k_is | rfl)
    (case ha_Residue_first_from => first | k_is | rfl)
    (case hi_Residue_first_from => first | k_is | rfl)
    (case hl_Residue_first_from => first | k_is | rfl)
    (case hc_Residue_first_from => first | k_is | rfl)
    (case hk_Residue_first_from => first | k_is | rfl)
    (case ha_Residue_count_in => first | k_is | rfl)
    (case hi_Residue_count_in => first | k_is | rfl)
    (case hl_Residue_count_in => first | k_is | rfl)
    (case hc_Residue_count_in => first | k_is | rfl)
    (case hk_Residue_count_in => first | k_is | rfl)
    (case ha_place_on => first | k_is | rfl)
    (case hl_place_on => first | k_is | rfl)
    (case hc_place_on => first | k_is | rfl)
    (case hk_place_on => first | k_is | rfl)
    (case ha_days_at => first | k_is | rfl)
    (case hl_days_at => first | k_is | rfl)
    (case hc_days_at => first | k_is | rfl)
    (case hk_days_at => first | k_is | rfl)
    (case ha_all_cycles => first | k_is | rfl)
    (case hl_all_cycles => first | k_is | rfl)
    (case hc_all_cycles => first | k_is | rfl)
    (case hk_all_cycles => first | k_is | rfl)
    (case ha_moved => first | k_is | rfl)
    (case hl_moved => first | k_is | rfl)
    (case hc_moved => first | k_is | rfl)
    (case hk_moved => first | k_is | rfl)
    (case ha_turns => first | k_is | rfl)
    (case hl_turns => first | k_is | rfl)
    (case hc_turns => first | k_is | rfl)
    (case hk_turns => first | k_is | rfl)
    (case ha_is_whole => first | k_is | rfl)
    (case hl_is_whole => first | k_is | rfl)
    (case hc_is_whole => first | k_is | rfl)
    (case hk_is_whole => first | k_is | rfl)
    (case ha_whole_outers => first | k_is | rfl)
    (case hl_whole_outers => first | k_is | rfl)
    (case hc_whole_outers => first | k_is | rfl)
    (case hk_whole_outers => first | k_is | rfl)
    (case ha__law_box => first | k_is | rfl)
    (case hl__law_box => first | k_is | rfl)
    (case hc__law_box => first | k_is | rfl)
    (case hk__law_box => first | k_is | rfl)
    (case ha__law_draw => first | k_is | rfl)
    (case hl__law_draw => first | k_is | rfl)
    (case hc__law_draw => first | k_is | rfl)
    (case hk__law_draw => first | k_is | rfl)
    (case ha__law_is_number => first | k_is | rfl)
    (case hl__law_is_number => first | k_is | rfl)
    (case hc__law_is_number => first | k_is | rfl)
    (case hk__law_is_number => first | k_is | rfl)
    (case ha__law_day => first | k_is | rfl)
    (case hl__law_day => first | k_is | rfl)
    (case hc__law_day => first | k_is | rfl)
    (case hk__law_day => first | k_is | rfl)
    (case ha__law_cycles => first | k_is | rfl)
    (case hl__law_cycles => first | k_is | rfl)
    (case hc__law_cycles => first | k_is | rfl)
    (case hk__law_cycles => first | k_is | rfl)
    (case ha__law_bounds => first | k_is | rfl)
    (case hl__law_bounds => first | k_is | rfl)
    (case hc__law_bounds => first | k_is | rfl)
    (case hk__law_bounds => first | k_is | rfl)
    (case ha__law_shown => first | k_is | rfl)
    (case hl__law_shown => first | k_is | rfl)
    (case hc__law_shown => first | k_is | rfl)
    (case hk__law_shown => first | k_is | rfl)
    (case ha__law_is_cycle => first | k_is | rfl)
    (case hl__law_is_cycle => first | k_is | rfl)
    (case hc__law_is_cycle => first | k_is | rfl)
    (case hk__law_is_cycle => first | k_is | rfl)
    (case ha__law_is_list => first | k_is | rfl)
    (case hl__law_is_list => first | k_is | rfl)
    (case hc__law_is_list => first | k_is | rfl)
    (case hk__law_is_list => first | k_is | rfl)
    (case ha__law_says => first | k_is | rfl)
    (case hl__law_says => first | k_is | rfl)
    (case hc__law_says => first | k_is | rfl)
    (case hk__law_says => first | k_is | rfl)
    (case ha__law_refused => first | k_is | rfl)
    (case hl__law_refused => first | k_is | rfl)
    (case hc__law_refused => first | k_is | rfl)
    (case hk__law_refused => first | k_is | rfl)
    (case ha__law_places => first | k_is | rfl)
    (case hl__law_places => first | k_is | rfl)
    (case hc__law_places => first | k_is | rfl)
    (case hk__law_places => first | k_is | rfl)
    (case ha__law_moved => first | k_is | rfl)
    (case hl__law_moved => first | k_is | rfl)
    (case hc__law_moved => first | k_is | rfl)
    (case hk__law_moved => first | k_is | rfl)
    (case ha__law_turns => first | k_is | rfl)
    (case hl__law_turns => first | k_is | rfl)
    (case hc__law_turns => first | k_is | rfl)
    (case hk__law_turns => first | k_is | rfl)
    (case ha__law_counted => first | k_is | rfl)
    (case hl__law_counted => first | k_is | rfl)
    (case hc__law_counted => first | k_is | rfl)
    (case hk__law_counted => first | k_is | rfl)
    (case ha__law_whole => first | k_is | rfl)
    (case hl__law_whole => first | k_is | rfl)
    (case hc__law_whole => first | k_is | rfl)
    (case hk__law_whole => first | k_is | rfl)
    (case ha__law_suits => first | k_is | rfl)
    (case hl__law_suits => first | k_is | rfl)
    (case hc__law_suits => first | k_is | rfl)
    (case hk__law_suits => first | k_is | rfl)
    (case ha__law_lists => first | k_is | rfl)
    (case hl__law_lists => first | k_is | rfl)
    (case hc__law_lists => first | k_is | rfl)
    (case hk__law_lists => first | k_is | rfl)
    (case ha_law => first | k_is | rfl)
    (case hl_law => first | k_is | rfl)
    (case hc_law => first | k_is | rfl)
    (case hk_law => first | k_is | rfl)
    (case hn_ValueError => first | k_is | rfl)
    (case hn_abs => first | k_is | rfl)
    (case hn_all => first | k_is | rfl)
    (case hn_bool => first | k_is | rfl)
    (case hn_int => first | k_is | rfl)
    (case hn_isinstance => first | k_is | rfl)
    (case hn_len => first | k_is | rfl)
    (case hn_list => first | k_is | rfl)
    (case hn_max => first | k_is | rfl)
    (case hn_min => first | k_is | rfl)
    (case hn_range => first | k_is | rfl)
    (case hn_tuple => first | k_is | rfl)
    (case ol_OutOfRange => first | k_is | rfl)
    (case or_OutOfRange => decide +kernel)
    (case hx_xsa_OutOfRange => first | k_is | rfl)
    (case hx_xga_OutOfRange => first | k_is | rfl)
    (case hx_xgg_OutOfRange => first | k_is | rfl)
    (case hx_xbe_OutOfRange => first | k_is | rfl)
    (case hx_xty_OutOfRange => first | k_is | rfl)
    (case hx_xhd_OutOfRange => first | k_is | rfl)
    (case hx_xca_OutOfRange => first | k_is | rfl)
    (case hx_xmo_OutOfRange => first | k_is | rfl)
    (case hx_xti_OutOfRange => first | k_is | rfl)
    (case hx_cn_ => first | k_is | rfl)
    (case hx_ct_ => first | k_is | rfl)
    (case hx_ymk_Residue => first | k_is | rfl)
    (case hx_ypg_Residue => first | k_is | rfl)
    (case hx_yhd_Residue => first | k_is | rfl)
    (case hx_ypo_Residue => first | k_is | rfl)
    (case hx_ysa_Residue => first | k_is | rfl)
    (case hx_ysf_Residue => first | k_is | rfl)
    (case hx_yca_Residue => first | k_is | rfl)
    (case hx_ymo_Residue => first | k_is | rfl)
    (case hx_no_place => first | k_is | rfl)
    (case hx_no_length => first | k_is | rfl)
    (case hx_e_value => first | k_is | rfl)
    (case hx_z_Residue => first | k_is | rfl)
    (case hx_z_oU => first | k_is | rfl)
    (case hx_z_oT => first | k_is | rfl)
    (case hx_z_oI => first | k_is | rfl)
    (case hx_z_oO => first | k_is | rfl)
    (case hx_z_oV => first | k_is | rfl)
    (case hx_m_oa => first | k_is | rfl)

