import PyProof.Rows.All
import Wide.All
import OpenK.AllK
import Wide.FinOn
import HandS.ForExc
import HandS.Comp
import HandS.Wide
import HandS.IsInst
import HandS.Property
import HandS.FStr
import HandS.MakeKw
import HandS.MakeKwOnly
import HandS.ExcInit
import HandS.ExcField
import HandS.ExcIs
import HandS.HotCalls
import HandS.OwnEq
import HandS.Evl
import KE.KCallOwn
import HandS.Gcd
import HandS.Walk
import KE.GoesMore
import KE.GoesEnum
import KE.GoesNew
import PySem.Challenge.RW_fittingpasts_k05_whole_lengths_open
set_option Elab.async false
set_option linter.all false
set_option maxRecDepth 100000
set_option maxHeartbeats 4000000
/-! own rules: operators that a class of the program defines -/
namespace XR
open PySem PySem.Spec PyProof.Rows L2
section
variable {X : Cx} {CX : CXT} {k : Nat} {C f : Addr} {fd : FuncData} {ps : List Str} {sp : Sp} {E : XK}
/-- the callee runs, somewhere below the body -/
theorem run_at {A : Around} {pins : List (Addr × Obj)} {σ : L2.St} {H : Hp} {s : Shared} {Q : VK} {us : List Value} {vs : List V} (F : FnOk X.prog X.w X.K X.mg X.base CX k f fd ps sp) (hr : Room k A) (hA : A.frames = X.A.frames) (hb : Binds X.K fd ps []) (hx : PassesAt CX X σ E)
    (I : Inv X pins σ H s) (r : Vals vs us) (h : sp vs H Q E) : wpAny (model X.prog X.w) A (call (.ref f) us) (EP X pins σ Q) X.xe s := by
  have hl : us.length = ps.length := by rw [← r.length]; exact F.len _ _ _ _ h
  have e0 : Env0 X.prog X.w X.K X.mg X.base A X.stack s H := by
    have e := I.env0
    exact ⟨by rw [hA]; exact e.frames, e.mod, e.bs, e.bsz, e.funs, e.frf, e.hok, e.bare⟩
  have b := hb s us I.kIn (by rw [List.append_nil]; exact hl)
  rw [List.append_nil] at b
  refine wpAny_call (codeAny_mono (F.run A X.stack s H ⟨us, []⟩ us vs Q E hr e0 b r h) fun r s' hq => ?_)
  cases r with
  | error e => exact hx pins H s e s' I hq
  | ok fl =>
    cases fl with
    | ret u => exact I.after hq
    | next => exact False.elim hq
    | brk => exact False.elim hq
    | cont => exact False.elim hq
/-- an instance of the class at C -/
theorem inst_at {pins : List (Addr × Obj)} {σ : L2.St} {H : Hp} {s : Shared} {a dx : Addr} {fs : List (Str × V)} (I : Inv X pins σ H s) (ha : H a = some (.ins C dx fs)) : ∃ od, PySem.W.InstAt s.heap a (PySem.W.instObj C dx) C (some od) := by
  obtain ⟨mA, J, _⟩ := ins_get I.hok ha
  obtain ⟨od, J, _⟩ := J.look
  exact ⟨od, J⟩
theorem back_of {pins : List (Addr × Obj)} {σ : L2.St} {Q : VK} {v : Value} {s' : Shared} (h : EP X pins σ Q v s') : PySem.W.CmpBack (EP X pins σ Q) v s' := by
  obtain ⟨x, H', I', r, q⟩ := h
  have keep : EP X pins σ Q v s' := ⟨x, H', I', r, q⟩
  cases x with
  | non =>
    obtain rfl : v = Value.none := r
    exact keep
  | bl _ =>
    obtain rfl : v = Value.bool _ := r
    exact keep
  | int _ =>
    obtain ⟨t, rfl⟩ := r
    exact keep
  | str _ =>
    obtain ⟨t, rfl⟩ := r
    exact keep
  | byt _ =>
    obtain ⟨t, rfl⟩ := r
    exact keep
  | flt _ =>
    obtain ⟨t, rfl⟩ := r
    exact keep
  | ref _ =>
    obtain rfl : v = Value.ref _ := r
    exact keep
  | ty _ =>
    obtain rfl : v = Value.type _ := r
    exact keep

/-! ### a op b -/
structure OwnB (K : PySem.W.Frag) (C f : Addr) (op : Operator) : Prop where
  sf : PySem.W.selfFirst K C = true
  hs : PySem.W.findIn K (.ref C) (PySem.dunder op.info.2) = some (some (.ref f))
  hf : PySem.W.isFn K (.ref f) = true
  hr : PySem.W.findIn K (.ref C) (PySem.dunderR op.info.2) = some none
/-- .. an int on the right -/
structure OwnBI (K : PySem.W.Frag) (C : Addr) (op : Operator) : Prop where
  h1 : ∃ fo, PySem.W.findIn K (.type "int") (PySem.dunder op.info.2) = some fo
  h2 : ∃ ro, PySem.W.findIn K (.type "int") (PySem.dunderR op.info.2) = some ro
  sub : PySem.W.subIn K (.type "int") (.ref C) = some false
/-- by the left one's own method: an int or an instance of the same class on the right -/
def rOwnI (C : Addr) (sp : Sp) (E : XK) : R2 := fun x y H Q => ∃ a dx fs i, x = .ref a ∧ y = .int i ∧ H a = some (.ins C dx fs) ∧ sp [.ref a, .int i] H Q E
def rOwnC (C : Addr) (sp : Sp) (E : XK) : R2 := fun x y H Q => ∃ a b dx dy fs gs, x = .ref a ∧ y = .ref b ∧ H a = some (.ins C dx fs) ∧ H b = some (.ins C dy gs) ∧ sp [.ref a, .ref b] H Q E
theorem ownI {op : Operator} {pins : List (Addr × Obj)} {s : Shared} {σ : L2.St} {H : Hp} {x y : V} {v u : Value} {Q : VK} (O : OwnB X.K C f op) (OI : OwnBI X.K C op) (F : FnOk X.prog X.w X.K X.mg X.base CX k f fd ps sp) (hr : Room k X.A) (hb : Binds X.K fd ps []) (hx : PassesAt CX X σ E)
    (I : Inv X pins σ H s) (rx : RelV x v) (ry : RelV y u) (hq : rOwnI C sp E x y H Q) : wpAny (model X.prog X.w) X.A (binaryOp op v u) (EP X pins σ Q) X.xe s := by
  obtain ⟨a, dx, fs, i, rfl, rfl, ha, q⟩ := hq
  cases rx
  obtain ⟨t, rfl⟩ := ry
  obtain ⟨od, J⟩ := inst_at I ha
  obtain ⟨m, hF⟩ := I.fr
  obtain ⟨fo, h1⟩ := OI.h1
  obtain ⟨ro, h2⟩ := OI.h2
  exact PySem.W.ksp_binT (T := "int") hF I.ok.mod.kin J rfl O.sf O.hs O.hf O.hr (.inl rfl) h1 h2 OI.sub
    (thn (run_at (vs := [.ref a, .int i]) F hr rfl hb hx I (.cons rfl (.cons ⟨t, rfl⟩ .nil)) q) fun _ _ z => back_of z)
theorem ownC {op : Operator} {pins : List (Addr × Obj)} {s : Shared} {σ : L2.St} {H : Hp} {x y : V} {v u : Value} {Q : VK} (O : OwnB X.K C f op) (F : FnOk X.prog X.w X.K X.mg X.base CX k f fd ps sp) (hr : Room k X.A) (hb : Binds X.K fd ps []) (hx : PassesAt CX X σ E)
    (I : Inv X pins σ H s) (rx : RelV x v) (ry : RelV y u) (hq : rOwnC C sp E x y H Q) : wpAny (model X.prog X.w) X.A (binaryOp op v u) (EP X pins σ Q) X.xe s := by
  obtain ⟨a, b, dx, dy, fs, gs, rfl, rfl, ha, hb', q⟩ := hq
  cases rx
  cases ry
  obtain ⟨od, J⟩ := inst_at I ha
  obtain ⟨od', J'⟩ := inst_at I hb'
  obtain ⟨m, hF⟩ := I.fr
  exact PySem.W.binop_K hF I.ok.mod.kin J J'.type O.sf O.hs O.hf
    (thn (run_at (vs := [.ref a, .ref b]) F hr rfl hb hx I (.cons rfl (.cons rfl .nil)) q) fun _ _ z => back_of z)
theorem at_of_passes {σ : L2.St} (hx : Passes CX X E) : PassesAt CX X σ E := fun pins H s e s' I c => hx pins σ H s e s' I c
theorem op_ownI {op : Operator} (O : OwnB X.K C f op) (OI : OwnBI X.K C op) (F : FnOk X.prog X.w X.K X.mg X.base CX k f fd ps sp) (hr : Room k X.A) (hb : Binds X.K fd ps []) (hx : Passes CX X E) : OpR X (binaryOp op) (rOwnI C sp E) :=
  fun pins s σ H x y v u Q I rx ry hq => ownI O OI F hr hb (at_of_passes hx) I rx ry hq
theorem op_ownC {op : Operator} (O : OwnB X.K C f op) (F : FnOk X.prog X.w X.K X.mg X.base CX k f fd ps sp) (hr : Room k X.A) (hb : Binds X.K fd ps []) (hx : Passes CX X E) : OpR X (binaryOp op) (rOwnC C sp E) :=
  fun pins s σ H x y v u Q I rx ry hq => ownC O F hr hb (at_of_passes hx) I rx ry hq
/-- .. in a try's body -/
def tOpS (r : L2.St → R2) (ta tb : TE) : TE := fun σ H Q => ta σ H fun x H1 => tb σ H1 fun y H2 => r σ x y H2 Q
theorem pe_opCS {op : Operator} {a b : Expr} {pos : Pos} {ta tb : TE} {ES : L2.St → XK} (O : OwnB X.K C f op) (F : FnOk X.prog X.w X.K X.mg X.base CX k f fd ps sp) (hr : Room k X.A) (hb : Binds X.K fd ps []) (hx : ∀ σ, PassesAt CX X σ (ES σ)) (ha : PE X a ta) (hb2 : PE X b tb) :
    PE X (.BinOp a op b pos) (tOpS (fun σ => rOwnC C sp (ES σ)) ta tb) := by
  refine ⟨fun pins s σ H Q I h => ?_⟩
  exact (wpAny_BinOp (binT ha hb2 I (R := fun x y H2 => rOwnC C sp (ES σ) x y H2 Q) (by exact h) fun v u s1 x y H1 I1 r1 r2 q => ownC O F hr hb (hx σ) I1 r1 r2 q))
/-! ### x in o, x not in o -/
structure OwnM (K : PySem.W.Frag) (C f : Addr) (name : Str) : Prop where
  hs : PySem.W.findIn K (.ref C) name = some (some (.ref f))
  hf : PySem.W.isFn K (.ref f) = true
def rInOwn (C : Addr) (sp : Sp) (E : XK) (neg : Bool) : R2 := fun x y H Q => ∃ a dx fs, y = .ref a ∧ H a = some (.ins C dx fs) ∧ sp [.ref a, x] H (fun v H' => ∃ b, v = .bl b ∧ Q (.bl (if neg then !b else b)) H') E
theorem op_in_own (O : OwnM X.K C f "__contains__") (F : FnOk X.prog X.w X.K X.mg X.base CX k f fd ps sp) (hr : Room k X.A) (hb : Binds X.K fd ps []) (hx : Passes CX X E) : OpR X (compareOp .In) (rInOwn C sp E false) := by
  intro pins s σ H x y v u Q I rx ry hq
  obtain ⟨a, dx, fs, rfl, ha, q⟩ := hq
  cases ry
  obtain ⟨od, J⟩ := inst_at I ha
  obtain ⟨m, hF⟩ := I.fr
  refine PySem.W.in_K hF I.ok.mod.kin J O.hs O.hf (thn (run_at (vs := [.ref a, x]) F hr rfl hb (at_of_passes hx) I (.cons rfl (.cons rx .nil)) q) fun r s' z => ?_)
  obtain ⟨w', H', I', rw', b, rfl, q2⟩ := z
  cases rw'
  exact wpAny_truthy_bool ⟨.bl b, H', I', rfl, q2⟩
theorem op_notIn_own (O : OwnM X.K C f "__contains__") (F : FnOk X.prog X.w X.K X.mg X.base CX k f fd ps sp) (hr : Room k X.A) (hb : Binds X.K fd ps []) (hx : Passes CX X E) : OpR X (compareOp .NotIn) (rInOwn C sp E true) := by
  intro pins s σ H x y v u Q I rx ry hq
  obtain ⟨a, dx, fs, rfl, ha, q⟩ := hq
  cases ry
  obtain ⟨od, J⟩ := inst_at I ha
  obtain ⟨m, hF⟩ := I.fr
  refine PySem.W.notIn_K hF I.ok.mod.kin J O.hs O.hf (thn (run_at (vs := [.ref a, x]) F hr rfl hb (at_of_passes hx) I (.cons rfl (.cons rx .nil)) q) fun r s' z => ?_)
  obtain ⟨w', H', I', rw', b, rfl, q2⟩ := z
  cases rw'
  exact wpAny_truthy_bool ⟨.bl (!b), H', I', rfl, q2⟩
/-! ### a == b, a != b by the class's __eq__ (no __ne__ of its own) -/
structure OwnE (K : PySem.W.Frag) (C f : Addr) : Prop where
  hs : PySem.W.findIn K (.ref C) "__eq__" = some (some (.ref f))
  hf : PySem.W.isFn K (.ref f) = true
  hn : PySem.W.findIn K (.ref C) "__ne__" = some (some (.builtin "object.__ne__"))
  ob : PySem.W.mroIn K C (.type "object") = some true
def rEqOwn (C : Addr) (sp : Sp) (E : XK) (neg : Bool) : R2 := fun x y H Q => ∃ a b dx dy fs gs, x = .ref a ∧ y = .ref b ∧ H a = some (.ins C dx fs) ∧ H b = some (.ins C dy gs) ∧ sp [.ref a, .ref b] H (fun v H' => ∃ c, v = .bl c ∧ Q (.bl (if neg then !c else c)) H') E
theorem op_eq_own (O : OwnE X.K C f) (F : FnOk X.prog X.w X.K X.mg X.base CX k f fd ps sp) (hr : Room k X.A) (hb : Binds X.K fd ps []) (hx : Passes CX X E) : OpR X (compareOp .Eq) (rEqOwn C sp E false) := by
  intro pins s σ H x y v u Q I rx ry hq
  obtain ⟨a, b, dx, dy, fs, gs, rfl, rfl, ha, hb', q⟩ := hq
  cases rx
  cases ry
  obtain ⟨od, J⟩ := inst_at I ha
  obtain ⟨od', J'⟩ := inst_at I hb'
  obtain ⟨m, hF⟩ := I.fr
  refine PySem.W.cmp_K (op := .Eq) (tb := .ref C) hr.units0 hF I.ok.mod.kin J J'.type (by simp [PySem.W.notFirst]) O.hs O.hf ?_
  refine thn (run_at (vs := [.ref a, .ref b]) F hr rfl hb (at_of_passes hx) I (.cons rfl (.cons rfl .nil)) q) fun _ _ z => ?_
  obtain ⟨w', H', I', rw', c, rfl, q2⟩ := z
  cases rw'
  exact (⟨.bl c, H', I', rfl, q2⟩ : EP X pins σ Q (.bool c) _)
theorem objNe_entry {prog : Program} {w : World} {A : Around} {E : Value → Shared → Prop} {K : PySem.W.Frag} {x C f : Addr} {ox : Obj} {od : Option Obj} {b : Value} {s : Shared} {Q : PySem.Fin → Shared → Prop} (hu : A.units < cLine) (Xk : K.In s.heap) (I : PySem.W.InstAt s.heap x ox C od)
    (hs : PySem.W.findIn K (.ref C) "__eq__" = some (some (.ref f))) (hf : PySem.W.isFn K (.ref f) = true)
    (h : wpAny (model prog w) A (call (.ref f) [.ref x, b]) (fun v s' => ∃ c, v = .bool c ∧ Q (.done (.ret (.bool (!c)))) s') E s) :
    wpAny (model prog w) A (Builtin.«object.__ne__» ⟨[.ref x, b], []⟩) Q E s := by
  unfold Builtin.«object.__ne__»
  refine wpAny_bind (wpAny_of_eq (a := ((Value.ref x : Value), [b])) (by first | rfl | (simp only [Builtin.slotArgs]; rfl)) ?_)
  refine wpAny_bind (wpAny_cRoomFor hu ?_)
  refine wpAny_bind (PySem.W.ifBound_K Xk I hs hf (thn h fun v s' z => ?_))
  obtain ⟨c, rfl, q⟩ := z
  exact wpAny_bind (wpAny_truthy_bool (wpAny_pure q))
theorem cmp_ne {prog : Program} {w : World} {A : Around} {E : Value → Shared → Prop} {K : PySem.W.Frag} {x C f : Addr} {ox : Obj} {od : Option Obj} {b : Value} {s : Shared} {Q : Value → Shared → Prop} (hu : A.units + 1 < cLine) (Xk : K.In s.heap) (I : PySem.W.InstAt s.heap x ox C od)
    (hb : PySem.W.Looks (model prog w) s.heap (typeOf b) (.ref C)) (hn : PySem.W.findIn K (.ref C) "__ne__" = some (some (.builtin "object.__ne__"))) (ob : PySem.W.mroIn K C (.type "object") = some true)
    (hs : PySem.W.findIn K (.ref C) "__eq__" = some (some (.ref f))) (hf : PySem.W.isFn K (.ref f) = true)
    (h : wpAny (model prog w) A.in1 (call (.ref f) [.ref x, b]) (fun v s' => ∃ c, v = .bool c ∧ Q (.bool (!c)) s') E s) :
    wpAny (model prog w) A (richCompare .NotEq (.ref x) b) Q E s := by
  have sub : PySem.W.Looks (model prog w) s.heap (isInstance (.ref x) (.type "object")) true := I.type.andThen (PySem.W.looks_mroIn Xk ob)
  have callN : wpAny (model prog w) A (call (.builtin "object.__ne__") [.ref x, b]) (fun v s' => ∃ c, v = .bool c ∧ Q v s') E s := by
    refine wpAny_call (codeAny_call_builtin PySem.F.cmp_object.ne.plain PySem.F.cmpEntry_ne ?_)
    refine @PySem.W.check_slot (model prog w) _ _ s "object.__ne__" "object" "__ne__" (.ref x) [b] [] _ PySem.F.cmpKind_ne PySem.F.cmpSplit_ne sub (PySem.F.cmpArgs_ne _ _) ?_
    refine objNe_entry (A := A.in1) (by show A.units + 1 < cLine; exact hu) Xk I hs hf (thn h fun v s' z => ?_)
    obtain ⟨c, rfl, q⟩ := z
    exact ⟨c, rfl, ⟨!c, rfl, q⟩⟩
  have L1 := PySem.W.looks_findIn (M := model prog w) Xk hn
  have one : wpAny (model prog w) A (tryCompare (.ref x) "__ne__" b) (fun r s' => ∃ v, r = some v ∧ Q v s') E s := by
    unfold tryCompare
    refine wpAny_bind ?_
    simp only [callSpecialIfBound?, bindSpecialIfBound?]
    refine wpAny_holding (wpAny_bind (wpAny_bind (wpAny_bind (I.type.here (L1.here ?_)))))
    simp only [PySem.F.cmp_object.ne.bind]
    refine wpAny_bind (wpAny_askSetting (wpAny_ite ?_))
    have go : wpAny (model prog w) A (do
        let r ← call (.builtin "object.__ne__") ([.ref x] ++ [b])
        pure (some r)) (fun a s' => wpAny (model prog w) A (match a with
          | some Value.notImplemented => pure none
          | none => pure none
          | some v => pure (some v)) (fun r s' => ∃ v, r = some v ∧ Q v s') E s') E s := by
      refine wpAny_bind (thn callN fun v s' z => ?_)
      obtain ⟨c, rfl, q⟩ := z
      exact wpAny_pure (wpAny_pure ⟨_, rfl, q⟩)
    split
    · exact wpAny_bind (wpAny_pure (wpAny_pure (by exact go)))
    · refine wpAny_tryCatch ?_
      exact wpAny_bind (wpAny_pure (wpAny_pure (by exact go)))
  have hu0 : A.units < cLine := Nat.lt_of_succ_lt hu
  unfold richCompare
  simp only [oneThing_ref]
  refine wpAny_holding (wpAny_bind (wpAny_cRoomFor hu0 ?_))
  refine wpAny_bind (I.type.here (wpAny_bind (hb.here ?_)))
  split
  · rename_i q
    simp at q
  · refine wpAny_bind (wpAny_pure ?_)
    simp only [Bool.false_eq_true, if_false]
    refine wpAny_bind (wpAny_mono one (fun r s' z => ?_) fun _ _ e => e)
    obtain ⟨v, rfl, hq⟩ := z
    exact wpAny_pure hq
theorem op_ne_own (O : OwnE X.K C f) (F : FnOk X.prog X.w X.K X.mg X.base CX k f fd ps sp) (hr : Room (k + 1) X.A) (hb : Binds X.K fd ps []) (hx : Passes CX X E) : OpR X (compareOp .NotEq) (rEqOwn C sp E true) := by
  intro pins s σ H x y v u Q I rx ry hq
  obtain ⟨a, b, dx, dy, fs, gs, rfl, rfl, ha, hb', q⟩ := hq
  cases rx
  cases ry
  obtain ⟨od, J⟩ := inst_at I ha
  obtain ⟨od', J'⟩ := inst_at I hb'
  refine cmp_ne (by have := hr.units; omega) I.kIn J J'.type O.hn O.ob O.hs O.hf ?_
  refine thn (run_at (A := X.A.in1) (vs := [.ref a, .ref b]) F hr.in1 rfl hb (at_of_passes hx) I (.cons rfl (.cons rfl .nil)) q) fun _ _ z => ?_
  obtain ⟨w', H', I', rw', c, rfl, q2⟩ := z
  cases rw'
  exact ⟨c, rfl, (⟨.bl (!c), H', I', rfl, q2⟩ : EP X pins σ Q (.bool (!c)) _)⟩
/-! ### str(o) by the class's __str__ -/
def rStrOwn (C : Addr) (sp : Sp) (E : XK) : List V → Hp → VK → Prop := fun vs H Q => ∃ a dx fs, vs = [.ref a] ∧ H a = some (.ins C dx fs) ∧ sp [.ref a] H (fun v H' => ∃ z, v = .str z ∧ Q v H') E
theorem call_str_own (O : OwnM X.K C f "__str__") (F : FnOk X.prog X.w X.K X.mg X.base CX k f fd ps sp) (hr : Room (k + 2) X.A) (hb : Binds X.K fd ps []) (hx : Passes CX X E) : CallR X (.type "str") (rStrOwn C sp E) := by
  intro pins s σ H xs us Q I r hq
  obtain ⟨a, dx, fs, rfl, ha, q⟩ := hq
  cases r with
  | cons rx rr =>
    cases rr
    cases rx
    obtain ⟨od, J⟩ := inst_at I ha
    have hr2 : Room k X.A.in1.in1 := hr.in1.in1
    refine PySem.W.kso_call hr2.units0 I.kIn J O.hs O.hf ?_
    refine thn (run_at (A := X.A.in1.in1) (vs := [.ref a]) F hr2 rfl hb (at_of_passes hx) I (.cons rfl .nil) q) fun _ _ z => ?_
    obtain ⟨w', H', I', rw', z, rfl, q2⟩ := z
    obtain ⟨t, rfl⟩ := rw'
    exact (⟨.str z, H', I', ⟨t, rfl⟩, q2⟩ : EP X pins σ Q (.str z t) _)
/-! ### -o -/
def rNegOwn (C : Addr) (sp : Sp) (E : XK) : V → Hp → VK → Prop := fun x H Q => ∃ a dx fs, x = .ref a ∧ H a = some (.ins C dx fs) ∧ sp [.ref a] H Q E
theorem un_neg_own (O : OwnM X.K C f "__neg__") (F : FnOk X.prog X.w X.K X.mg X.base CX k f fd ps sp) (hr : Room k X.A) (hb : Binds X.K fd ps []) (hx : Passes CX X E) : UnR X (unaryOp .USub) (rNegOwn C sp E) := by
  intro pins s σ H x v Q I rx hq
  obtain ⟨a, dx, fs, rfl, ha, q⟩ := hq
  cases rx
  obtain ⟨od, J⟩ := inst_at I ha
  obtain ⟨m, hF⟩ := I.fr
  exact PySem.W.ksp_neg hF I.ok.mod.kin J O.hs O.hf (run_at (vs := [.ref a]) F hr rfl hb (at_of_passes hx) I (.cons rfl .nil) q)
end
end XR
/-! ### isinstance of a caught error that has a dict of its own -/
namespace XR
open PySem PySem.Spec PySem.Calls PyProof.Rows PySem.W
section
variable {prog : Program} {w : World} {A : Around} {E : Value → Shared → Prop} {s : Shared} {K : Frag} {x D : Addr} {ox od : Obj}
/-- what a class of errors must say, so that isinstance reads its instances rightly (L2.ExcC's facts) -/
abbrev Asks (K : Frag) (D : Addr) : Prop := L2.ExcC K D
theorem excD_class {Q : Option Value → Shared → Prop} (c : Asks K D) (X : K.In s.heap)
    (I : InstAt s.heap x ox D (some od)) (h : Q (some (.ref D)) { s with toks := s.toks + 1 }) :
    wpAny (model prog w) A (getAttr? (.ref x) "__class__") Q E s := by
  have isC : (clsIn K D).isSome = true := by
    obtain ⟨cd, hc, _⟩ := any_some c.hd
    rw [hc] <;> rfl
  have fnd := looks_find (M := model prog w) X I (findObj_data isC c.ha c.hn c.ht)
  obtain ⟨hp, g, d, t, os⟩ := s
  have lt := I.type (M := model prog w)
  have la := looks_findIn (M := model prog w) X c.hg
  have lb := looks_findIn (M := model prog w) X c.hk
  have isB : Looks (model prog w) hp (isInstance (.ref x) (.type "BaseException")) true :=
    lt.andThen (looks_subIn X c.hs)
  have z0 : (false && onTheHeap (Value.builtin "BaseException.__getattribute__")) = false := by
    rfl
  have z2 : (Value.builtin "BaseException.__getattribute__" ==
      Value.builtin "object.__getattribute__") = false := by decide +kernel
  have z1 : (onTheHeap (Value.ref D) && (Value.builtin "BaseException.__getattribute__" ==
      Value.builtin "object.__getattribute__")) = false := by rw [z2, Bool.and_false]
  unfold getAttr? getAttrBy? getAttrBy
  refine wpAny_bind (wpAny_mkText ?_)
  refine wpAny_bind (wpAny_attempt ?_)
  refine wpAny_holding (wpAny_bind (lt.at ?_))
  refine wpAny_bind (la.at ?_)
  show wpAny _ _ (if (onTheHeap (Value.ref D) && (Value.builtin "BaseException.__getattribute__" ==
    Value.builtin "object.__getattribute__")) = true then _ else _) _ _ _
  rw [z1, if_neg (by decide)]
  unfold getAttrByItsOwn hookBefore
  refine wpAny_bind ?_
  rw [if_pos (by rfl : onTheHeap (Value.ref D) = true)]
  refine lb.at (wpAny_bind (wpAny_attempt ?_))
  refine wpAny_holding ?_
  unfold callGetattribute
  rw [z0, if_neg (by decide)]
  unfold boundAndCalled
  rw [PySem.F.excAttr_ValueError.ga.bind]
  refine wpAny_bind (wpAny_pure ?_)
  show wpAny _ _ (call (.builtin "BaseException.__getattribute__")
    [.ref x, .str "__class__" t]) _ _ _
  refine wpAny_call (codeAny_call_builtin PySem.F.excAttr_ValueError.ga.plain
    PySem.F.entry_bexc_ga ?_)
  refine @check_slot (model prog w) _ _ ⟨hp, g, d, t + 1, os⟩ "BaseException.__getattribute__" "BaseException"
    "__getattribute__" (.ref x) [.str "__class__" t] [] _ (by decide +kernel) (by decide +kernel) isB
    (PySem.F.args_bexc_ga _ _) ?_
  unfold Builtin.«object.__getattribute__»
  refine wpAny_bind (wpAny_of_eq (a := ((Value.ref x : Value), [Value.str "__class__" t]))
    (by first | rfl | (simp only [Builtin.slotArgs] <;> rfl)) ?_)
  refine wpAny_bind (wpAny_pure ?_)
  refine wpAny_bind (lt.at (wpAny_bind (fnd.at ?_)))
  show wpAny _ _ (holding [Value.builtin "object.__class__"]
    (call (.builtin "getset_descriptor.__get__") [.builtin "object.__class__", .ref x, .ref D]) >>= ret) _ _ _
  refine wpAny_bind (wpAny_holding ?_)
  refine wpAny_call (class_get (s := ⟨hp, g, d, t + 1, os⟩) (ox := ox) (od := some od) X I c.hm ?_)
  refine wpAny_pure ?_
  show wpAny _ _ (handedOut (.ref D)) _ _ _
  rw [handedOut_of (v := .ref D) (by rfl)]
  first
    | exact wpAny_pure (wpAny_bind (wpAny_pure (wpAny_pure h)))
    | exact wpAny_pure (wpAny_pure h)
    | exact wpAny_pure h
theorem kit_excD (c : Asks K D) : KitX K (.ref x) (.ref D) (fun h => InstAt h x ox D (some od)) where
  ty := fun _ _ _ i => i.type
  it := fun m h X' i => by
    obtain ⟨cd, hc, _⟩ := any_some c.hd
    unfold clsIn at hc
    split at hc
    next c' d' cd' sl' ho =>
      intro A' Q' E' s' k q
      unfold isType loadHead
      refine wpAny_bind (wpAny_loadPart (k _ _ (X' _ _ ho)) ?_)
      exact wpAny_pure q
    next => cases hc
  ne := fun h tp dd its n sl X' htp => by
    obtain ⟨cd, hc, _⟩ := any_some c.hd
    refine Bool.eq_false_iff.mpr fun q => ?_
    obtain rfl : D = tp := Value.ref.inj (beq_iff_eq.mp q)
    unfold clsIn at hc
    split at hc
    next c' d' cd' sl' ho => cases (X' _ _ ho).symm.trans htp
    next => cases hc
  ca := fun X' i q => excD_class c X' i q
end
end XR
namespace XR
open PySem PySem.Spec PyProof.Rows L2
/-! ### a caught error, pinned: isinstance, fields -/
section
variable {X : Cx} {a : Addr} {oe : Obj} {cls : Value} {d : Option Addr}
theorem pinned_inst {pins : List (Addr × Obj)} {s : Shared} {σ : L2.St} {H : Hp} {D dd : Addr} {fs : List (Str × V)}
    (hp : (a, oe) ∈ X.pn) (hz : Zc (.ref D) (some dd) oe) (hf : ∃ vs, oe.data = .fields vs) (I : Inv X pins σ H s)
    (e : H dd = some (.xd fs)) : ∃ od, PySem.W.InstAt s.heap a oe D (some od) ∧ ∃ mA : Str → Option Value,
      (∀ n, PySem.W.lookIn n od = some (mA n)) ∧ ∀ n, RelO (fs.lookup n) (mA n) := by
  have at_ := (I.pin (a, oe) (List.mem_append_left _ hp)).1
  obtain ⟨vs, hv⟩ := hf
  have ok : ObjOk X.prog X.w H s.heap dd (.xd fs) := I.hok dd _ e
  obtain ⟨mA, hns, rel⟩ := ok
  obtain ⟨od, ho, hl⟩ := lookIn_ns hns
  refine ⟨od, ⟨at_, hz.1, ?_, ?_⟩, mA, hl, rel⟩
  · unfold PySem.W.notCls
    rw [hv] <;> rfl
  · rw [hz.2]
    exact ho
def rIsP (K : PySem.W.Frag) (cls : Value) (d : Option Addr) (a : Addr) : List V → Hp → VK → Prop := fun xs H Q =>
  ∃ (D dd : Addr) (fs : List (Str × V)) (c : V) (cv : Value) (b : Bool), cls = .ref D ∧ d = some dd ∧ H dd = some (.xd fs) ∧
    Asks K D ∧ xs = [.ref a, c] ∧ ClsV c cv ∧ PySem.W.kitOne K (.ref D) cv = some b ∧ Q (.bl b) H
def rIsPT (K : PySem.W.Frag) (cls : Value) (d : Option Addr) (a : Addr) : List V → Hp → VK → Prop := fun xs H Q =>
  ∃ (D dd tp : Addr) (fs : List (Str × V)) (cs : List V) (us : List Value) (b : Bool), cls = .ref D ∧ d = some dd ∧ H dd = some (.xd fs) ∧
    Asks K D ∧ xs = [.ref a, .ref tp] ∧ H tp = some (.tup cs) ∧ Paired ClsV cs us ∧ PySem.W.kitAny K (.ref D) us = some b ∧ Q (.bl b) H
theorem call_isP (hp : (a, oe) ∈ X.pn) (hz : Zc cls d oe) (hf : ∃ vs, oe.data = .fields vs) :
    CallR X (.builtin "isinstance") (rIsP X.K cls d a) := by
  intro pins s σ H xs us Q I r h
  obtain ⟨D, dd, fs, c, cv, b, rfl, rfl, e, as, rfl, kc, ek, q⟩ := h
  obtain ⟨u1, u2, rfl, r1, r2⟩ := vals2 r
  obtain rfl : u1 = Value.ref a := r1
  obtain rfl := kc.eq r2
  obtain ⟨od, J, _⟩ := pinned_inst hp hz hf I e
  exact PySem.W.kia_one (kit_excD as) I.kIn J ek (fun z => nomatch z) fun tk => ⟨.bl b, H, I.tok tk, rfl, q⟩
theorem call_isPT (hp : (a, oe) ∈ X.pn) (hz : Zc cls d oe) (hf : ∃ vs, oe.data = .fields vs) :
    CallR X (.builtin "isinstance") (rIsPT X.K cls d a) := by
  intro pins s σ H xs us Q I r h
  obtain ⟨D, dd, tp, fs, cs, ws, b, rfl, rfl, e, as, rfl, hT, kc, ek, q⟩ := h
  obtain ⟨u1, u2, rfl, r1, r2⟩ := vals2 r
  obtain rfl : u1 = Value.ref a := r1
  obtain rfl : u2 = Value.ref tp := r2
  obtain ⟨od, J, _⟩ := pinned_inst hp hz hf I e
  have okT : ObjOk X.prog X.w H s.heap tp (.tup cs) := I.hok tp _ hT
  obtain ⟨_, its, rv, ⟨oc, od2, dt, sl⟩, h1, h2, n, h3⟩ := okT
  dsimp only at h2 h3
  subst h2 h3
  obtain rfl := ClsV.all kc rv
  exact PySem.W.kia_tup (kit_excD as) I.kIn J h1 ek (fun z => nomatch z) fun tk => ⟨.bl b, H, I.tok tk, rfl, q⟩
/-- e.n, e the pinned error -/
def tPf (K : PySem.W.Frag) (a : Addr) (cls : Value) (d : Option Addr) (n : Str) (te : TE) : TE := fun σ H Q => te σ H fun x H1 =>
  ∃ (D dd : Addr) (fs : List (Str × V)) (v : V), x = .ref a ∧ cls = .ref D ∧ d = some dd ∧ H1 dd = some (.xd fs) ∧ XfC K D ∧
    PySem.W.findIn K (.ref D) n = some none ∧ fs.lookup n = some v ∧ Q v H1
theorem pe_pf {e : Expr} {te : TE} {pos : Pos} {n : Str} (hp : (a, oe) ∈ X.pn) (hz : Zc cls d oe) (hf : ∃ vs, oe.data = .fields vs) (he : PE X e te)
    (hb : attributeBase e n X.env (eval e X.env) = eval e X.env := by rfl) : PE X (.Attribute e n pos) (tPf X.K a cls d n te) := by
  refine ⟨fun pins s σ H Q I h => attr_of hb (thn (he.run pins s σ H _ I h) fun u s1 z => ?_)⟩
  obtain ⟨x, H1, I1, rx, D, dd, fs, v, rfl, rfl, rfl, ea, xf, hno, l, q⟩ := z
  obtain rfl : u = Value.ref a := rx
  obtain ⟨od, J, mA, hl, rel⟩ := pinned_inst hp hz hf I1 ea
  have rn := rel n
  rw [l] at rn
  obtain ⟨u, hu, ru⟩ := RelO.some_of rn
  refine HandSPX.exc_get I1.kIn J xf.ga xf.gg xf.exC (PySem.W.findObj_own xf.hdC hno rfl ?_) (handed_of ru) ⟨v, H1, I1.tok _, ru, q⟩
  rw [hl, hu]
end
/-! ### a def called while an error is handled: it raises nothing itself -/
abbrev SpQ := Addr × Obj → Sp
structure FnQ (P : Program) (w : World) (K : PySem.W.Frag) (mg : Str → Option Value) (base : Heap) (k : Nat) (f : Addr) (fd : FuncData) (ps : List Str) (sp : SpQ) : Prop where
  len : ∀ p vs H Q E, sp p vs H Q E → vs.length = ps.length
  run : ∀ (A : Around) (outer : List Env) (s : Shared) (H : Hp) (args : Args) (us : List Value) (vs : List V) (Q : VK) (p : Addr × Obj),
    L2H.RoomH k A → L2H.PinOk outer H s p → Env0 P w K mg base A outer s H → BindsTo s fd args (ps.zip us) → Vals vs us → sp p vs H Q E0 →
    codeAny (model P w) A (.call (.ref f) args) (CR CX0 outer P w H s Q E0) s
section
variable {P : Program} {w : World} {K : PySem.W.Frag} {mg : Str → Option Value} {base : Heap}
theorem okQ {x qual : Str} {st : Stmt} {f : Addr} {fd : FuncData} {N ps : List Str} {k : Nat} {sp : SpQ} (F : Fun K x qual st f fd) (S : FnScope N ps (defScope st))
    (len : ∀ p vs H Q E, sp p vs H Q E → vs.length = ps.length)
    (body : ∀ (cdv : Value) (A : Around) (outer : List Env) (s : Shared) (H : Hp) (vs : List V) (Q : VK) (p : Addr × Obj),
      L2H.RoomH k (A.deeper (envOfC qual (defScope st) s.heap.objs.size f cdv)) → sp p vs H Q E0 →
      ∃ t, PSs (L2H.cxH CX0 P w K mg base N qual (defScope st) f cdv A outer s H E0 p).nox (defBody st) t ∧
        t { nx := fun _ H' => Q .non H', rt := Q } (start N vs) H) : FnQ P w K mg base (k + 1) f fd ps sp := by
  obtain ⟨oc, od, kV, doc, pm, an, cdv, ct, osl, rfl, lk, hcd⟩ := F.ex
  refine ⟨len, fun A outer s H args us vs Q p hr pin e0 hb r hsp => ?_⟩
  have hl := len _ _ _ _ _ hsp
  have old : ∀ b o, base.get? b = some o → s.heap.get? b = some o := fun b o e => (e0.bs b o e).1
  have KX : K.In s.heap := e0.mod.kin.keeps old
  have lim : s.heap.NoLimit := e0.mod.nolimit.keeps old
  have kinds : ∀ y ∈ ps.zip us, (defScope st).names.lookup y.1 = some .local ∨
      ((defScope st).names.lookup y.1 = some .cell ∧ ((cellsFrom (s.heap.objs.size + 1) (defScope st).names []).lookup y.1).isSome = true) := by
    rintro ⟨n, v⟩ hy
    refine (S.par n (List.of_mem_zip hy).1).imp (fun q => q) fun q => ⟨q, ?_⟩
    exact PySem.W.cellsFrom_some _ _ _ (.inl q)
  refine codeAny_call_function hr.depth (KX _ _ lk) rfl S.co S.gen rfl (PySem.W.codeRec_of KX hcd) (hb _ _ _ _ ?_)
  refine wpAny_newFunctionEnv_cells S.kind kinds fun env he s1 x => ?_
  subst he
  refine ⟨lim.keeps x.toInCall.keep, codeAny_func ?_⟩
  obtain ⟨t, ht, hq⟩ := body cdv A outer s H vs Q p (hr.deeper _) hsp
  have I := L2H.inv_startH (CX := CX0) (E := E0) (cd := cdv) (qual := qual) S pin e0 hl r x
  have run := (PSs.nox ht).run [] s1 (start N vs) H _ I hq
  have out : ∀ {σ' : L2.St} {H' : Hp} {v : V} {u : Value} {s' : Shared},
      Inv (L2H.cxH CX0 P w K mg base N qual (defScope st) f cdv A outer s H E0 p) [] σ' H' s' → RelV v u → Q v H' → CE outer P w H s Q u s' :=
    fun J rv q => ⟨_, _, J.os, J.bare, J.base, J.hok, rv, q⟩
  refine wpAny_mono run (fun fl s' z => ?_) fun _ _ z => z
  cases fl with
  | next =>
    obtain ⟨σ', H', J, q⟩ := z
    exact out (v := V.non) (u := Value.none) J rfl q
  | ret u =>
    obtain ⟨v, σ', H', J, rv, q⟩ := z
    exact out J rv q
  | brk => exact z.elim fun _ y => y.elim fun _ y => y.2.elim
  | cont => exact z.elim fun _ y => y.elim fun _ y => y.2.elim
end
section
variable {X : Cx} {k : Nat} {f : Addr} {fd : FuncData} {ps : List Str} {sp : SpQ} {x : Str} {q pos : Pos} {e : Expr} {es : List Expr} {t : TA} {p : Addr × Obj}
def tCallQ (sp : Sp) (t : TA) : TE := fun σ H Q => t σ H fun vs H1 => sp vs H1 Q E0
theorem pe_callQ (F : FnQ X.prog X.w X.K X.mg X.base k f fd ps sp) (hr : L2H.RoomH k X.A) (hp : p ∈ X.pn) (hg : Gl X x) (hm : X.mg x = some (.ref f))
    (hk : PySem.W.keepIn X.K (.ref f) = true) (hb : Binds X.K fd ps []) (ha : PA X (e :: es) t) (hdb : (x == ("__debug__" : Str)) = false := by decide)
    (he : starEach (e :: es) X.env = (false, eval e X.env) :: starEach es X.env := by rfl) (hpl : (backTo pos (starEach es X.env)).any (·.1) = false := by rfl) :
    PE X (.Call (.Name x q) (e :: es) [] pos) (tCallQ (sp p) t) := by
  refine ⟨fun pins s σ H Q I h => wpAny_Call_Name_kw (ld_glob I hg hm ?_ hdb)⟩
  refine PySem.W.callWith_K (h₀ := X.base) I.ok.mod.kin hk (thn (ha.run pos pins s σ H _ I h) fun us s1 z => ?_) he hpl
  obtain ⟨vs, H1, I1, r, hsp⟩ := z
  refine ⟨I1.kIn, ?_⟩
  have hl : us.length = ps.length := r.length.symm.trans (F.len _ _ _ _ _ hsp)
  have b := hb s1 us I1.kIn (by rw [List.append_nil]; exact hl)
  rw [List.append_nil] at b
  obtain ⟨p1, p2, p3, p4, p5⟩ := I1.pin p (List.mem_append_left _ hp)
  have pin : L2H.PinOk X.stack H1 s1 p := ⟨p1, p2, fun hm => (List.mem_cons.mp (I1.stkSub p.1 hm)).elim p3 p4, p5⟩
  refine wpAny_call (codeAny_mono (F.run X.A X.stack s1 H1 ⟨us, []⟩ us vs Q p hr pin I1.env0 b r hsp) fun r s' z => ?_)
  cases r with
  | error e => exact z.elim
  | ok fl =>
    cases fl with
    | ret u => exact I1.after z
    | next => exact z.elim
    | brk => exact z.elim
    | cont => exact z.elim
end
end XR
namespace XR
open PySem PySem.Spec PyProof.Rows L2
/-! ### C(e, ..) where __init__ may raise, the wish told at the caller's slots -/
section
variable {X : Cx} {CX : CXT} {k : Nat} {C f : Addr} {fd : FuncData} {ps : List Str} {sp : Sp} {E : L2.St → XK} {x : Str} {p pos : Pos} {e : Expr} {es : List Expr} {t : TA}
def tMakeS (C : Addr) (sp : Sp) (E : L2.St → XK) (t : TA) : TE := fun σ H Q => t σ H fun vs H1 => ∀ x dx, H1 x = none → H1 dx = none → dx ≠ x →
  sp (.ref x :: vs) (upd (upd H1 dx (.own x)) x (.ins C dx [])) (fun v H2 => v = .non ∧ Q (.ref x) H2) (E σ)
theorem pe_makeS (M : Mk X.K C f) (F : FnOk X.prog X.w X.K X.mg X.base CX k f fd ps sp) (hr : Room (k + 1) X.A) (hg : Gl X x) (hm : X.mg x = some (.ref C)) (hb : Binds X.K fd ps [])
    (hx : ∀ σ, PassesAt CX X σ (E σ)) (ha : PA X (e :: es) t) (hdb : (x == ("__debug__" : Str)) = false := by decide)
    (he : starEach (e :: es) X.env = (false, eval e X.env) :: starEach es X.env := by rfl) (hpl : (backTo pos (starEach es X.env)).any (·.1) = false := by rfl) :
    PE X (.Call (.Name x p) (e :: es) [] pos) (tMakeS C sp E t) := by
  refine ⟨fun pins s σ H Q I h => wpAny_Call_Name_kw (ld_glob I hg hm ?_ hdb)⟩
  refine PySem.W.callWith_K (h₀ := X.base) I.ok.mod.kin M.kp (thn (ha.run pos pins s σ H _ I h) fun us s1 z => ?_) he hpl
  obtain ⟨vs, H1, I1, r, q⟩ := z
  refine ⟨I1.kIn, ?_⟩
  have fr := I1.hok.fresh (a := s1.heap.objs.size) (Nat.le_refl _)
  have fr1 := I1.hok.fresh (a := s1.heap.objs.size + 1) (Nat.le_add_right _ 1)
  have hsp := q (s1.heap.objs.size + 1) s1.heap.objs.size fr1 fr (Nat.ne_of_lt (Nat.lt_succ_self _))
  have I2 := Inv.made (C := C) I1
  have r2 : Vals (V.ref (s1.heap.objs.size + 1) :: vs) (Value.ref (s1.heap.objs.size + 1) :: us) := .cons rfl r
  have hl : (Value.ref (s1.heap.objs.size + 1) :: us).length = ps.length := r2.length.symm.trans (F.len _ _ _ _ hsp)
  have b := hb _ (Value.ref (s1.heap.objs.size + 1) :: us) I2.kIn (by rw [List.append_nil]; exact hl)
  rw [List.append_nil] at b
  have run := F.run _ X.stack _ _ ⟨Value.ref (s1.heap.objs.size + 1) :: us, []⟩ _ _ _ (E σ) (hr.make C us []) (I2.env0.make C us []) b r2 hsp
  refine wpAny_call (make_map (f := f) I1.kIn M.makes M.init (beq_iff_eq.mp M.fn) (codeAny_mono run fun r s' z => ?_))
  cases r with
  | error er => exact hx σ pins _ _ er s' I2 z
  | ok fl =>
    cases fl with
    | ret u =>
      obtain ⟨v, H', I3, rv, ev, q3⟩ := I2.after z
      subst ev
      exact ⟨rv, .ref (s1.heap.objs.size + 1), H', I3, rfl, q3⟩
    | next => exact z.elim
    | brk => exact z.elim
    | cont => exact z.elim
end
end XR
set_option Elab.async false
set_option linter.all false
set_option maxRecDepth 100000
set_option maxHeartbeats 4000000
/-! common lemmas: lists of ints, heaps with one object that changes, errors made and raised -/
namespace XR
open PySem PySem.Spec PyProof.Rows L2
theorem divw {i j : Int} (h : 0 < j) (h2 : j < 2 ^ 63) : CDivW i j := wide_div (b := 63) h (by omega) (by decide) (by decide)
theorem cmul_mod {i j : Int} (h : 0 < j ∧ j < 2 ^ 64) : -(2 ^ 64) < i % j ∧ i % j < 2 ^ 64 := ⟨by have := Int.emod_nonneg i (b := j) (by omega); omega, by have := Int.emod_lt_of_pos i h.1; omega⟩
theorem log_lt {i : Int} (h1 : -(10 ^ 40) < i) (h2 : i < 10 ^ 40) : i.natAbs.log2 < 1920 := by
  have h : i.natAbs < 10 ^ 40 := by omega
  have h3 : (10 : Nat) ^ 40 < 2 ^ 1920 := by decide +kernel
  by_cases z : i.natAbs = 0
  · rw [z]; decide
  · exact (Nat.log2_lt z).mpr (Nat.lt_trans h h3)
/-- a word at which the reading stops (two makers, so that no anonymous one fits) -/
inductive Stop (p : Prop) : Prop where
  | go (h : p)
  | too (h : p)
theorem Stop.out {p : Prop} : Stop p → p
  | .go h => h
  | .too h => h
/-- xs[:n] -/
theorem cutV_take (ns : List Int) (n : Nat) : cutV (ns.map V.int) none (some (n : Int)) = (ns.take n).map V.int := by
  unfold cutV
  have e0 : HT.sIx (ns.map V.int).length 0 none = 0 := rfl
  have e1 : HT.sIx (ns.map V.int).length (ns.map V.int).length (some (n : Int)) = min n (ns.map V.int).length := by
    unfold HT.sIx
    simp
    omega
  rw [e0, e1]
  simp [List.map_take]
theorem get_int {ms : List Int} {i : Nat} {x : V} (h : (ms.map V.int)[i]? = some x) : ∃ z, ms[i]? = some z ∧ x = .int z := by
  rw [List.getElem?_map] at h
  cases e : ms[i]? with
  | none => rw [e] at h; cases h
  | some z => rw [e] at h; exact ⟨z, rfl, (Option.some.inj h).symm⟩
theorem take_one {α : Type} {ms : List α} {i : Nat} {z : α} (h : ms[i]? = some z) : ms.take (i + 1) = ms.take i ++ [z] := by
  rw [List.take_succ, h] <;> rfl
theorem ne_fresh {H : Hp} {a b : Addr} {o : HO} (h : H b = none) (e : H a = some o) : a ≠ b := ne_of_none e h
theorem empty_app (x : Str) : Str.empty ++ x = x := by
  cases x with
  | mk a =>
    show (⟨#[] ++ a⟩ : Str) = ⟨a⟩
    simp
theorem max_if (a c : Int) : (if c > a then c else a) = max a c := by omega
theorem min_if (a c : Int) : (if c < a then c else a) = min a c := by omega
theorem at_ints {cs : List Int} {i : Int} (h0 : 0 ≤ i) (h : i < ((cs.map V.int).length : Nat)) : ∃ z, atI (cs.map V.int) i = some (.int z) := by
  have hl : i.toNat < cs.length := by rw [List.length_map] at h; omega
  refine ⟨cs[i.toNat], at_of (j := i.toNat) (by omega) ?_⟩
  rw [List.getElem?_map, List.getElem?_eq_getElem hl] <;> rfl
/-- the item at a drawn place of a written list -/
theorem at_lt {α : Type} {xs : List α} {i : Int} (h0 : 0 ≤ i) (h : i < (xs.length : Int)) : ∃ x, atI xs i = some x ∧ x ∈ xs := by
  have hl : i.toNat < xs.length := by omega
  refine ⟨xs[i.toNat], ?_, List.getElem_mem hl⟩
  have e := atI_nat (List.getElem?_eq_getElem hl)
  rw [show ((i.toNat : Nat) : Int) = i by omega] at e
  exact e
/-- all but b stands as it stood -/
def ExB (b : Addr) (H H' : Hp) : Prop := ∀ a o, a ≠ b → H a = some o → H' a = some o
theorem ExB.refl {b : Addr} {H : Hp} : ExB b H H := fun _ _ _ e => e
theorem ExB.trans {b : Addr} {H H1 H2 : Hp} (x : ExB b H H1) (y : ExB b H1 H2) : ExB b H H2 := fun a o n e => y a o n (x a o n e)
theorem ExB.same {b : Addr} {H H1 H2 : Hp} (x : ExB b H H1) (y : Same H1 H2) : ExB b H H2 := fun a o n e => y a o (x a o n e)
theorem ExB.of {b : Addr} {H H1 : Hp} (y : Same H H1) : ExB b H H1 := fun a o _ e => y a o e
theorem ExB.upd {b : Addr} {H H' : Hp} {o : HO} (x : ExB b H H') : ExB b H (upd H' b o) := fun a u ha e => by rw [upd_ne ha]; exact x a u ha e
theorem Same.new {H H' : Hp} {p : Addr} {o : HO} (x : Same H H') (h : H' p = none) : Same H (upd H' p o) := fun a u e => by
  have q := x a u e
  rw [upd_ne (ne_of_none q h)]
  exact q
theorem ExB.new {b : Addr} {H H' : Hp} {p : Addr} {o : HO} (x : ExB b H H') (h : H' p = none) : ExB b H (L2.upd H' p o) := fun a u n e => by
  have q := x a u n e
  rw [upd_ne (ne_of_none q h)]
  exact q
/-- nothing stands at p behind either -/
theorem none_back {H H' : Hp} {p : Addr} (x : Same H H') (h : H' p = none) : H p = none := Same.free x h
theorem none_backB {b : Addr} {H H' : Hp} {p : Addr} (x : ExB b H H') (n : p ≠ b) (h : H' p = none) : H p = none := by
  cases e : H p with
  | none => rfl
  | some o => rw [x p o n e] at h; cases h

theorem hot_of {A : Around} {k : Nat} {v : Option Value} (r : Room k A) : L2H.RoomH k (A.mark v) := ⟨r.dp, r.un⟩
/-! ### an error of the program with fields: made, raised -/
/-- what its __init__ leaves -/
def spEx (C : Addr) (fs : List V → Option (List (Str × V))) : Sp := fun vs H Q _ => ∃ (a : Addr) (ws : List V) (l : List (Str × V)), vs = .ref a :: ws ∧ fs ws = some l ∧
  H a = some (exo a C none) ∧ ∀ d H', H d = none → d ≠ a → H' a = some (exo a C (some d)) → H' d = some (exd d l) → (∀ q o, q ≠ a → H q = some o → H' q = some o) → Q .non H'
/-- the wish of what is raised: an error of the class at C with these fields, all else as it stood -/
def Wish (C : Addr) (l : List (Str × V)) (H : Hp) (E : Value → Option Addr → Hp → Prop) : Prop := ∀ d H', H' d = some (.xd l) → Same H H' → E (.ref C) (some d) H'
theorem mk_ex {C : Addr} {fs : List V → Option (List (Str × V))} {vs : List V} {l : List (Str × V)} {H : Hp} {E : XK} (hl : vs.length ≤ 1000) (hf : fs vs = some l) (k : Wish C l H E) :
    vs.length ≤ 1000 ∧ ∀ a, H a = none → spEx C fs (.ref a :: (vs ++ [])) (upd H a (exo a C none))
      (fun v H2 => v = .non ∧ ∃ (d : Addr) (g : List (Str × V)), H2 a = some (exo a C (some d)) ∧ H2 d = some (exd d g) ∧ H d = none ∧ E (.ref C) (some d) (upd (del H2 a) d (.xd g))) (fun _ _ _ => False) := by
  refine ⟨hl, fun a ha => ⟨a, vs, l, by rw [List.append_nil], hf, upd_same, fun d H' hd hda ea ed x => ⟨rfl, d, l, ea, ed, ?_, k d _ upd_same fun q o e => ?_⟩⟩⟩
  · rw [upd_ne hda] at hd
    exact hd
  · have hqa : q ≠ a := ne_of_none e ha
    have hqd : q ≠ d := fun z => by
      rw [upd_ne hda] at hd
      rw [z, hd] at e
      cases e
    rw [upd_ne hqd, del_ne hqa]
    refine x q o hqa ?_
    rw [upd_ne hqa]
    exact e
theorem init_ex1 {K : PySem.W.Frag} {C a : Addr} {f : Str} {v : V} {H : Hp} {Q : Hp → Prop} (oc : OexC K C) (hn : PySem.W.findIn K (.ref C) f = some none) (ha : H a = some (exo a C none))
    (k : ∀ d H', H d = none → d ≠ a → H' a = some (exo a C (some d)) → H' d = some (exd d [(f, v)]) → (∀ q o, q ≠ a → H q = some o → H' q = some o) → Q H') :
    ∃ a' C' : Addr, V.ref a = .ref a' ∧ OexC K C' ∧ PySem.W.findIn K (.ref C') f = some none ∧
      ((H a' = some (exo a' C' none) ∧ ∀ dx, H dx = none → dx ≠ a' → Q (upd (upd H dx (exd dx [(f, v)])) a' (exo a' C' (some dx)))) ∨
        ∃ (dx : Addr) (fs : List (Str × V)), H a' = some (exo a' C' (some dx)) ∧ H dx = some (exd dx fs) ∧ fs.length ≤ 900 ∧ Q (upd H dx (exd dx ((f, v) :: fs)))) := by
  refine ⟨a, C, rfl, oc, hn, .inl ⟨ha, fun dx hd hne => k dx _ hd hne upd_same (by rw [upd_ne hne]; exact upd_same) fun q o hq e => ?_⟩⟩
  rw [upd_ne hq, upd_ne (ne_of_none e hd)]
  exact e
theorem init_ex2 {K : PySem.W.Frag} {C a d : Addr} {f : Str} {v : V} {l : List (Str × V)} {H : Hp} {Q : Hp → Prop} (oc : OexC K C) (hn : PySem.W.findIn K (.ref C) f = some none) (hl : l.length ≤ 900)
    (ha : H a = some (exo a C (some d))) (hd : H d = some (exd d l)) (hda : d ≠ a)
    (k : ∀ H', H' a = some (exo a C (some d)) → H' d = some (exd d ((f, v) :: l)) → (∀ q o, q ≠ a → q ≠ d → H q = some o → H' q = some o) → Q H') :
    ∃ a' C' : Addr, V.ref a = .ref a' ∧ OexC K C' ∧ PySem.W.findIn K (.ref C') f = some none ∧
      ((H a' = some (exo a' C' none) ∧ ∀ dx, H dx = none → dx ≠ a' → Q (upd (upd H dx (exd dx [(f, v)])) a' (exo a' C' (some dx)))) ∨
        ∃ (dx : Addr) (fs : List (Str × V)), H a' = some (exo a' C' (some dx)) ∧ H dx = some (exd dx fs) ∧ fs.length ≤ 900 ∧ Q (upd H dx (exd dx ((f, v) :: fs)))) := by
  refine ⟨a, C, rfl, oc, hn, .inr ⟨d, l, ha, hd, hl, k _ (by rw [upd_ne hda.symm]; exact ha) upd_same fun q o _ hq e => by rw [upd_ne hq]; exact e⟩⟩
end XR
namespace XR
open PySem L2
theorem ifF {c : Bool} {P Q : Prop} (h : c = false) (k : Q) : if c = true then P else Q := by rw [h, if_neg (by decide)]; exact k
theorem ifT {c : Bool} {P Q : Prop} (h : c = true) (k : P) : if c = true then P else Q := by rw [if_pos h]; exact k
end XR
namespace XR
open PySem L2
section
variable {X : Cx} {a b : Addr} {oe : Obj} {cls : Value} {d : Option Addr} {pn : List (Addr × Obj)}
theorem call_isPs (hz : Zc cls d oe) (hf : ∃ vs, oe.data = .fields vs) : CallR (X.suite b ((a, oe) :: pn)) (.builtin "isinstance") (rIsP X.K cls d a) := call_isP List.mem_cons_self hz hf
theorem call_isPTs (hz : Zc cls d oe) (hf : ∃ vs, oe.data = .fields vs) : CallR (X.suite b ((a, oe) :: pn)) (.builtin "isinstance") (rIsPT X.K cls d a) := call_isPT List.mem_cons_self hz hf
theorem pe_pfs {e : Expr} {te : TE} {pos : Pos} {n : Str} (hz : Zc cls d oe) (hf : ∃ vs, oe.data = .fields vs) (he : PE (X.suite b ((a, oe) :: pn)) e te)
    (hb : attributeBase e n (X.suite b ((a, oe) :: pn)).env (eval e (X.suite b ((a, oe) :: pn)).env) = eval e (X.suite b ((a, oe) :: pn)).env := by rfl) : PE (X.suite b ((a, oe) :: pn)) (.Attribute e n pos) (tPf X.K a cls d n te) :=
  pe_pf List.mem_cons_self hz hf he hb
theorem pe_callQs {k : Nat} {f : Addr} {fd : FuncData} {ps : List Str} {sp : SpQ} {x : Str} {q pos : Pos} {e : Expr} {es : List Expr} {t : TA}
    (F : FnQ (X.suite b ((a, oe) :: pn)).prog (X.suite b ((a, oe) :: pn)).w (X.suite b ((a, oe) :: pn)).K (X.suite b ((a, oe) :: pn)).mg (X.suite b ((a, oe) :: pn)).base k f fd ps sp) (hr : L2H.RoomH k (X.suite b ((a, oe) :: pn)).A) (hg : Gl (X.suite b ((a, oe) :: pn)) x) (hm : (X.suite b ((a, oe) :: pn)).mg x = some (.ref f))
    (hk : PySem.W.keepIn (X.suite b ((a, oe) :: pn)).K (.ref f) = true) (hb : Binds (X.suite b ((a, oe) :: pn)).K fd ps []) (ha : PA (X.suite b ((a, oe) :: pn)) (e :: es) t) (hdb : (x == ("__debug__" : Str)) = false := by decide)
    (he : starEach (e :: es) (X.suite b ((a, oe) :: pn)).env = (false, eval e (X.suite b ((a, oe) :: pn)).env) :: starEach es (X.suite b ((a, oe) :: pn)).env := by rfl) (hpl : (backTo pos (starEach es (X.suite b ((a, oe) :: pn)).env)).any (·.1) = false := by rfl) :
    PE (X.suite b ((a, oe) :: pn)) (.Call (.Name x q) (e :: es) [] pos) (tCallQ (sp (a, oe)) t) := pe_callQ (p := (a, oe)) F hr List.mem_cons_self hg hm hk hb ha hdb he hpl
end
end XR
namespace XR
open PySem L2
theorem cong_ts {X : Cx} {ss : List Stmt} {t t' : TS} (h : PSs X ss t) (e : t = t') : PSs X ss t' := e ▸ h
end XR
namespace XR
open PySem L2
theorem kitAny_cons {K : PySem.W.Frag} {t c : Value} {r : List Value} (h : PySem.W.kitOne K t c = some false) (hr : PySem.W.kitAny K t r = some false) : PySem.W.kitAny K t (c :: r) = some false := by
  unfold PySem.W.kitAny
  rw [h]
  exact hr
theorem kitAny_4 {K : PySem.W.Frag} {t a b c d : Value} (h1 : PySem.W.kitOne K t a = some false) (h2 : PySem.W.kitOne K t b = some false) (h3 : PySem.W.kitOne K t c = some false) (h4 : PySem.W.kitOne K t d = some false) : PySem.W.kitAny K t [a, b, c, d] = some false :=
  kitAny_cons h1 (kitAny_cons h2 (kitAny_cons h3 (kitAny_cons h4 rfl)))
end XR
namespace XR
open PySem L2
/-- .. in a comprehension's block -/
theorem ix_listb {X : Cx} {s : Shared} {H : Hp} {sc : Scope} {ce : Env} {fp : List Addr} : IxR (X.blk s H sc ce fp) (rIxL X.K) := ix_list
theorem ix_tupb {X : Cx} {s : Shared} {H : Hp} {sc : Scope} {ce : Env} {fp : List Addr} : IxR (X.blk s H sc ce fp) (rIxT X.K) := ix_tup
end XR
namespace XR
open PySem PySem.Spec PyProof.Rows L2
structure CStat (K : PySem.W.Frag) (C p g : Addr) (m : Str) : Prop where
  rd : PySem.W.readsIn K C (.type "type") = true
  ga : PySem.W.specialIn K (.ref C) "__getattribute__" = some (some (.builtin "type.__getattribute__"))
  at_ : PySem.W.findCls K (.ref C) (.type "type") m = some (.get (.builtin "staticmethod.__get__") (.ref p) .none (.ref C))
  rc : ∃ rest, PySem.W.recIn K p "staticmethod" = some (.ref g :: rest)
section
variable {X : Cx} {pins : List (Addr × Obj)} {σ : L2.St} {H : Hp} {s : Shared} {C p g : Addr} {m : Str} {A : Around} {E : Value → Shared → Prop}
theorem getstat_ok {pl : Sem Bool} {Q : Value × List Value → Shared → Prop} (I : Inv X pins σ H s) (r : CStat X.K C p g m) (h : ∀ s', Inv X pins σ H s' → Q (.ref g, []) s') : wpAny (model X.prog X.w) A (getMethod (.ref C) m pl) Q E s := by
  obtain ⟨rest, hp⟩ := r.rc
  exact PySem.W.method_cls I.kIn r.ga (PySem.W.cls_bind I.kIn r.rd r.at_ (wpAny_call (PySem.W.sm_get (s := { s with toks := s.toks + 1 }) I.kIn hp (PySem.W.handed_on rfl (h _ (I.tok _))))))
end
/-- C.m(..), m a staticmethod; E told at the caller's slots -/
def tStat (C : Addr) (sp : Sp) (E : L2.St → XK) (ta : TE) (t : TA) : TE := fun σ H Q => ta σ H fun x H1 => x = .ref C ∧ t σ H1 fun vs H2 => sp vs H2 Q (E σ)
section
variable {X : Cx} {CX : CXT} {k : Nat} {C p g : Addr} {fd : FuncData} {ps : List Str} {sp : Sp} {ES : L2.St → XK} {o e : Expr} {es : List Expr} {m : Str} {pos apos : Pos} {ta : TE} {t : TA} {pl : Sem Bool}
theorem pe_stat (he : PE X o ta) (r : CStat X.K C p g m) (F : FnOk X.prog X.w X.K X.mg X.base CX k g fd ps sp) (hr : Room k X.A) (hk : PySem.W.keepIn X.K (.ref g) = true) (hb : Binds X.K fd ps []) (hx : ∀ σ, PassesAt CX X σ (ES σ)) (ha : PA X (e :: es) t)
    (hst : starEach (e :: es) X.env = (false, eval e X.env) :: starEach es X.env := by rfl) (hpl : (backTo pos (starEach es X.env)).any (·.1) = false := by rfl)
    (ht : eval (.Call (.Attribute o m apos) (e :: es) [] pos) X.env = (do
      let ov ← eval o X.env
      standAt apos.atName
      let (f, first) ← holding [ov] (getMethod ov m pl)
      callWith pos f first (backTo pos (starEach (e :: es) X.env)) (backToKw pos (keywordEach [] X.env))) := by rfl) :
    PE X (.Call (.Attribute o m apos) (e :: es) [] pos) (tStat C sp ES ta t) := by
  refine ⟨fun pins s σ H Q I h => ?_⟩
  refine PySem.W.methodCall_KW (pl := pl) (thn (he.run pins s σ H _ I h) fun u s1 ⟨x, H1, I1, rx, ex, q⟩ => ?_) ht
  subst ex
  obtain rfl : u = Value.ref C := rx
  refine getstat_ok I1 r fun s2 I2 => ?_
  refine PySem.W.callWith_K (h₀ := X.base) I.ok.mod.kin hk (thn (ha.run pos _ s2 σ H1 _ I2 q) fun us s3 ⟨vs, H2, I3, rv, q2⟩ => ⟨I3.kIn, ?_⟩) hst hpl
  exact run_at F hr rfl hb (hx σ) I3 rv q2
theorem pe_stat0 (he : PE X o ta) (r : CStat X.K C p g m) (F : FnOk X.prog X.w X.K X.mg X.base CX k g fd ps sp) (hr : Room k X.A) (hk : PySem.W.keepIn X.K (.ref g) = true) (hb : Binds X.K fd ps []) (hx : ∀ σ, PassesAt CX X σ (ES σ))
    (ht : eval (.Call (.Attribute o m apos) [] [] pos) X.env = (do
      let ov ← eval o X.env
      standAt apos.atName
      let (f, first) ← holding [ov] (getMethod ov m pl)
      callWith pos f first (backTo pos (starEach [] X.env)) (backToKw pos (keywordEach [] X.env))) := by rfl) :
    PE X (.Call (.Attribute o m apos) [] [] pos) (tStat C sp ES ta tNil) := by
  refine ⟨fun pins s σ H Q I h => ?_⟩
  refine PySem.W.methodCall_KW (pl := pl) (thn (he.run pins s σ H _ I h) fun u s1 ⟨x, H1, I1, rx, ex, q⟩ => ?_) ht
  subst ex
  obtain rfl : u = Value.ref C := rx
  refine getstat_ok I1 r fun s2 I2 => ?_
  exact PySem.W.callWith_K0 I2.kIn hk (run_at (us := []) F hr rfl hb (hx σ) I2 .nil q)
end
end XR
namespace XR
open PySem L2
/-- turns over a range, whatever a turn does -/
theorem turn_range {lo : Int} {n : Nat} {H0 : Hp} {Qd : Hp → Prop} {Body : V → Hp → (Hp → Prop) → Prop} (Pv : Nat → Hp → Prop) (h0 : Pv 0 H0) (hs : ∀ i H, i < n → Pv i H → Body (.int (lo + i)) H (Pv (i + 1))) (hd : ∀ H, Pv n H → Qd H) :
    ∃ W : Nat → Nat → Hp → Prop, (∃ m, W 0 m H0) ∧ ∀ i m H, W i m H →
      ((Itr lo n).stop i H ∧ Qd H) ∨ ((Itr lo n).go i H ∧ ∃ Nx : Hp → Prop, (∀ H', Nx H' → ∃ m', m' < m ∧ W (i + 1) m' H') ∧ ∀ x H', (Itr lo n).yld i H x H' → Body x H' Nx) := by
  refine ⟨fun i m H => m = n - i ∧ i ≤ n ∧ Pv i H, ⟨n, by simp, Nat.zero_le _, h0⟩, ?_⟩
  rintro i m H ⟨rfl, hi, p⟩
  by_cases hlt : i < n
  · refine .inr ⟨hlt, Pv (i + 1), fun H' p' => ⟨n - (i + 1), by omega, rfl, hlt, p'⟩, fun x H' y => ?_⟩
    obtain ⟨e, y⟩ := y
    subst e y
    exact hs i _ hlt p
  · have e : i = n := by omega
    subst e
    exact .inl ⟨Nat.le_refl _, hd H p⟩
end XR
set_option Elab.async false
set_option linter.all false
set_option maxRecDepth 100000
set_option maxHeartbeats 4000000
/-! views: what is settled (G) within the heap (H); data by PyData -/
namespace XR
open PySem PySem.Spec PyProof.Rows L2
theorem SqL.same {K : PySem.W.Frag} {G H : Hp} {a : Addr} {xs : List V} (h : SqL K G a xs) (v : Same G H) : SqL K H a xs := Same.seq v h
theorem SqT.same {K : PySem.W.Frag} {G H : Hp} {a : Addr} {xs : List V} (h : SqT K G a xs) (v : Same G H) : SqT K H a xs := by
  rcases h with h | h
  · rcases h with h | ⟨o, h⟩
    · exact .inl (.inl (v _ _ h))
    · exact .inl (.inr ⟨o, v _ _ h⟩)
  · exact .inr h
mutual
theorem Dp.same {K : PySem.W.Frag} {G H : Hp} (v : Same G H) : ∀ {x : V} {d : PyData}, Dp K G x d → Dp K H x d
  | _, _, .non => .non
  | _, _, .bl b => .bl b
  | _, _, .int i => .int i
  | _, _, .str i => .str i
  | _, _, .lst s a => .lst (SqL.same s v) (DpAll.same v a)
  | _, _, .tup s a => .tup (SqT.same s v) (DpAll.same v a)
theorem DpAll.same {K : PySem.W.Frag} {G H : Hp} (v : Same G H) : ∀ {xs : List V} {ds : List PyData}, DpAll K G xs ds → DpAll K H xs ds
  | _, _, .nil => .nil
  | _, _, .cons a b => .cons (Dp.same v a) (DpAll.same v b)
end
theorem Dp.int_inv {K : PySem.W.Frag} {G : Hp} {x : V} {z : Int} (h : Dp K G x (.int z)) : x = .int z := by cases h; rfl
theorem Dp.bl_inv {K : PySem.W.Frag} {G : Hp} {x : V} {z : Bool} (h : Dp K G x (.bool z)) : x = .bl z := by cases h; rfl
theorem Dp.str_inv {K : PySem.W.Frag} {G : Hp} {x : V} {z : Str} (h : Dp K G x (.str z)) : x = .str z := by cases h; rfl
theorem Dp.non_inv {K : PySem.W.Frag} {G : Hp} {x : V} (h : Dp K G x .none) : x = .non := by cases h; rfl
theorem Dp.lst_inv {K : PySem.W.Frag} {G : Hp} {x : V} {ds : List PyData} (h : Dp K G x (.list ds)) : ∃ p xs, x = .ref p ∧ SqL K G p xs ∧ DpAll K G xs ds := by
  cases h with | lst s a => exact ⟨_, _, rfl, s, a⟩
theorem Dp.tup_inv {K : PySem.W.Frag} {G : Hp} {x : V} {ds : List PyData} (h : Dp K G x (.tuple ds)) : ∃ p xs, x = .ref p ∧ SqT K G p xs ∧ DpAll K G xs ds := by
  cases h with | tup s a => exact ⟨_, _, rfl, s, a⟩
theorem DpAll.length {K : PySem.W.Frag} {G : Hp} : ∀ {xs : List V} {ds : List PyData}, DpAll K G xs ds → xs.length = ds.length
  | _, _, .nil => rfl
  | _, _, .cons _ b => congrArg (· + 1) (DpAll.length b)
theorem DpAll.get {K : PySem.W.Frag} {G : Hp} : ∀ {xs : List V} {ds : List PyData} {i : Nat} {x : V}, DpAll K G xs ds → xs[i]? = some x → ∃ d, ds[i]? = some d ∧ Dp K G x d
  | _, _, _, _, .nil, e => by cases e
  | _, _, 0, _, .cons a _, e => by cases e; exact ⟨_, rfl, a⟩
  | _, _, i + 1, _, .cons _ b, e => DpAll.get (i := i) b e
theorem DpAll.get' {K : PySem.W.Frag} {G : Hp} : ∀ {xs : List V} {ds : List PyData} {i : Nat} {d : PyData}, DpAll K G xs ds → ds[i]? = some d → ∃ x, xs[i]? = some x ∧ Dp K G x d
  | _, _, _, _, .nil, e => by cases e
  | _, _, 0, _, .cons a _, e => by cases e; exact ⟨_, rfl, a⟩
  | _, _, i + 1, _, .cons _ b, e => DpAll.get' (i := i) b e
theorem DpAll.append {K : PySem.W.Frag} {G : Hp} {ys : List V} {es : List PyData} (q : DpAll K G ys es) : ∀ {xs : List V} {ds : List PyData}, DpAll K G xs ds → DpAll K G (xs ++ ys) (ds ++ es)
  | _, _, .nil => q
  | _, _, .cons a b => .cons a (DpAll.append q b)
theorem DpAll.snoc {K : PySem.W.Frag} {G : Hp} {xs : List V} {ds : List PyData} {y : V} {e : PyData} (p : DpAll K G xs ds) (q : Dp K G y e) : DpAll K G (xs ++ [y]) (ds ++ [e]) := DpAll.append (.cons q .nil) p
theorem DpAll.ints {K : PySem.W.Frag} {G : Hp} : ∀ {xs : List V} {ns : List Int}, DpAll K G xs (ns.map PyData.int) → xs = ns.map V.int
  | _, [], .nil => rfl
  | _, _ :: _, .cons a b => by rw [Dp.int_inv a, DpAll.ints b]; rfl
theorem DpAll.of_ints {K : PySem.W.Frag} {G : Hp} : ∀ (ns : List Int), DpAll K G (ns.map V.int) (ns.map PyData.int)
  | [] => .nil
  | n :: r => .cons (.int n) (DpAll.of_ints r)
/-- a pair of ints -/
abbrev pD : Int × Int → PyData := fun c => .tuple [.int c.1, .int c.2]
abbrev pDs (cs : List (Int × Int)) : List PyData := cs.map pD
theorem Dp.pair {K : PySem.W.Frag} {G : Hp} {x : V} {c : Int × Int} (h : Dp K G x (pD c)) : ∃ p, x = .ref p ∧ SqT K G p [.int c.1, .int c.2] := by
  obtain ⟨p, xs, rfl, s, a⟩ := Dp.tup_inv h
  cases a with | cons a1 a2 =>
  cases a2 with | cons b1 b2 =>
  cases b2
  rw [Dp.int_inv a1, Dp.int_inv b1] at s
  exact ⟨p, rfl, s⟩
theorem Dp.mk_pair {K : PySem.W.Frag} {G : Hp} {p : Addr} {a b : Int} (h : SqT K G p [.int a, .int b]) : Dp K G (.ref p) (pD (a, b)) := .tup h (.cons (.int a) (.cons (.int b) .nil))
theorem pairs_get {K : PySem.W.Frag} {G : Hp} {xs : List V} {cs : List (Int × Int)} {i : Nat} {x : V} (h : DpAll K G xs (pDs cs)) (e : xs[i]? = some x) : ∃ c p, cs[i]? = some c ∧ x = .ref p ∧ SqT K G p [.int c.1, .int c.2] ∧ Dp K G (.ref p) (pD c) := by
  obtain ⟨d, hd, q⟩ := DpAll.get h e
  rw [List.getElem?_map] at hd
  cases ec : cs[i]? with
  | none => rw [ec] at hd; cases hd
  | some c =>
    rw [ec] at hd
    cases hd
    obtain ⟨p, rfl, s⟩ := Dp.pair q
    exact ⟨c, p, rfl, rfl, s, q⟩
theorem pairs_at {K : PySem.W.Frag} {G : Hp} {xs : List V} {cs : List (Int × Int)} {i : Nat} {c : Int × Int} (h : DpAll K G xs (pDs cs)) (e : cs[i]? = some c) : ∃ p, xs[i]? = some (.ref p) ∧ SqT K G p [.int c.1, .int c.2] ∧ Dp K G (.ref p) (pD c) := by
  obtain ⟨x, hx, q⟩ := DpAll.get' (i := i) (d := pD c) h (by rw [List.getElem?_map, e]; rfl)
  obtain ⟨p, rfl, s⟩ := Dp.pair q
  exact ⟨p, hx, s, q⟩
/-! ### steps -/
/-- from (G, H) to (G', H'): nothing changes, what is new in the view is new -/
structure Step (G H G' H' : Hp) : Prop where
  vw : Same G' H'
  gg : Same G G'
  hh : Same H H'
  fr : ∀ a, H a ≠ none → G a = none → G' a = none
theorem Step.refl {G H : Hp} (v : Same G H) : Step G H G H := ⟨v, Same.refl _, Same.refl _, fun _ _ e => e⟩
theorem Same.some {H H' : Hp} {a : Addr} (x : Same H H') (h : H a ≠ none) : H' a ≠ none := fun e => h (Same.free x e)
theorem Step.trans {G H G1 H1 G2 H2 : Hp} (a : Step G H G1 H1) (b : Step G1 H1 G2 H2) : Step G H G2 H2 :=
  ⟨b.vw, a.gg.trans b.gg, a.hh.trans b.hh, fun p h e => b.fr p (Same.some a.hh h) (a.fr p h e)⟩
theorem Step.same {G H H' : Hp} (v : Same G H) (x : Same H H') : Step G H G H' := ⟨v.trans x, Same.refl _, x, fun _ _ e => e⟩
theorem Step.more {G H G1 H1 H2 : Hp} (a : Step G H G1 H1) (x : Same H1 H2) : Step G H G1 H2 := a.trans (Step.same a.vw x)
theorem Same.upd2 {G H : Hp} {p : Addr} {o : HO} (v : Same G H) : Same (upd G p o) (upd H p o) := fun q u e => by
  by_cases z : q = p
  · subst z
    rw [upd_same] at e
    rw [upd_same]
    exact e
  · rw [upd_ne z] at e
    rw [upd_ne z]
    exact v _ _ e
theorem Same.add {H : Hp} {p : Addr} {o : HO} (h : H p = none) : Same H (upd H p o) := fun q u e => by rw [upd_ne (ne_of_none e h)]; exact e
theorem fr_add {G H : Hp} {p : Addr} {o : HO} (h : H p = none) : ∀ a, H a ≠ none → G a = none → (upd G p o) a = none := fun a ha e => by
  rw [upd_ne (fun z => ha (by rw [z]; exact h))]
  exact e
/-- a new settled object -/
theorem Step.new {G H : Hp} {p : Addr} {o : HO} (v : Same G H) (h : H p = none) : Step G H (upd G p o) (upd H p o) :=
  ⟨Same.upd2 v, Same.add (Same.free v h), Same.add h, fr_add h⟩
/-- .. made by a callee -/
theorem Step.lift {G H H' : Hp} {p : Addr} {o : HO} (v : Same G H) (h : H p = none) (x : Same H H') (e : H' p = some o) : Step G H (upd G p o) H' :=
  ⟨fun q u z => by
    by_cases n : q = p
    · subst n
      rw [upd_same] at z
      exact e.trans z
    · rw [upd_ne n] at z
      exact x _ _ (v _ _ z), Same.add (Same.free v h), x, fr_add h⟩
/-- a new object that may still change -/
theorem Step.mut {G H : Hp} {p : Addr} {o : HO} (v : Same G H) (h : H p = none) : Step G H G (upd H p o) := Step.same v (Same.add h)
/-- .. changed -/
theorem Step.upd {G H G' H' : Hp} {l : Addr} {o : HO} (s : Step G H G' H') (h : H l = none) (g : G' l = none) : Step G H G' (upd H' l o) :=
  ⟨fun q u e => by rw [upd_ne (ne_of_none e g)]; exact s.vw _ _ e, s.gg, fun q u e => by rw [upd_ne (ne_of_none e h)]; exact s.hh _ _ e, s.fr⟩
/-- .. settled -/
theorem Step.freeze {G H G' H' : Hp} {l : Addr} {o : HO} (s : Step G H G' H') (h : H l = none) (g : G' l = none) (e : H' l = some o) : Step G H (L2.upd G' l o) H' :=
  ⟨fun q u z => by
    by_cases n : q = l
    · subst n
      rw [L2.upd_same] at z
      exact e.trans z
    · rw [upd_ne n] at z
      exact s.vw _ _ z, s.gg.trans (Same.add g), s.hh, fun a ha ea => by rw [upd_ne (fun z => ha (by rw [z]; exact h))]; exact s.fr a ha ea⟩
/-- a list that grows -/
structure Grow (K : PySem.W.Frag) (G H : Hp) (l : Addr) (out : List PyData) (G' H' : Hp) (acc : List V) : Prop where
  st : XR.Step G H G' H'
  nl : H l = none
  gl : G' l = none
  el : H' l = some (.lst acc)
  ds : DpAll K G' acc out
/-- .. somehow -/
def LcI (K : PySem.W.Frag) (G H : Hp) (l : Addr) (out : List PyData) (H' : Hp) : Prop := ∃ G' acc, Grow K G H l out G' H' acc
section
variable {K : PySem.W.Frag} {G H G' H' G1 H1 : Hp} {l : Addr} {out : List PyData} {acc : List V}
theorem Grow.start (v : Same G H) (h : H l = none) : Grow K G H l [] G (upd H l (.lst [])) [] := ⟨Step.mut v h, h, Same.free v h, upd_same, .nil⟩
theorem LcI.start (v : Same G H) (h : H l = none) : LcI K G H l [] (upd H l (.lst [])) := ⟨_, _, Grow.start v h⟩
theorem Grow.len (g : Grow K G H l out G' H' acc) : acc.length = out.length := XR.DpAll.length g.ds
theorem Grow.step (g : Grow K G H l out G' H' acc) (s : Step G' H' G1 H1) : Grow K G H l out G1 H1 acc :=
  ⟨g.st.trans s, g.nl, s.fr _ (by rw [g.el]; exact fun z => by cases z) g.gl, s.hh _ _ g.el, DpAll.same s.gg g.ds⟩
theorem Grow.add (g : Grow K G H l out G' H' acc) {v : V} {d : PyData} (q : Dp K G' v d) : Grow K G H l (out ++ [d]) G' (upd H' l (.lst (acc ++ [v]))) (acc ++ [v]) :=
  ⟨g.st.upd g.nl g.gl, g.nl, g.gl, upd_same, DpAll.snoc g.ds q⟩
/-- a comprehension's turn that adds -/
theorem Grow.push (g : Grow K G H l out G' H' acc) {v : V} {d : PyData} (q : Dp K G' v d) (hl : out.length < sizeLine) :
    ∃ acc, H' l = some (.lst acc) ∧ acc.length < sizeLine ∧ LcI K G H l (out ++ [d]) (upd H' l (.lst (acc ++ [v]))) :=
  ⟨acc, g.el, by rw [g.len]; exact hl, _, _, g.add q⟩
/-- the list is settled -/
theorem Grow.freeze (g : Grow K G H l out G' H' acc) : Step G H (upd G' l (.lst acc)) H' ∧ Dp K (upd G' l (.lst acc)) (.ref l) (.list out) :=
  ⟨g.st.freeze g.nl g.gl g.el, .lst (SqL.of upd_same) (DpAll.same (Same.add g.gl) g.ds)⟩
end
/-! ### steps with one object b that changes (a law's box) -/
structure StB (b : Addr) (G H G' H' : Hp) : Prop where
  vw : Same G' H'
  gg : Same G G'
  gb : G' b = none
  hh : ExB b H H'
section
variable {K : PySem.W.Frag} {b p l : Addr} {G H G1 H1 G2 H2 : Hp} {o : HO} {out : List PyData} {acc : List V}
theorem StB.refl (v : Same G H) (g : G b = none) : StB b G H G H := ⟨v, Same.refl _, g, ExB.refl⟩
theorem StB.trans (s : StB b G H G1 H1) (t : StB b G1 H1 G2 H2) : StB b G H G2 H2 := ⟨t.vw, s.gg.trans t.gg, t.gb, s.hh.trans t.hh⟩
theorem StB.draw (s : StB b G H G1 H1) (x : ExB b H1 H2) : StB b G H G1 H2 :=
  ⟨fun a u e => x a u (fun z => by rw [z, s.gb] at e; cases e) (s.vw a u e), s.gg, s.gb, s.hh.trans x⟩
theorem StB.new (s : StB b G H G1 H1) (h : H1 p = none) (n : p ≠ b) : StB b G H (upd G1 p o) (upd H1 p o) :=
  ⟨Same.upd2 s.vw, s.gg.trans (Same.add (Same.free s.vw h)), by rw [upd_ne n.symm]; exact s.gb, s.hh.new h⟩
theorem StB.mut (s : StB b G H G1 H1) (h : H1 p = none) : StB b G H G1 (upd H1 p o) := ⟨s.vw.trans (Same.add h), s.gg, s.gb, s.hh.new h⟩
theorem StB.upd (s : StB b G H G1 H1) (h : H p = none) (g : G1 p = none) : StB b G H G1 (L2.upd H1 p o) :=
  ⟨fun q u e => by rw [upd_ne (ne_of_none e g)]; exact s.vw _ _ e, s.gg, s.gb, fun q u n e => by rw [upd_ne (ne_of_none e h)]; exact s.hh _ _ n e⟩
theorem StB.step (s : StB b G H G1 H1) (hb : H1 b ≠ none) (t : Step G1 H1 G2 H2) : StB b G H G2 H2 := ⟨t.vw, s.gg.trans t.gg, t.fr _ hb s.gb, s.hh.same t.hh⟩
theorem StB.same (s : StB b G H G1 H1) (t : Same H1 H2) : StB b G H G1 H2 := ⟨s.vw.trans t, s.gg, s.gb, s.hh.same t⟩
theorem StB.freeze (s : StB b G H G1 H1) (n : p ≠ b) (g : G1 p = none) (e : H1 p = some o) : StB b G H (L2.upd G1 p o) H1 :=
  ⟨fun q u z => by
    by_cases n : q = p
    · subst n
      rw [upd_same] at z
      exact e.trans z
    · rw [upd_ne n] at z
      exact s.vw _ _ z, s.gg.trans (Same.add g), by rw [upd_ne n.symm]; exact s.gb, s.hh⟩
/-- a list that grows between the draws -/
structure GrowB (K : PySem.W.Frag) (b : Addr) (G H : Hp) (l : Addr) (out : List PyData) (G' H' : Hp) (acc : List V) : Prop where
  st : StB b G H G' H'
  nl : H l = none
  lb : l ≠ b
  gl : G' l = none
  el : H' l = some (.lst acc)
  ds : DpAll K G' acc out
theorem GrowB.start (s : StB b G H G H) (h : H p = none) (n : p ≠ b) : GrowB K b G H p [] G (L2.upd H p (.lst [])) [] := ⟨s.mut h, h, n, Same.free s.vw h, upd_same, .nil⟩
theorem GrowB.draw (g : GrowB K b G H l out G1 H1 acc) (x : ExB b H1 H2) : GrowB K b G H l out G1 H2 acc := ⟨g.st.draw x, g.nl, g.lb, g.gl, x _ _ g.lb g.el, g.ds⟩
theorem GrowB.new (g : GrowB K b G H l out G1 H1 acc) (h : H1 p = none) (n : p ≠ b) : GrowB K b G H l out (L2.upd G1 p o) (L2.upd H1 p o) acc :=
  have np : l ≠ p := ne_of_none g.el h
  ⟨g.st.new h n, g.nl, g.lb, by rw [upd_ne np]; exact g.gl, by rw [upd_ne np]; exact g.el, DpAll.same (Same.add (Same.free g.st.vw h)) g.ds⟩
theorem GrowB.mut (g : GrowB K b G H l out G1 H1 acc) (h : H1 p = none) : GrowB K b G H l out G1 (L2.upd H1 p o) acc :=
  have np : l ≠ p := ne_of_none g.el h
  ⟨g.st.mut h, g.nl, g.lb, g.gl, by rw [upd_ne np]; exact g.el, g.ds⟩
theorem GrowB.step (g : GrowB K b G H l out G1 H1 acc) (hb : H1 b ≠ none) (t : XR.Step G1 H1 G2 H2) : GrowB K b G H l out G2 H2 acc :=
  ⟨g.st.step hb t, g.nl, g.lb, t.fr _ (by rw [g.el]; exact fun z => by cases z) g.gl, t.hh _ _ g.el, DpAll.same t.gg g.ds⟩
theorem GrowB.add (g : GrowB K b G H l out G1 H1 acc) {v : V} {d : PyData} (q : Dp K G1 v d) : GrowB K b G H l (out ++ [d]) G1 (L2.upd H1 l (.lst (acc ++ [v]))) (acc ++ [v]) :=
  ⟨g.st.upd g.nl g.gl, g.nl, g.lb, g.gl, upd_same, DpAll.snoc g.ds q⟩
theorem GrowB.len (g : GrowB K b G H l out G1 H1 acc) : acc.length = out.length := XR.DpAll.length g.ds
theorem GrowB.freeze (g : GrowB K b G H l out G1 H1 acc) : StB b G H (L2.upd G1 l (.lst acc)) H1 ∧ Dp K (L2.upd G1 l (.lst acc)) (.ref l) (.list out) :=
  ⟨g.st.freeze g.lb g.gl g.el, .lst (SqL.of upd_same) (DpAll.same (Same.add g.gl) g.ds)⟩
end
/-! ### options -/
def oV : Option Int → V
  | none => .non
  | some z => .int z
def oD : Option Int → PyData
  | none => .none
  | some z => .int z
theorem DpAll.opts {K : PySem.W.Frag} {G : Hp} : ∀ (ns : List (Option Int)), DpAll K G (ns.map oV) (ns.map oD)
  | [] => .nil
  | none :: r => .cons .non (DpAll.opts r)
  | some n :: r => .cons (.int n) (DpAll.opts r)
theorem DpAll.opts_inv {K : PySem.W.Frag} {G : Hp} : ∀ {xs : List V} {ns : List (Option Int)}, DpAll K G xs (ns.map oD) → xs = ns.map oV
  | _, [], .nil => rfl
  | _, none :: _, .cons a b => by rw [Dp.non_inv a, DpAll.opts_inv b]; rfl
  | _, some _ :: _, .cons a b => by rw [Dp.int_inv a, DpAll.opts_inv b]; rfl
section
variable {K : PySem.W.Frag} {G H G' H' : Hp} {l : Addr} {acc : List V} {out : List PyData} {α : Type} {cs : List α} {i : Nat} {c : α} {v : V} {d : PyData}
theorem LcI.vw (h : LcI K G H l out H') : Same G H' := let ⟨_, _, g⟩ := h; g.st.gg.trans g.st.vw
theorem LcI.hh (h : LcI K G H l out H') : Same H H' := let ⟨_, _, g⟩ := h; g.st.hh
theorem Grow.vv (g : Grow K G H l out G' H' acc) : Same G H' := g.st.gg.trans g.st.vw
theorem LcI.start_map {f : α → PyData} (v : Same G H) (h : H l = none) : LcI K G H l ((cs.take 0).map f) (upd H l (.lst [])) := LcI.start v h
theorem LcI.start_fm {f : α → Option PyData} (v : Same G H) (h : H l = none) : LcI K G H l ((cs.take 0).filterMap f) (upd H l (.lst [])) := LcI.start v h
theorem Grow.push_map {f : α → PyData} (g : Grow K G H l ((cs.take i).map f) G' H' acc) (hc : cs[i]? = some c) (q : Dp K G' v (f c)) (hl : cs.length ≤ 1000000) :
    ∃ acc, H' l = some (.lst acc) ∧ acc.length < sizeLine ∧ LcI K G H l ((cs.take (i + 1)).map f) (upd H' l (.lst (acc ++ [v]))) := by
  rw [take_one hc, List.map_append]
  refine g.push q ?_
  rw [List.length_map, List.length_take, sizeLine_eq]
  omega
theorem Grow.push_some {f : α → Option PyData} (g : Grow K G H l ((cs.take i).filterMap f) G' H' acc) (hc : cs[i]? = some c) (e : f c = some d) (q : Dp K G' v d) (hl : cs.length ≤ 1000000) :
    ∃ acc, H' l = some (.lst acc) ∧ acc.length < sizeLine ∧ LcI K G H l ((cs.take (i + 1)).filterMap f) (upd H' l (.lst (acc ++ [v]))) := by
  have e2 : (cs.take (i + 1)).filterMap f = (cs.take i).filterMap f ++ [d] := by rw [take_one hc, List.filterMap_append]; simp [e]
  rw [e2]
  refine g.push q ?_
  have := List.length_filterMap_le f (cs.take i)
  rw [List.length_take] at this
  rw [sizeLine_eq]
  omega
theorem Grow.push_none {f : α → Option PyData} (g : Grow K G H l ((cs.take i).filterMap f) G' H' acc) (hc : cs[i]? = some c) (e : f c = none) : LcI K G H l ((cs.take (i + 1)).filterMap f) H' := by
  have e2 : (cs.take (i + 1)).filterMap f = (cs.take i).filterMap f := by rw [take_one hc, List.filterMap_append]; simp [e]
  rw [e2]
  exact ⟨_, _, g⟩
theorem LcI.all_map {f : α → PyData} {n : Nat} (h : LcI K G H l ((cs.take n).map f) H') (e : cs.length ≤ n) : ∃ G' acc, Grow K G H l (cs.map f) G' H' acc := by
  rw [List.take_of_length_le e] at h
  exact h
theorem LcI.all_fm {f : α → Option PyData} {n : Nat} (h : LcI K G H l ((cs.take n).filterMap f) H') (e : cs.length ≤ n) : ∃ G' acc, Grow K G H l (cs.filterMap f) G' H' acc := by
  rw [List.take_of_length_le e] at h
  exact h
end
theorem at0 {α : Type} {x : α} {xs : List α} : atI (x :: xs) 0 = some x := atI_nat (j := 0) rfl
theorem at1 {α : Type} {x y : α} {xs : List α} : atI (x :: y :: xs) 1 = some y := atI_nat (j := 1) rfl
theorem ix_seqb {X : Cx} {s : Shared} {H : Hp} {sc : Scope} {ce : Env} {fp : List Addr} : IxR (X.blk s H sc ce fp) (rIx X.K) := ix_seq
theorem ints_at {P : Int → Prop} (ns : List Int) {i : Int} (h0 : 0 ≤ i) (h : i < (ns.length : Int)) (p : ∀ n ∈ ns, P n) : ∃ z, atI (ns.map V.int) i = some (.int z) ∧ P z := by
  have hl : i.toNat < ns.length := by omega
  refine ⟨ns[i.toNat], at_of (j := i.toNat) (by omega) ?_, p _ (List.getElem_mem hl)⟩
  rw [List.getElem?_map, List.getElem?_eq_getElem hl] <;> rfl
theorem GrowB.base {K : PySem.W.Frag} {b l : Addr} {G0 H0 G H G1 H1 : Hp} {out : List PyData} {acc : List V} (s : StB b G0 H0 G H) (g : GrowB K b G H l out G1 H1 acc) : GrowB K b G0 H0 l out G1 H1 acc :=
  ⟨s.trans g.st, none_backB s.hh g.lb g.nl, g.lb, g.gl, g.el, g.ds⟩
theorem tyT {K : PySem.W.Frag} {H : Hp} {a : Addr} {xs : List V} (h : SqT K H a xs) : TyX K H (.ref a) (.type "tuple") := by
  rcases h with (h | ⟨o, h⟩) | ⟨o, its, n, e, c, _⟩
  · exact .base (.tup h)
  · exact .fTuple h
  · exact .kTuple e c
theorem tyL {K : PySem.W.Frag} {H : Hp} {a : Addr} {xs : List V} (h : SqL K H a xs) : TyX K H (.ref a) (.type "list") := by
  rcases h with (h | ⟨o, h⟩) | ⟨o, its, n, e, c, _⟩
  · exact .base (.lst h)
  · exact .base (.frz h)
  · exact .kList e c
theorem pairs_can : ∀ cs : List (Int × Int), PyData.canLayAll0 (pDs cs) = true
  | [] => rfl
  | _ :: r => by
    show (PyData.canLay0 _ && PyData.canLayAll0 (pDs r)) = true
    rw [pairs_can r]
    rfl
theorem pairs_eqv : ∀ cs : List (Int × Int), PyData.eqvAll (pDs cs) (pDs cs) = true
  | [] => rfl
  | c :: r => by
    show (PyData.eqv (pD c) (pD c) && PyData.eqvAll (pDs r) (pDs r)) = true
    rw [pairs_eqv r]
    simp [PyData.eqv, PyData.eqvAll]
theorem pairs_depth : ∀ cs : List (Int × Int), PyData.depthAll (pDs cs) ≤ 8
  | [] => by decide
  | c :: r => by
    have := pairs_depth r
    show max (PyData.depth (pD c)) (PyData.depthAll (pDs r)) ≤ 8
    have h : PyData.depth (pD c) ≤ 8 := by simp [PyData.depth, PyData.depthAll]
    omega
theorem shaped_pDs (cs : List (Int × Int)) : SeqAt.shaped (.list (pDs cs)) = true := by
  show (PyData.canLayAll0 (pDs cs) && decide (PyData.depthAll (pDs cs) + 1 ≤ 64)) = true
  rw [pairs_can]
  have := pairs_depth cs
  simp
  omega
theorem eqv_pDs (cs : List (Int × Int)) : PyData.eqv (.list (pDs cs)) (.list (pDs cs)) = true := pairs_eqv cs
theorem eqv_nil (cs : List (Int × Int)) : PyData.eqv (.list (pDs cs)) (.list []) = decide (cs = []) := by
  cases cs with
  | nil => rfl
  | cons c r => rfl
theorem same_nil {H : Hp} : Same (fun _ => none) H := fun _ _ e => by cases e
end XR
set_option Elab.async false
set_option linter.all false
set_option maxRecDepth 100000
set_option maxHeartbeats 4000000
/-! walks over a list or a tuple, also in enumerate and zip -/
namespace XR
open PySem PySem.Spec PyProof.Rows L2
/-- a list (k) or a tuple -/
def SqK (K : PySem.W.Frag) (k : Bool) (H : Hp) (a : Addr) (xs : List V) : Prop := if k then SqL K H a xs else SqT K H a xs
def IsSq (k : Bool) (h : Heap) (a : Addr) (items : Array Value) : Prop := if k then h.IsList a items else h.IsTuple a items
def IsSqIter (k : Bool) (h : Heap) (it a : Addr) (i : Nat) : Prop := if k then h.IsListIter it a i else h.IsTupleIter it a i
def sqObj (k : Bool) (a : Addr) : Obj := if k then { cls := .type "list_iterator", data := .fields #[.ref a, .int 0 0] } else { cls := .type "tuple_iterator", data := .fields #[.ref a, .int 0 0] }
theorem SqK.same {K : PySem.W.Frag} {k : Bool} {G H : Hp} {a : Addr} {xs : List V} (h : SqK K k G a xs) (v : Same G H) : SqK K k H a xs := by
  cases k
  · exact SqT.same h v
  · exact SqL.same h v
theorem draws_sq {prog : Program} {w : World} {A : Around} (hh : A.handled = none) (k : Bool) (it a : Addr) (hne : a ≠ it) (items : Array Value) :
    Draws prog w A it [it, a] items.size (fun i v => items[i]? = some v) (fun i h => IsSqIter k h it a i ∧ IsSq k h a items) := by
  cases k
  · exact Draws.tuple hh it a hne items
  · exact Draws.list hh it a hne items
theorem begins_sq (k : Bool) (a : Addr) (items : Array Value) : Begins (.ref a) (sqObj k a) fun h => IsSq k h a items := by
  cases k
  · exact begins_tuple a items
  · exact begins_list a items
theorem iter_at {k : Bool} {h : Heap} {it a : Addr} {i : Nat} (st : IsSqIter k h it a i) : ∃ (o : Obj) (fs : Array Value), h.get? it = some o ∧ o.data = .fields fs := by
  cases k <;> exact (let ⟨o, e, _, d⟩ := st; ⟨o, _, e, d⟩)
theorem iter_keep {k : Bool} {h h' : Heap} {it a : Addr} {i : Nat} (st : IsSqIter k h it a i) (c : ∀ o, h.get? it = some o → h'.get? it = some o) : IsSqIter k h' it a i := by
  cases k <;> exact (let ⟨o, e, r⟩ := st; ⟨o, c o e, r⟩)
theorem iter_new {k : Bool} {h : Heap} {it a : Addr} (e : h.get? it = some (sqObj k a)) : IsSqIter k h it a 0 := by
  cases k <;> exact ⟨_, e, rfl, rfl⟩
theorem sq_at {k : Bool} {h : Heap} {a : Addr} {items : Array Value} (st : IsSq k h a items) : ∃ (o : Obj) (n : Nat), h.get? a = some o ∧ o.data = .seq items n := by
  cases k <;> exact (let ⟨o, e, _, n, d⟩ := st; ⟨o, n, e, d⟩)
theorem sq_ne {k k' : Bool} {h : Heap} {it a b : Addr} {i : Nat} {items : Array Value} (q : IsSq k h a items) (st : IsSqIter k' h it b i) : a ≠ it := fun z => by
  obtain ⟨o, n, e, d⟩ := sq_at q
  obtain ⟨o', fs, e', d'⟩ := iter_at st
  rw [z, e'] at e
  cases e
  rw [d] at d'
  cases d'
theorem inv_sq {X : Cx} {pins : List (Addr × Obj)} {σ : L2.St} {H : Hp} {s : Shared} {k : Bool} {a : Addr} {xs : List V} (I : Inv X pins σ H s) (h : SqK X.K k H a xs) : ∃ its : List Value, Vals xs its ∧ IsSq k s.heap a its.toArray ∧ a < s.heap.objs.size := by
  cases k
  · obtain ⟨its, r, p, _⟩ := I.tuple h
    have p' : s.heap.IsTuple a its.toArray := p
    exact ⟨its, r, p', (let ⟨o, e, _⟩ := p'; Heap.lt_size e)⟩
  · obtain ⟨its, r, p, _⟩ := I.list h
    exact ⟨its, r, p.isList, p.lt⟩
theorem inv_inj {X : Cx} {pins : List (Addr × Obj)} {σ : L2.St} {H : Hp} {s : Shared} {k : Bool} {a : Addr} {xs ys : List V} (I : Inv X pins σ H s) (h : SqK X.K k H a xs) (h' : SqK X.K k H a ys) : xs = ys := by
  cases k
  · exact I.tuple_inj h h'
  · exact I.list_inj h h'
/-! ### enumerate -/
set_option maxHeartbeats 1000000 in
theorem meets_enum1 {v : Value} {o : Obj} {H : Heap → Prop} (B : Begins v o H) :
    Meets (Builtin.«enumerate.__new__» ⟨[.type "enumerate", v], []⟩) (fun _ R s => H s.heap ∧
      R (.ok (.ret (.ref (s.heap.push o).objs.size))) { s with heap := (s.heap.push o).push { cls := .type "enumerate", data := .fields #[.none, .bool false, .ref s.heap.objs.size, rawInt 0, .none, .none] } }) :=
  .of_wp fun prog w A R s h => by
    obtain ⟨hp, g, d, tk, os⟩ := s; obtain ⟨h1, h⟩ := h
    have hsub := sub_enumerate
    have q1 : ∀ {A' : Around} {E : Value → Shared → Prop} {Q : Value → Shared → Prop}, Q (.ref hp.objs.size) ⟨hp.push o, g, d, tk, os⟩ → wpAny (model prog w) A' (pyIter v) Q E ⟨hp, g, d, tk, os⟩ :=
      fun q => B.iter prog w _ _ ⟨hp, g, d, tk, os⟩ _ h1 q
    wp_walk using q1
    refine wpAny_stack_any fun st => wpAny_pure ?_
    split
    · rename_i c _ _ _ _ _
      cases (c == Value.type "enumerate")
      · wp_walk using q1
        exact ⟨_, rfl, h⟩
      · wp_walk using q1
        exact ⟨_, rfl, h⟩
    · wp_walk using q1
      exact ⟨_, rfl, h⟩
theorem call_enum1 {prog : Program} {w : World} {A : Around} {E : Value → Shared → Prop} {s : Shared} {v : Value} {o : Obj} {H : Heap → Prop} {Q : Value → Shared → Prop} (B : Begins v o H) (h1 : H s.heap)
    (h : ∀ h', IsEnum h' (s.heap.objs.size + 1) s.heap.objs.size 0 .none → h'.get? s.heap.objs.size = some o → h'.objs.size = s.heap.objs.size + 2 →
      (∀ b o, s.heap.get? b = some o → h'.get? b = some o) → Q (.ref (s.heap.objs.size + 1)) { s with heap := h' }) :
    wpAny (model prog w) A (call (.type "enumerate") [v]) Q E s := by
  refine callType_new F.called_enumerate (by decide) (F.typeCall_enumerate_1 _) (F.newCall_enumerate_1 _) (fun obj => F.args_object_init_2 obj _) F.entry_enumerate_new
    (meets_enum1 B) ⟨h1, ?_⟩
  have hz : (s.heap.push o).objs.size = s.heap.objs.size + 1 := Heap.size_push ..
  show _ ∧ _
  rw [hz]
  have he : IsEnum ((s.heap.push o).push { cls := .type "enumerate", data := .fields #[.none, .bool false, .ref s.heap.objs.size, rawInt 0, .none, .none] }) (s.heap.objs.size + 1) s.heap.objs.size 0 .none := by
    have := Heap.get?_push_size (s.heap.push o) (o := { cls := .type "enumerate", data := .fields #[.none, .bool false, .ref s.heap.objs.size, rawInt 0, .none, .none] }) rfl
    rw [hz] at this; exact this
  refine ⟨⟨_, he, rfl⟩, h _ he (Heap.get?_push_of_some _ (Heap.get?_push_size _ B.free)) (by rw [Heap.size_push, hz]) fun b o x => Heap.get?_push_of_some _ (Heap.get?_push_of_some _ x)⟩
theorem wpAny_pyNext_enum_endDK {prog : Program} {w : World} {A : Around} {E : Value → Shared → Prop} {s : Shared} {e it l : Addr} {i : Nat} {c : Int} {items : Array Value} {old : Value} {Q : Option Value → Shared → Prop} (hh : A.handled = none)
    (he : IsEnum s.heap e it c old) (hit : s.heap.IsTupleIter it l i) (hl : s.heap.IsTuple l items) (hx : items[i]? = none)
    (hQ : ∀ h', Heap.ExtBut it s.heap h' → Q none { s with heap := h' }) : wpAny (model prog w) A (pyNext (.ref e)) Q E s := by
  have hT : s.TypeIs (.ref e) "enumerate" := ⟨_, he, rfl⟩
  unfold pyNext
  refine wpAny_bind (wpAny_attempt (wpAny_callSpecial?_slot (name := Str.ofString "__next__") hT F.slot_enumerate_next
    (wpAny_call_entry F.slot_enumerate_next hT F.entry_enumerate_next ?_ (F.args_enumerate_next_1 _))))
  show wpAny _ _ (field (.ref e) 2 >>= _) _ _ _
  refine wpAny_bind (wpAny_field he rfl (x := .ref it) rfl ?_)
  refine wpAny_bind (wpAny_nextOf_tuple_end hh hit hl hx fun h' x he' hx' => ?_)
  obtain ⟨o, ho, hc⟩ := hx'
  refine wpAny_bind (wpAny_isInstance (T := "StopIteration") (b := true) ⟨o, ho, hc⟩ isSubtype_stop ?_)
  exact wpAny_pure (hQ _ he')
/-- a new pair at a turn -/
def ItK2 (go : Nat → Hp → Prop) (at_ : Nat → Hp → V → V → Prop) (stop : Nat → Hp → Prop) : It :=
  ⟨go, fun i H v H' => ∃ T x y, v = .ref T ∧ H T = none ∧ H' = upd H T (.tup [x, y]) ∧ at_ i H x y, stop⟩
def IteK (K : PySem.W.Frag) (k : Bool) (a : Addr) : It :=
  ItK2 (fun i H => ∃ (xs : List V) (x : V), SqK K k H a xs ∧ xs[i]? = some x) (fun i H x y => x = .int (i : Nat) ∧ ∀ xs, SqK K k H a xs → xs[i]? = some y) (fun i H => ∃ xs : List V, SqK K k H a xs ∧ xs.length ≤ i)
theorem enum_ne {h : Heap} {e it : Addr} {i : Int} {old : Value} {k : Bool} {a : Addr} {items : Array Value} (he : IsEnum h e it i old) (q : IsSq k h a items) : e ≠ a := fun z => by
  obtain ⟨o, n, e', d⟩ := sq_at q
  have he' : h.get? e = some _ := he
  rw [← z, he'] at e'
  cases e'
  cases d
theorem turn_enumK {P : Program} {w : World} {K : PySem.W.Frag} {elts : List Expr} {kk : Nat} {tpos : Pos} (k : Bool) (a e it : Addr) :
    Turn P w K (.Tuple elts kk tpos) (IteK K k a) [e, it] e (fun i h => (∃ old, IsEnum h e it ((i : Nat) : Int) old) ∧ IsSqIter k h it a i ∧ e ≠ it) where
  mem := by simp
  obj := fun i h st b hb => by
    obtain ⟨⟨old, he⟩, hi, _⟩ := st
    obtain ⟨o, fs, ho, hd⟩ := iter_at hi
    have e' : b = e ∨ b = it := by simpa using hb
    rcases e' with z | z
    · rw [z]; exact ⟨_, he, fun v q => nomatch q⟩
    · rw [z]; exact ⟨o, ho, fun v q => by rw [hd] at q; cases q⟩
  keep := fun i h h' st c => let ⟨⟨old, he⟩, hi, hne⟩ := st; ⟨⟨old, c e (by simp) _ he⟩, iter_keep hi fun o q => c it (by simp) o q, hne⟩
  item := by
    intro X hP hw hK hc i pins s σ H E I hf st hg
    subst hP hw hK
    obtain ⟨⟨old, he⟩, hit, hne⟩ := st
    obtain ⟨xs, x, hq, hx⟩ := hg
    obtain ⟨its, rv, p, hlt⟩ := inv_sq I hq
    obtain ⟨u, hu, ru⟩ := rv.get hx
    have hel : e < s.heap.objs.size := Heap.lt_size (show s.heap.get? e = some _ from he)
    have hil : it < s.heap.objs.size := by obtain ⟨_, _, q, _⟩ := iter_at hit; exact Heap.lt_size q
    have Gs := GoesN.enumFrom (elts := elts) (x1 := kk) (pos := tpos) 0 (draws_sq (prog := X.prog) (w := X.w) (A := X.A.in1) (show X.A.in1.handled = none from I.ok.hd hc) k it a (sq_ne p hit) its.toArray) e hne (by
      intro hm
      rcases List.mem_cons.mp hm with z | z
      · exact hne z
      · exact enum_ne he p (List.mem_singleton.mp z)) (by simp)
    have hil2 : i < its.toArray.size := by
      have := (List.getElem?_eq_some_iff.mp hu).1
      simpa using this
    refine Gs.goes i s _ E hil2 ⟨⟨old, by rw [Int.zero_add]; exact he⟩, hit, p⟩ fun v h' tk Y st' hk htk => ?_
    obtain ⟨T, t, y, rfl, hTn, hy, hT⟩ := Y
    obtain ⟨⟨old', he'⟩, hit', _⟩ := st'
    have ey : y = u := by
      have h3 : its.toArray[i]? = some u := by simpa using hu
      rw [hy] at h3
      exact Option.some.inj h3
    subst ey
    have new : ObjOk X.prog X.w (upd H T (.tup [.int (i : Nat), x])) h' T (.tup [.int (i : Nat), x]) :=
      ⟨by show 2 ≤ sizeLine; decide, [.int (0 + (i : Int)) t, y], .cons ⟨t, by rw [Int.zero_add]⟩ (.cons ru .nil), hT⟩
    have I1 : Inv X pins σ (upd H T (.tup [.int (i : Nat), x])) { s with heap := h', toks := tk } := I.turnedNew (ch := [e, it]) hk hf hTn new
    refine ⟨.ref T, _, I1, rfl, ⟨T, _, x, rfl, I.hok.fresh hTn, rfl, rfl, fun ys hy => by rw [inv_inj I hy hq]; exact hx⟩, ⟨⟨old', ?_⟩, hit', hne⟩, fun b hb => ?_⟩
    · rw [Int.zero_add] at he'
      exact he'
    · have hb' : b < s.heap.objs.size := by
        have e' : b = e ∨ b = it := by simpa using hb
        rcases e' with z | z
        · rw [z]; exact hel
        · rw [z]; exact hil
      rw [upd_ne (Nat.ne_of_lt (Nat.lt_of_lt_of_le hb' hTn))]
      exact (hf b hb).1
  done := by
    intro X hP hw hK hc i pins s σ H E I hf st hg
    subst hP hw hK
    obtain ⟨⟨old, he⟩, hit, hne⟩ := st
    obtain ⟨xs, hq, hx⟩ := hg
    obtain ⟨its, rv, p, hlt⟩ := inv_sq I hq
    have hl := rv.length
    cases k
    · refine wpAny_pyNext_enum_endDK (I.ok.hd hc) he hit p (by simp; omega) fun h' eb => ⟨rfl, ?_⟩
      obtain ⟨f0, f1, f2, f3, f4, f5⟩ := hf it (by simp)
      exact I.turned (t' := s.toks) (fun b o hb q => eb b o hb q) f0 f1 f3 f4 f5
    · refine wpAny_pyNext_enum_end (I.ok.hd hc) he hit p (by simp; omega) fun h' eb => ⟨rfl, ?_⟩
      obtain ⟨f0, f1, f2, f3, f4, f5⟩ := hf it (by simp)
      exact I.turned (t' := s.toks) (fun b o hb q => eb b o hb q) f0 f1 f3 f4 f5
  self := fun A i s Q E st h => let ⟨⟨_, he⟩, _⟩ := st; wpAny_pyIter_enum he h
/-! ### what is walked -/
def SqA (K : PySem.W.Frag) (H : Hp) (a : Addr) (xs : List V) : Prop := SqL K H a xs ∨ SqT K H a xs
theorem SqA.same {K : PySem.W.Frag} {G H : Hp} {a : Addr} {xs : List V} (h : SqA K G a xs) (v : Same G H) : SqA K H a xs := h.imp (fun z => SqL.same z v) (fun z => SqT.same z v)
theorem SqA.k {K : PySem.W.Frag} {H : Hp} {a : Addr} {xs : List V} (h : SqA K H a xs) : ∃ k, SqK K k H a xs := by
  rcases h with h | h
  · exact ⟨true, h⟩
  · exact ⟨false, h⟩
def iSq (K : PySem.W.Frag) (tl : TE) : TI := fun σ H R => tl σ H fun x H1 => ∃ a xs G, x = .ref a ∧ SqA K G a xs ∧ Same G H1 ∧ ∀ J, Walk J xs.length (Same G) (YAt xs) → R J H1
theorem pi_sq {X : Cx} {tg : Expr} {l : Expr} {tl : TE} (hl : PE X l tl) : PI X tg l (iSq X.K tl) := by
  refine ⟨fun pins s σ H R I h => ?_⟩
  refine thn (hl.run pins s σ H _ I h) fun v s1 ⟨x, H1, I1, r1, q1⟩ => ?_
  obtain ⟨a, xs, G, e, hq, hv, q⟩ := q1
  subst e
  cases r1
  rcases hq with hq | hq
  · obtain ⟨its, rv, p, hz⟩ := I1.list (SqL.same hq hv)
    refine wpAny_pyIter_list p.isList ?_
    refine ⟨s1.heap.objs.size, [s1.heap.objs.size], _, _, H1, rfl, I1.kept (t' := s1.toks) fun b o e => Heap.get?_push_of_some _ e, turn_list a _, ⟨_, Heap.get?_push_size _ rfl, rfl, rfl⟩, fun b hb => ?_, q _ (walk_list.mono (fun H x => SqL.same hq x) fun _ _ _ _ _ _ y => y)⟩
    have e : b = s1.heap.objs.size := by simpa using hb
    subst e
    exact I1.fpOk (Nat.le_refl _) (I1.hok.fresh (Nat.le_refl _))
  · obtain ⟨its, rv, p, hz⟩ := I1.tuple (SqT.same hq hv)
    refine wpAny_pyIter_tuple (show s1.heap.IsTuple a its.toArray from p) ?_
    refine ⟨s1.heap.objs.size, [s1.heap.objs.size], _, _, H1, rfl, I1.kept (t' := s1.toks) fun b o e => Heap.get?_push_of_some _ e, turn_tuple a _, ⟨_, Heap.get?_push_size _ rfl, rfl, rfl⟩, fun b hb => ?_, q _ (walk_tup.mono (fun H x => SqT.same hq x) fun _ _ _ _ _ _ y => y)⟩
    have e : b = s1.heap.objs.size := by simpa using hb
    subst e
    exact I1.fpOk (Nat.le_refl _) (I1.hok.fresh (Nat.le_refl _))
theorem walk_enumK {K : PySem.W.Frag} {k : Bool} {a : Addr} {xs : List V} : Walk (IteK K k a) xs.length (fun H => SqK K k H a xs) (YPair (fun i => some (.int (i : Nat))) (fun i => xs[i]?)) := by
  refine ⟨fun i _ hi q => ⟨xs, xs[i], q, by simp [hi]⟩, fun _ q => ⟨xs, q, Nat.le_refl _⟩, fun i H v H' _ q y => ?_⟩
  obtain ⟨T, x, y, h1, h2, h3, h4, h5⟩ := y
  exact ⟨T, x, y, h1, h2, h3, by rw [h4], h5 xs q⟩
def iEnumQ (K : PySem.W.Frag) (ta : TA) : TI := fun σ H R => ta σ H fun vs H1 => ∃ a xs G, vs = [.ref a] ∧ SqA K G a xs ∧ Same G H1 ∧ ∀ J, Walk J xs.length (Same G) (YPair (fun i => some (.int (i : Nat))) (fun i => xs[i]?)) → R J H1
theorem pi_enumQ {X : Cx} {e : Expr} {ta : TA} {p pos tpos : Pos} {elts : List Expr} {kk : Nat} (hg : Gl X "enumerate") (hm : X.mg "enumerate" = none) (ha : PA X [e] ta) (hs : starEach [e] X.env = [(false, eval e X.env)] := by rfl) :
    PI X (.Tuple elts kk tpos) (.Call (.Name "enumerate" p) [e] [] pos) (iEnumQ X.K ta) := by
  refine ⟨fun pins s σ H R I h => ?_⟩
  refine Call_ (ld_blt I hg hm boot_enumerate (PyProof.Rows.callWith_type1 (thn (ha.run pos pins s σ H _ I h) fun us s1 ⟨vs, H1, I1, r1, q1⟩ => ?_) hs rfl))
  obtain ⟨a, xs, G, ex, hq, hv, q⟩ := q1
  subst ex
  cases r1 with
  | cons r rr =>
    cases rr
    cases r
    obtain ⟨k, hk⟩ := hq.k
    obtain ⟨its, rv, p', hz⟩ := inv_sq I1 (SqK.same hk hv)
    refine call_enum1 (begins_sq k a its.toArray) p' fun h' he hit hsz hk' => wpAny_pyIter_enum he ?_
    have I2 : Inv X pins σ H1 { s1 with heap := h' } := I1.kept (t' := s1.toks) hk'
    refine ⟨s1.heap.objs.size + 1, [s1.heap.objs.size + 1, s1.heap.objs.size], _, _, H1, rfl, I2, turn_enumK k a (s1.heap.objs.size + 1) s1.heap.objs.size, ⟨⟨.none, he⟩, iter_new hit, Nat.succ_ne_self _⟩, fun b hb => ?_, q _ (walk_enumK.mono (fun H x => SqK.same hk x) fun _ _ _ _ _ _ y => y)⟩
    have e' : b = s1.heap.objs.size + 1 ∨ b = s1.heap.objs.size := by simpa using hb
    have hle : s1.heap.objs.size ≤ b := by
      rcases e' with z | z
      · rw [z]; exact Nat.le_add_right _ _
      · rw [z]; exact Nat.le_refl _
    exact I1.fpOk hle (I1.hok.fresh hle)
/-! ### zip of two -/
def ItzK (K : PySem.W.Frag) (k l : Bool) (a b : Addr) : It :=
  ItK2 (fun i H => ∃ (xs ys : List V) (x y : V), SqK K k H a xs ∧ SqK K l H b ys ∧ xs[i]? = some x ∧ ys[i]? = some y) (fun i H x y => (∀ xs, SqK K k H a xs → xs[i]? = some x) ∧ ∀ ys, SqK K l H b ys → ys[i]? = some y)
    (fun i H => ∃ xs ys : List V, SqK K k H a xs ∧ SqK K l H b ys ∧ i = min xs.length ys.length)
structure ZA (z TI TO i1 i2 : Addr) : Prop where
  a1 : TI ≠ z
  a2 : TO ≠ z
  a3 : TI ≠ TO
  a4 : TI ≠ i1
  a5 : TI ≠ i2
  a6 : z ≠ i1
  a7 : z ≠ i2
  a8 : TO ≠ i1
  a9 : TO ≠ i2
  aa : i1 ≠ i2
theorem zip_ne {h : Heap} {z TI TO x : Addr} {o : Option Obj} {k : Bool} {a : Addr} {items : Array Value} {w : Value} (he : IsZip h z TI TO w) (q : IsSq k h a items) : z ≠ a := fun y => by
  obtain ⟨o, n, e', d⟩ := sq_at q
  have he' : h.get? z = some _ := he
  rw [← y, he'] at e'
  cases e'
  cases d
theorem zsep {h : Heap} {z TI TO i1 i2 a b : Addr} {i : Nat} {k l : Bool} {it1 it2 : Array Value} {w x y : Value} (Z : ZA z TI TO i1 i2) (hz : IsZip h z TI TO w) (hTO : IsTupOf2 h TO x y) (h1 : IsSqIter k h i1 a i) (h2 : IsSqIter l h i2 b i) (q1 : IsSq k h a it1) (q2 : IsSq l h b it2) (na : TO ≠ a) (nb : TO ≠ b) :
    ZipSep2 z TI TO i1 i2 [i1, a] [i2, b] := by
  have z1 := zip_ne (x := a) (o := none) hz q1
  have z2 := zip_ne (x := a) (o := none) hz q2
  have n1 := sq_ne q1 h1
  have n2 := sq_ne q1 h2
  have n3 := sq_ne q2 h1
  have n4 := sq_ne q2 h2
  refine { TIz := Z.a1, TOz := Z.a2, TITO := Z.a3, TIi1 := Z.a4, mem1 := by simp, zf1 := ?_, Tf1 := ?_, TIi2 := Z.a5, mem2 := by simp, zf2 := ?_, Tf2 := ?_, sep1_2 := ?_, sep2_1 := ?_ }
  · simp [Z.a6, z1]
  · simp [Z.a8, na]
  · simp [Z.a7, z2]
  · simp [Z.a9, nb]
  · simp [Z.aa, n3.symm]
  · simp [Z.aa.symm, n2.symm]
theorem turn_zipK {P : Program} {w : World} {K : PySem.W.Frag} {elts : List Expr} {kk : Nat} {tpos : Pos} (k l : Bool) (a b z TI TO i1 i2 : Addr) (Z : ZA z TI TO i1 i2) (na : TO ≠ a) (nb : TO ≠ b) :
    Turn P w K (.Tuple elts kk tpos) (ItzK K k l a b) [z, TI, TO, i1, i2] z (fun i h => IsZip h z TI TO .none ∧ IsTupOf2 h TI (.ref i1) (.ref i2) ∧ (∃ x y, IsTupOf2 h TO x y) ∧ IsSqIter k h i1 a i ∧ IsSqIter l h i2 b i) where
  mem := by simp
  obj := fun i h st c hc => by
    obtain ⟨hz, hTI, ⟨x, y, hTO⟩, h1, h2⟩ := st
    obtain ⟨o1, f1, e1, d1⟩ := iter_at h1
    obtain ⟨o2, f2, e2, d2⟩ := iter_at h2
    have e' : c = z ∨ c = TI ∨ c = TO ∨ c = i1 ∨ c = i2 := by simpa using hc
    rcases e' with q | q | q | q | q
    · rw [q]; exact ⟨_, hz, fun v q => nomatch q⟩
    · rw [q]; exact ⟨_, hTI, fun v q => nomatch q⟩
    · rw [q]; exact ⟨_, hTO, fun v q => nomatch q⟩
    · rw [q]; exact ⟨o1, e1, fun v q => by rw [d1] at q; cases q⟩
    · rw [q]; exact ⟨o2, e2, fun v q => by rw [d2] at q; cases q⟩
  keep := fun i h h' st c => by
    obtain ⟨hz, hTI, ⟨x, y, hTO⟩, h1, h2⟩ := st
    exact ⟨c z (by simp) _ hz, c TI (by simp) _ hTI, ⟨x, y, c TO (by simp) _ hTO⟩, iter_keep h1 fun o q => c i1 (by simp) o q, iter_keep h2 fun o q => c i2 (by simp) o q⟩
  item := by
    intro X hP hw hK hc i pins s σ H E I hf st hg
    subst hP hw hK
    obtain ⟨hz, hTI, ⟨x0, y0, hTO⟩, h1, h2⟩ := st
    obtain ⟨xs, ys, x, y, hqx, hqy, hx, hy⟩ := hg
    obtain ⟨its, rv, p, _⟩ := inv_sq I hqx
    obtain ⟨its2, rv2, p2, _⟩ := inv_sq I hqy
    obtain ⟨u, hu, ru⟩ := rv.get hx
    obtain ⟨u2, hu2, ru2⟩ := rv2.get hy
    have hh : X.A.in1.handled = none := I.ok.hd hc
    have Gs := GoesN.zip2 (A := X.A) (elts := elts) (x1 := kk) (pos := tpos) (zsep Z hz hTO h1 h2 p p2 na nb) (draws_sq (prog := X.prog) (w := X.w) hh k i1 a (sq_ne p h1) its.toArray) (draws_sq (prog := X.prog) (w := X.w) hh l i2 b (sq_ne p2 h2) its2.toArray)
    have hi1 : i < its.toArray.size := by have := (List.getElem?_eq_some_iff.mp hu).1; simpa using this
    have hi2 : i < its2.toArray.size := by have := (List.getElem?_eq_some_iff.mp hu2).1; simpa using this
    refine Gs.goes i s _ E (by omega) ⟨hz, hTI, ⟨x0, y0, hTO⟩, ⟨h1, p⟩, ⟨h2, p2⟩⟩ fun v h' tk Y st' hk htk => ?_
    obtain ⟨T, v1, v2, rfl, hTn, e1, e2, hT⟩ := Y
    obtain ⟨hz', hTI', hTO', ⟨h1', _⟩, ⟨h2', _⟩⟩ := st'
    have q1 : v1 = u := by
      have h3 : its.toArray[i]? = some u := by simpa using hu
      rw [e1] at h3
      exact Option.some.inj h3
    have q2 : v2 = u2 := by
      have h3 : its2.toArray[i]? = some u2 := by simpa using hu2
      rw [e2] at h3
      exact Option.some.inj h3
    subst q1 q2
    have new : ObjOk X.prog X.w (upd H T (.tup [x, y])) h' T (.tup [x, y]) := ⟨by show 2 ≤ sizeLine; decide, [v1, v2], .cons ru (.cons ru2 .nil), hT⟩
    have I1 : Inv X pins σ (upd H T (.tup [x, y])) { s with heap := h', toks := tk } := I.turnedNew (ch := [z, TI, TO, i1, i2]) (fun c o hb q => hk c o (fun m => hb (by
      have e' : c = z ∨ c = TO ∨ c = i1 ∨ c = i2 := by simpa using m
      rcases e' with q | q | q | q <;> simp [q])) q) hf hTn new
    refine ⟨.ref T, _, I1, rfl, ⟨T, x, y, rfl, I.hok.fresh hTn, rfl, fun ys hy => by rw [inv_inj I hy hqx]; exact hx, fun zs hz => by rw [inv_inj I hz hqy]; exact hy⟩, ⟨hz', hTI', hTO', h1', h2'⟩, fun c hcm => ?_⟩
    have hlt : c < s.heap.objs.size := by
      have e' : c = z ∨ c = TI ∨ c = TO ∨ c = i1 ∨ c = i2 := by simpa using hcm
      rcases e' with q | q | q | q | q
      · rw [q]; exact Heap.lt_size (show s.heap.get? z = some _ from hz)
      · rw [q]; exact Heap.lt_size hTI
      · rw [q]; exact Heap.lt_size hTO
      · rw [q]; obtain ⟨_, _, e1, _⟩ := iter_at h1; exact Heap.lt_size e1
      · rw [q]; obtain ⟨_, _, e2, _⟩ := iter_at h2; exact Heap.lt_size e2
    rw [upd_ne (Nat.ne_of_lt (Nat.lt_of_lt_of_le hlt hTn))]
    exact (hf c hcm).1
  done := by
    intro X hP hw hK hc i pins s σ H E I hf st hg
    subst hP hw hK
    obtain ⟨hz, hTI, ⟨x0, y0, hTO⟩, h1, h2⟩ := st
    obtain ⟨xs, ys, hqx, hqy, hend⟩ := hg
    obtain ⟨its, rv, p, _⟩ := inv_sq I hqx
    obtain ⟨its2, rv2, p2, _⟩ := inv_sq I hqy
    have l1 := rv.length
    have l2 := rv2.length
    have hh : X.A.in1.handled = none := I.ok.hd hc
    have Gs := GoesN.zip2 (A := X.A) (elts := elts) (x1 := kk) (pos := tpos) (zsep Z hz hTO h1 h2 p p2 na nb) (draws_sq (prog := X.prog) (w := X.w) hh k i1 a (sq_ne p h1) its.toArray) (draws_sq (prog := X.prog) (w := X.w) hh l i2 b (sq_ne p2 h2) its2.toArray)
    have ei : min its.toArray.size its2.toArray.size = i := by simp; omega
    rw [ei] at Gs
    refine wpAny_mono (Gs.stops s (fun s1 => Inv X pins σ H s1) E ⟨hz, hTI, ⟨x0, y0, hTO⟩, ⟨h1, p⟩, ⟨h2, p2⟩⟩ fun h' tk hk htk => I.turnedL (ch := [z, TI, TO, i1, i2]) (fun c o hb q => hk c o (fun m => hb (by
      have e' : c = z ∨ c = TO ∨ c = i1 ∨ c = i2 := by simpa using m
      rcases e' with q | q | q | q <;> simp [q])) q) hf) (fun _ _ z => z) fun _ _ z => z
  self := fun A i s Q E st h => wpAny_pyIter_zip st.1 h
theorem walk_zipK {K : PySem.W.Frag} {k l : Bool} {a b : Addr} {xs ys : List V} : Walk (ItzK K k l a b) (min xs.length ys.length) (fun H => SqK K k H a xs ∧ SqK K l H b ys) (YPair (fun i => xs[i]?) (fun i => ys[i]?)) := by
  refine ⟨fun i _ hi q => ?_, fun _ q => ⟨xs, ys, q.1, q.2, rfl⟩, fun i H v H' _ q y => ?_⟩
  · have h1 : i < xs.length := by omega
    have h2 : i < ys.length := by omega
    exact ⟨xs, ys, xs[i], ys[i], q.1, q.2, by simp [h1], by simp [h2]⟩
  · obtain ⟨T, x, y, h1, h2, h3, h4, h5⟩ := y
    exact ⟨T, x, y, h1, h2, h3, h4 xs q.1, h5 ys q.2⟩
def iZipQ (K : PySem.W.Frag) (ta : TA) : TI := fun σ H R => ta σ H fun vs H1 => ∃ a b xs ys G, vs = [.ref a, .ref b] ∧ SqA K G a xs ∧ SqA K G b ys ∧ Same G H1 ∧ ∀ J, Walk J (min xs.length ys.length) (Same G) (YPair (fun i => xs[i]?) (fun i => ys[i]?)) → R J H1
theorem pi_zipQ {X : Cx} {e e2 : Expr} {ta : TA} {p pos tpos : Pos} {elts : List Expr} {kk : Nat} (hg : Gl X "zip") (hm : X.mg "zip" = none) (ha : PA X [e, e2] ta)
    (hs : starEach [e, e2] X.env = (false, eval e X.env) :: starEach [e2] X.env := by rfl) (hpl : (backTo pos (starEach [e2] X.env)).any (·.1) = false := by rfl) :
    PI X (.Tuple elts kk tpos) (.Call (.Name "zip" p) [e, e2] [] pos) (iZipQ X.K ta) := by
  refine ⟨fun pins s σ H R I h => ?_⟩
  refine Call_ (ld_blt I hg hm PyProof.Rows.boot_zip (PyProof.Rows.callWith_type1 (thn (ha.run pos pins s σ H _ I h) fun us s1 ⟨vs, H1, I1, r1, q1⟩ => ?_) hs hpl))
  obtain ⟨a, b, xs, ys, G, ex, hqx, hqy, hv, q⟩ := q1
  subst ex
  cases r1 with
  | cons r rr =>
    cases rr with
    | cons r' rr =>
      cases rr
      cases r
      cases r'
      obtain ⟨k, hk⟩ := hqx.k
      obtain ⟨l, hl⟩ := hqy.k
      obtain ⟨its, rv, p1, la⟩ := inv_sq I1 (SqK.same hk hv)
      obtain ⟨its2, rv2, p2, lb⟩ := inv_sq I1 (SqK.same hl hv)
      refine zip_begins2 (begins_sq k a its.toArray) (begins_sq l b its2.toArray) p1 p2 fun h' hz hTI hTO h1 h2 hsz hk' => wpAny_pyIter_zip hz ?_
      have I2 : Inv X pins σ H1 { s1 with heap := h' } := I1.kept (t' := s1.toks) hk'
      have la' : (a : Nat) < s1.heap.objs.size := la
      have lb' : (b : Nat) < s1.heap.objs.size := lb
      refine ⟨s1.heap.objs.size + 4, [s1.heap.objs.size + 4, s1.heap.objs.size + 2, s1.heap.objs.size + 3, s1.heap.objs.size, s1.heap.objs.size + 1], _, _, H1, rfl, I2,
        turn_zipK k l a b (s1.heap.objs.size + 4) (s1.heap.objs.size + 2) (s1.heap.objs.size + 3) s1.heap.objs.size (s1.heap.objs.size + 1)
          ⟨show (s1.heap.objs.size + 2 : Nat) ≠ s1.heap.objs.size + 4 by omega, show (s1.heap.objs.size + 3 : Nat) ≠ s1.heap.objs.size + 4 by omega, show (s1.heap.objs.size + 2 : Nat) ≠ s1.heap.objs.size + 3 by omega, show (s1.heap.objs.size + 2 : Nat) ≠ s1.heap.objs.size by omega,
            show (s1.heap.objs.size + 2 : Nat) ≠ s1.heap.objs.size + 1 by omega, show (s1.heap.objs.size + 4 : Nat) ≠ s1.heap.objs.size by omega, show (s1.heap.objs.size + 4 : Nat) ≠ s1.heap.objs.size + 1 by omega, show (s1.heap.objs.size + 3 : Nat) ≠ s1.heap.objs.size by omega,
            show (s1.heap.objs.size + 3 : Nat) ≠ s1.heap.objs.size + 1 by omega, show (s1.heap.objs.size : Nat) ≠ s1.heap.objs.size + 1 by omega⟩ (Nat.ne_of_gt (Nat.lt_of_lt_of_le la (Nat.le_add_right _ 3))) (Nat.ne_of_gt (Nat.lt_of_lt_of_le lb (Nat.le_add_right _ 3))),
        ⟨hz, hTI, ⟨_, _, hTO⟩, iter_new h1, iter_new h2⟩, fun c hcm => ?_, q _ (walk_zipK.mono (fun H x => ⟨SqK.same hk x, SqK.same hl x⟩) fun _ _ _ _ _ _ y => y)⟩
      have e' : c = s1.heap.objs.size + 4 ∨ c = s1.heap.objs.size + 2 ∨ c = s1.heap.objs.size + 3 ∨ c = s1.heap.objs.size ∨ c = s1.heap.objs.size + 1 := by simpa using hcm
      have hle : s1.heap.objs.size ≤ c := by
        rcases e' with z | z | z | z | z
        · rw [z]; exact Nat.le_add_right _ _
        · rw [z]; exact Nat.le_add_right _ _
        · rw [z]; exact Nat.le_add_right _ _
        · rw [z]; exact Nat.le_refl _
        · rw [z]; exact Nat.le_add_right _ _
      exact I1.fpOk hle (I1.hok.fresh hle)
end XR
set_option Elab.async false
set_option linter.all false
set_option maxRecDepth 100000
set_option maxHeartbeats 4000000
namespace Toy
open PySem L2 XR
def top (i : Nat) : Stmt := PySem.Challenge.pw_fittingpasts_k05_whole_lengths_open.main.body.getD i (.Pass ⟨0, 0, 0, 0⟩)
abbrev s_all_cycles : Stmt := top 2
abbrev s__demand : Stmt := top 4
abbrev s_remainder_row : Stmt := top 5
abbrev s_fitting_cycles : Stmt := top 6
abbrev s_common_divisor : Stmt := top 7
abbrev s__shut_by : Stmt := top 8
abbrev s__law_box : Stmt := top 10
abbrev s__law_draw : Stmt := top 11
abbrev s__law_is_number : Stmt := top 12
abbrev s__law_gcd : Stmt := top 13
abbrev s__law_sightings : Stmt := top 14
abbrev s__law_bounds : Stmt := top 15
abbrev s__law_divisor : Stmt := top 16
abbrev s__law_demand : Stmt := top 17
abbrev s__law_meets : Stmt := top 18
abbrev s__law_is_row : Stmt := top 19
abbrev s__law_is_list : Stmt := top 20
abbrev s__law_open_row : Stmt := top 21
abbrev s__law_open_divisor : Stmt := top 22
abbrev s__law_asked : Stmt := top 23
abbrev s_law : Stmt := top 24
/-- where the defs and classes of the text stand -/
structure Ad where
  a_all_cycles : Addr
  d_all_cycles : FuncData
  a__demand : Addr
  d__demand : FuncData
  a_remainder_row : Addr
  d_remainder_row : FuncData
  a_fitting_cycles : Addr
  d_fitting_cycles : FuncData
  a_common_divisor : Addr
  d_common_divisor : FuncData
  a__shut_by : Addr
  d__shut_by : FuncData
  a__law_box : Addr
  d__law_box : FuncData
  a__law_draw : Addr
  d__law_draw : FuncData
  a__law_is_number : Addr
  d__law_is_number : FuncData
  a__law_gcd : Addr
  d__law_gcd : FuncData
  a__law_sightings : Addr
  d__law_sightings : FuncData
  a__law_bounds : Addr
  d__law_bounds : FuncData
  a__law_divisor : Addr
  d__law_divisor : FuncData
  a__law_demand : Addr
  d__law_demand : FuncData
  a__law_meets : Addr
  d__law_meets : FuncData
  a__law_is_row : Addr
  d__law_is_row : FuncData
  a__law_is_list : Addr
  d__law_is_list : FuncData
  a__law_open_row : Addr
  d__law_open_row : FuncData
  a__law_open_divisor : Addr
  d__law_open_divisor : FuncData
  a__law_asked : Addr
  d__law_asked : FuncData
  a_law : Addr
  d_law : FuncData
structure Txt (K : PySem.W.Frag) (mg : Str → Option Value) (D : Ad) : Prop where
  F_all_cycles : Fun K "all_cycles" "all_cycles" s_all_cycles D.a_all_cycles D.d_all_cycles
  b_all_cycles : Binds K D.d_all_cycles ["least", "most"] []
  g_all_cycles : mg "all_cycles" = some (.ref D.a_all_cycles)
  F__demand : Fun K "_demand" "_demand" s__demand D.a__demand D.d__demand
  b__demand : Binds K D.d__demand ["sighting", "length"] []
  g__demand : mg "_demand" = some (.ref D.a__demand)
  F_remainder_row : Fun K "remainder_row" "remainder_row" s_remainder_row D.a_remainder_row D.d_remainder_row
  b_remainder_row : Binds K D.d_remainder_row ["sightings", "length"] []
  g_remainder_row : mg "remainder_row" = some (.ref D.a_remainder_row)
  F_fitting_cycles : Fun K "fitting_cycles" "fitting_cycles" s_fitting_cycles D.a_fitting_cycles D.d_fitting_cycles
  b_fitting_cycles : Binds K D.d_fitting_cycles ["sightings", "least", "most"] []
  g_fitting_cycles : mg "fitting_cycles" = some (.ref D.a_fitting_cycles)
  F_common_divisor : Fun K "common_divisor" "common_divisor" s_common_divisor D.a_common_divisor D.d_common_divisor
  b_common_divisor : Binds K D.d_common_divisor ["sightings"] []
  g_common_divisor : mg "common_divisor" = some (.ref D.a_common_divisor)
  F__shut_by : Fun K "_shut_by" "_shut_by" s__shut_by D.a__shut_by D.d__shut_by
  b__shut_by : Binds K D.d__shut_by ["row"] []
  g__shut_by : mg "_shut_by" = some (.ref D.a__shut_by)
  F__law_box : Fun K "_law_box" "_law_box" s__law_box D.a__law_box D.d__law_box
  b__law_box : Binds K D.d__law_box ["_law_script"] []
  g__law_box : mg "_law_box" = some (.ref D.a__law_box)
  F__law_draw : Fun K "_law_draw" "_law_draw" s__law_draw D.a__law_draw D.d__law_draw
  b__law_draw : Binds K D.d__law_draw ["_law_box_here", "_law_size"] []
  g__law_draw : mg "_law_draw" = some (.ref D.a__law_draw)
  F__law_is_number : Fun K "_law_is_number" "_law_is_number" s__law_is_number D.a__law_is_number D.d__law_is_number
  b__law_is_number : Binds K D.d__law_is_number ["_law_value"] []
  g__law_is_number : mg "_law_is_number" = some (.ref D.a__law_is_number)
  F__law_gcd : Fun K "_law_gcd" "_law_gcd" s__law_gcd D.a__law_gcd D.d__law_gcd
  b__law_gcd : Binds K D.d__law_gcd ["_law_first", "_law_second"] []
  g__law_gcd : mg "_law_gcd" = some (.ref D.a__law_gcd)
  F__law_sightings : Fun K "_law_sightings" "_law_sightings" s__law_sightings D.a__law_sightings D.d__law_sightings
  b__law_sightings : Binds K D.d__law_sightings ["_law_box_here", "_law_size"] []
  g__law_sightings : mg "_law_sightings" = some (.ref D.a__law_sightings)
  F__law_bounds : Fun K "_law_bounds" "_law_bounds" s__law_bounds D.a__law_bounds D.d__law_bounds
  b__law_bounds : Binds K D.d__law_bounds ["_law_box_here", "_law_size"] []
  g__law_bounds : mg "_law_bounds" = some (.ref D.a__law_bounds)
  F__law_divisor : Fun K "_law_divisor" "_law_divisor" s__law_divisor D.a__law_divisor D.d__law_divisor
  b__law_divisor : Binds K D.d__law_divisor ["_law_sightings_here"] []
  g__law_divisor : mg "_law_divisor" = some (.ref D.a__law_divisor)
  F__law_demand : Fun K "_law_demand" "_law_demand" s__law_demand D.a__law_demand D.d__law_demand
  b__law_demand : Binds K D.d__law_demand ["_law_sighting", "_law_size"] []
  g__law_demand : mg "_law_demand" = some (.ref D.a__law_demand)
  F__law_meets : Fun K "_law_meets" "_law_meets" s__law_meets D.a__law_meets D.d__law_meets
  b__law_meets : Binds K D.d__law_meets ["_law_sightings_here", "_law_size", "_law_shift"] []
  g__law_meets : mg "_law_meets" = some (.ref D.a__law_meets)
  F__law_is_row : Fun K "_law_is_row" "_law_is_row" s__law_is_row D.a__law_is_row D.d__law_is_row
  b__law_is_row : Binds K D.d__law_is_row ["_law_told", "_law_due"] []
  g__law_is_row : mg "_law_is_row" = some (.ref D.a__law_is_row)
  F__law_is_list : Fun K "_law_is_list" "_law_is_list" s__law_is_list D.a__law_is_list D.d__law_is_list
  b__law_is_list : Binds K D.d__law_is_list ["_law_told", "_law_due"] []
  g__law_is_list : mg "_law_is_list" = some (.ref D.a__law_is_list)
  F__law_open_row : Fun K "_law_open_row" "_law_open_row" s__law_open_row D.a__law_open_row D.d__law_open_row
  b__law_open_row : Binds K D.d__law_open_row ["_law_row"] []
  g__law_open_row : mg "_law_open_row" = some (.ref D.a__law_open_row)
  F__law_open_divisor : Fun K "_law_open_divisor" "_law_open_divisor" s__law_open_divisor D.a__law_open_divisor D.d__law_open_divisor
  b__law_open_divisor : Binds K D.d__law_open_divisor ["_law_sightings_here", "_law_size", "_law_divisor_here"] []
  g__law_open_divisor : mg "_law_open_divisor" = some (.ref D.a__law_open_divisor)
  F__law_asked : Fun K "_law_asked" "_law_asked" s__law_asked D.a__law_asked D.d__law_asked
  b__law_asked : Binds K D.d__law_asked ["_law_given", "_law_sightings_here", "_law_bounds_here"] []
  g__law_asked : mg "_law_asked" = some (.ref D.a__law_asked)
  F_law : Fun K "law" "law" s_law D.a_law D.d_law
  b_law : Binds K D.d_law ["_law_script"] []
  g_law : mg "law" = some (.ref D.a_law)
  g_gcd : mg "gcd" = some (.builtin "math.gcd")
  n_abs : mg "abs" = none
  n_bool : mg "bool" = none
  n_enumerate : mg "enumerate" = none
  n_int : mg "int" = none
  n_isinstance : mg "isinstance" = none
  n_len : mg "len" = none
  n_list : mg "list" = none
  n_max : mg "max" = none
  n_min : mg "min" = none
  n_range : mg "range" = none
  n_tuple : mg "tuple" = none
section
variable {K : PySem.W.Frag} {mg : Str → Option Value} {D : Ad}
end

local macro_rules | `(tactic| walk_at "ne") => `(tactic| first | assumption | (apply Ne.symm; assumption) | exact XR.ne_fresh (by assumption) (by walk_at "hp") | exact Ne.symm (XR.ne_fresh (by assumption) (by walk_at "hp")))
local macro_rules | `(tactic| walk_at "hp") => `(tactic| first | assumption | exact upd_same | (refine Eq.trans (upd_ne ?_) ?_; (walk_at "ne"); walk_at "hp"))
local macro_rules | `(tactic| walk_at "sq") => `(tactic| first | walk_at "hp" | exact SqL.of (by walk_at "hp") | exact SqT.of (by walk_at "hp") | exact XR.SqT.same (by assumption) (by assumption) | exact XR.SqL.same (by assumption) (by assumption))
local macro_rules | `(tactic| walk_at "br") => `(tactic| (refine ite2 ?_ ?_ <;> intro hbr <;> (try simp only [decide_eq_true_eq, decide_eq_false_iff_not, V.int.injEq, V.bl.injEq, V.str.injEq, Bool.not_eq_true, Bool.not_eq_eq_eq_not, Bool.not_true, Bool.not_false, ne_eq, Int.reduceToNat, Int.reducePow, Int.reduceMul, Int.reduceAdd, Int.reduceSub, reduceCtorEq, not_true_eq_false, not_false_eq_true, Int.not_lt, Int.not_le] at hbr)))
local macro_rules | `(tactic| walk_at "side") => `(tactic| first
  | exact ⟨by decide, by decide, by decide⟩
  | exact .inl ⟨by decide, by decide⟩
  | exact .inr ⟨by decide, by decide⟩
  | exact XR.divw (by first | decide | omega) (by first | decide | omega)
  | (show (_ : Int) = _; first | rfl | omega)
  | (show (0 : Int) < _; first | decide | assumption | omega)
  | exact .inl ⟨by omega, by omega⟩
  | exact .inr ⟨by omega, by omega⟩
  | exact .inl (XR.cmul_mod (by decide))
  | exact XR.log_lt (by omega) (by omega)
  | decide
  | (rw [sizeLine_eq]; simp; done)
  | (show 2 ≤ sizeLine; decide) | (show 3 ≤ sizeLine; decide) | (show 4 ≤ sizeLine; decide) | (show 5 ≤ sizeLine; decide) | (show 6 ≤ sizeLine; decide) | (show 7 ≤ sizeLine; decide) | (show 1 ≤ sizeLine; decide) | (show 8 ≤ sizeLine; decide) | (show 0 ≤ sizeLine; decide))
local macro_rules | `(tactic| walk_at "rd1") => `(tactic| first
  | refine ⟨_, rfl, ?_⟩
  | refine ⟨_, _, rfl, rfl, ?_⟩
  | refine ⟨_, _, _, _, rfl, rfl, (by walk_at "sq"), rfl, ?_⟩
  | refine ⟨_, _, _, _, rfl, rfl, (by walk_at "hp"), (by walk_at "hp"), (by walk_at "side"), ?_⟩
  | refine ⟨_, _, rfl, .inl (by walk_at "sq"), ?_⟩
  | refine ⟨_, _, rfl, .inl ⟨(by walk_at "sq"), ?_⟩⟩
  | refine ⟨_, _, rfl, .inr (by walk_at "sq"), ?_⟩
  | refine ⟨_, _, _, _, _, rfl, (by walk_at "hp"), (by walk_at "cls"), (by walk_at "noat"), rfl, ?_⟩
  | refine ⟨_, _, _, _, rfl, rfl, (by walk_at "sq"), (by first | assumption | exact XR.at0 | exact XR.at1), ?_⟩
  | refine ⟨rfl, ?_⟩
  | refine And.intro (by walk_at "side") ?_
  | refine .inl ⟨_, rfl, ?_⟩
  | refine And.intro ⟨_, (by walk_at "sq")⟩ ?_
  | refine ⟨_, _, rfl, (by walk_at "sq"), ?_⟩
  | refine ⟨_, _, rfl, ?_⟩
  | refine .inr ⟨_, rfl, (by walk_at "side"), ?_⟩
  | refine iteT ?_
  | refine iteF ?_)
local macro_rules | `(tactic| walk_at "rd") => `(tactic| repeat (walk_at "rd1"))
local macro_rules | `(tactic| walk_at "nn") => `(tactic| (simp only [Int.reduceToNat, Int.reducePow, Int.reduceMul, Int.reduceAdd, Int.reduceSub, Int.reduceNeg]))
local macro_rules | `(tactic| walk_at "dr") => `(tactic| repeat (first | refine And.intro (by first | assumption | walk_at "pre") ?_ | refine And.intro (by first | decide | omega) ?_))
section
variable {P : Program} {w : World} {K : PySem.W.Frag} {mg : Str → Option Value} {base : Heap} {D : Ad}
def BoxAt (H : Hp) (b : Addr) : Prop := ∃ (c : Addr) (cs : List Int) (i big turn seed : Int), H b = some (.lst [.ref c, .int i, .int big, .int turn, .int seed]) ∧ H c = some (.lst (cs.map V.int)) ∧ c ≠ b ∧ 0 ≤ i ∧ 0 ≤ big
theorem BoxAt.new {H : Hp} {b t : Addr} {o : HO} (h : BoxAt H b) (n : H t = none) : BoxAt (L2.upd H t o) b := by
  obtain ⟨c, cs, i, g, t, s, e1, e2, r⟩ := h
  exact ⟨c, cs, i, g, t, s, by rw [upd_ne (ne_of_none e1 n)]; exact e1, by rw [upd_ne (ne_of_none e2 n)]; exact e2, r⟩
theorem BoxAt.ne {H : Hp} {b t : Addr} (h : BoxAt H b) (n : H t = none) : t ≠ b := by
  obtain ⟨c, cs, i, g, t, s, e1, _⟩ := h
  exact (ne_of_none e1 n).symm
theorem BoxAt.some {H : Hp} {b : Addr} (h : BoxAt H b) : H b ≠ none := by
  obtain ⟨c, cs, i, g, t, s, e1, _⟩ := h
  rw [e1]
  exact fun z => by cases z
theorem BoxAt.same {H H' : Hp} {b : Addr} (h : BoxAt H b) (x : Same H H') : BoxAt H' b := by
  obtain ⟨c, cs, i, g, t, s, e1, e2, r⟩ := h
  exact ⟨c, cs, i, g, t, s, x _ _ e1, x _ _ e2, r⟩
/-- the box does not hold the list at l -/
def BoxFree (H : Hp) (b l : Addr) : Prop := l ≠ b ∧ ∃ (c : Addr) (cs : List Int) (i big turn seed : Int), H b = some (.lst [.ref c, .int i, .int big, .int turn, .int seed]) ∧ H c = some (.lst (cs.map V.int)) ∧ c ≠ b ∧ 0 ≤ i ∧ 0 ≤ big ∧ l ≠ c
theorem BoxFree.at {H : Hp} {b l : Addr} (h : BoxFree H b l) : BoxAt H b := by
  obtain ⟨n, c, cs, i, g, t, s, e1, e2, e3, e4, e5, _⟩ := h
  exact ⟨c, cs, i, g, t, s, e1, e2, e3, e4, e5⟩
theorem BoxFree.of {H : Hp} {b l : Addr} {o : HO} (h : BoxAt H b) (n : H l = none) : BoxFree (L2.upd H l o) b l := by
  obtain ⟨c, cs, i, g, t, s, e1, e2, e3, e4, e5⟩ := h
  have n1 := ne_of_none e1 n
  have n2 := ne_of_none e2 n
  exact ⟨n1.symm, c, cs, i, g, t, s, by rw [upd_ne n1]; exact e1, by rw [upd_ne n2]; exact e2, e3, e4, e5, n2.symm⟩
theorem BoxFree.put {H : Hp} {b l : Addr} {o : HO} (h : BoxFree H b l) : BoxFree (L2.upd H l o) b l := by
  obtain ⟨n, c, cs, i, g, t, s, e1, e2, e3, e4, e5, e6⟩ := h
  exact ⟨n, c, cs, i, g, t, s, by rw [upd_ne n.symm]; exact e1, by rw [upd_ne e6.symm]; exact e2, e3, e4, e5, e6⟩
theorem BoxFree.new {H : Hp} {b l p : Addr} {o : HO} (h : BoxFree H b l) (z : H p = none) : BoxFree (L2.upd H p o) b l := by
  obtain ⟨n, c, cs, i, g, t, s, e1, e2, e3, e4, e5, e6⟩ := h
  exact ⟨n, c, cs, i, g, t, s, by rw [upd_ne (ne_of_none e1 z)]; exact e1, by rw [upd_ne (ne_of_none e2 z)]; exact e2, e3, e4, e5, e6⟩
local macro_rules | `(tactic| walk_at "pre") => `(tactic| first | assumption | exact BoxAt.new (by walk_at "pre") (by assumption) | exact BoxAt.same (by walk_at "pre") (by assumption))
/-- a drawn number -/
def Drawn (b : Addr) (H : Hp) (lo hi : Int) (Q : VK) : Prop := ∀ r H', lo ≤ r → r < hi → BoxAt H' b → ExB b H H' → (∀ l, BoxFree H b l → BoxFree H' b l) → Q (.int r) H'
def spBox (K : PySem.W.Frag) : Sp := fun vs H Q _ => ∃ (a : Addr) (ns : List Int), vs = [.ref a] ∧ SqL K H a (ns.map V.int) ∧ ns.length ≤ 63 ∧ ∀ b H', H b = none → Same H H' → BoxAt H' b → Q (.ref b) H'
def spDraw : Sp := fun vs H Q _ => ∃ (b : Addr) (n : Int), vs = [.ref b, .int n] ∧ BoxAt H b ∧ 0 < n ∧ n < 2 ^ 63 ∧ Drawn b H 0 n Q
def spNum : Sp := fun vs H Q _ => ∃ (x : Int), vs = [.int x] ∧ Q (.bl true) H
theorem sc__law_box : FnScope ["_law_script", "_law_seed", "_law_k"] ["_law_script"] (defScope s__law_box) := ⟨rfl, rfl, rfl, by decide +kernel, rfl, by decide +kernel, by decide +kernel⟩
theorem ok__law_box (T : Txt K mg D) : FnOk P w K mg base CX0 1 D.a__law_box D.d__law_box ["_law_script"] (spBox K) := by
  refine T.F__law_box.ok sc__law_box (fun vs H Q E h => ?_) (fun cdv A outer s H vs Q E hr h => ?_)
  · obtain ⟨a, ns, rfl, _⟩ := h
    rfl
  · obtain ⟨a, ns, rfl, hS, hl, k⟩ := h
    refine ⟨_, (pss_cons (ps_set (i := 1) sc__law_box.nd rfl (Or.inl rfl) pe_int)
      (pss_cons (ps_for PassesOwn.never rfl (pi_range1 (by rfl) T.n_range (pa_cons (pe_callB (call_min2 rfl) (by rfl) T.n_min (by decide +kernel) (pa_cons pe_int (pa_cons (pe_callB call_len_seq (by rfl) T.n_len (by decide +kernel) (pa_cons (pv 0) pa_nil)) pa_nil))) pa_nil)) (pg_name (i := 2) sc__law_box.nd rfl (Or.inl rfl))
      (pss_one (ps_set (i := 1) sc__law_box.nd rfl (Or.inl rfl) (pe_op op_add (pv 1) (pe_op op_mul (pe_op op_mod (pe_callTy call_int1 (by rfl) T.n_int (by decide +kernel) (pa_cons (pe_ix ix_list (pv 0) (pv 2) (fun _ _ => rfl)) pa_nil)) pe_int) (pe_op op_add (pv 2) pe_int))))))
      (pss_one (ps_ret (pe_lst (pa_cons (pe_slice sl_list (pv 0) po_none (po_some pe_int)) (pa_cons pe_int (pa_cons pe_int (pa_cons pe_int (pa_cons (pv 1) pa_nil)))))))))), ?_⟩
    walk_at "rd"
    have e : (if ((ns.map V.int).length : Int) < 63 then ((ns.map V.int).length : Int) else 63) = (ns.length : Int) := by
      rw [List.length_map]
      split <;> omega
    rw [e, Int.toNat_natCast]
    refine ⟨by omega, by omega, ?_⟩
    refine for_range (fun i σ H2 => Stop (∃ (v : Option V) (sd : Int), σ = [some (.ref a), some (.int sd), v] ∧ H2 = H)) (.go ⟨none, 0, rfl, rfl⟩) ?_ ?_
    · intro i σ H2 hi hm
      obtain ⟨v, sd, rfl, rfl⟩ := hm.out
      obtain ⟨z, hz⟩ := at_ints (cs := ns) (i := 0 + (i : Int)) (by omega) (by rw [List.length_map]; omega)
      walk_at "rd"
      exact .go ⟨_, _, rfl, rfl⟩
    · intro σ H2 hm
      obtain ⟨v, sd, rfl, rfl⟩ := hm.out
      walk_at "rd"
      intro p hp
      walk_at "rd"
      intro q hq
      have npq : p ≠ q := XR.ne_fresh hq upd_same
      refine k q _ (none_back (Same.new (Same.refl _) hp) hq) (Same.new (Same.new (Same.refl _) hp) hq) ⟨p, ns.take 63, 0, 0, 0, sd, upd_same, ?_, npq, Int.le_refl _, Int.le_refl _⟩
      rw [upd_ne npq, upd_same]
      exact congrArg (fun l => some (HO.lst l)) (cutV_take ns 63)
theorem sc__law_draw : FnScope ["_law_box_here", "_law_size", "_law_turn", "_law_cell", "_law_rest", "_law_once", "_law_twice"] ["_law_box_here", "_law_size"] (defScope s__law_draw) := ⟨rfl, rfl, rfl, by decide +kernel, rfl, by decide +kernel, by decide +kernel⟩
theorem ok__law_draw (T : Txt K mg D) : FnOk P w K mg base CX0 1 D.a__law_draw D.d__law_draw ["_law_box_here", "_law_size"] spDraw := by
  refine T.F__law_draw.ok sc__law_draw (fun vs H Q E h => ?_) (fun cdv A outer s H vs Q E hr h => ?_)
  · obtain ⟨b, n, rfl, _⟩ := h
    rfl
  · obtain ⟨b, n, rfl, ⟨c, cs, i, big, turn, seed, hb, hc, hcb, hi, hbig⟩, hn, hn2, k⟩ := h
    refine ⟨_, (pss_cons (ps_set (i := 2) sc__law_draw.nd rfl (Or.inl rfl) (pe_ix ix_list (pv 0) pe_int (fun _ _ => rfl)))
      (pss_cons (ps_asg (pe_op op_add (pv 2) pe_int) (pg_sub (pv 0) pe_int set_list))
      (pss_cons (ps_set (i := 3) sc__law_draw.nd rfl (Or.inl rfl) (pe_ix ix_list (pv 0) pe_int (fun _ _ => rfl)))
      (Evl.pss_cut (ps_if (PW.pt (pw_and (pt_cmpR op_eq (pe_ix ix_list (pv 0) pe_int (fun _ _ => rfl)) pe_int (nomark _)) (pw_and1 (pt_cmpR op_lt (pe_ix ix_list (pv 0) pe_int (fun _ _ => rfl)) (pe_callB call_len_seq (by rfl) T.n_len (by decide +kernel) (pa_cons (pe_ix ix_list (pv 0) pe_int (fun _ _ => rfl)) pa_nil)) (nomark _)))))
      (pss_cons (ps_set (i := 3) sc__law_draw.nd rfl (Or.inl rfl) (pe_callTy call_int1 (by rfl) T.n_int (by decide +kernel) (pa_cons (pe_ix ix_list (pe_ix ix_list (pv 0) pe_int (fun _ _ => rfl)) (pe_ix ix_list (pv 0) pe_int (fun _ _ => rfl)) (fun _ _ => rfl)) pa_nil)))
      (pss_cons (ps_asg (pe_op op_add (pe_ix ix_list (pv 0) pe_int (fun _ _ => rfl)) pe_int) (pg_sub (pv 0) pe_int set_list))
      (pss_one (ps_if (pt_cmpR op_ge (pe_callB call_abs (by rfl) T.n_abs (by decide +kernel) (pa_cons (pv 3) pa_nil)) (pe_op op_pow pe_int pe_int) (nomark _))
      (pss_one (ps_asg (pe_callB call_abs (by rfl) T.n_abs (by decide +kernel) (pa_cons (pv 3) pa_nil)) (pg_sub (pv 0) pe_int set_list)))
      pss_nil))))
      pss_nil)
      (pss_cons (ps_if (pt_cmpR op_gt (pe_ix ix_list (pv 0) pe_int (fun _ _ => rfl)) pe_int (nomark _))
      (pss_cons (ps_set (i := 4) sc__law_draw.nd rfl (Or.inl rfl) (pe_callTy call_int1 (by rfl) T.n_int (by decide +kernel) (pa_cons (pe_ix ix_list (pv 0) pe_int (fun _ _ => rfl)) pa_nil)))
      (pss_cons (ps_asg (pe_op op_fdivW (pv 4) (pv 1)) (pg_sub (pv 0) pe_int set_list))
      (pss_one (ps_ret (pe_op op_mod (pv 4) (pv 1))))))
      pss_nil)
      (pss_cons (ps_set (i := 5) sc__law_draw.nd rfl (Or.inl rfl) (pe_op op_mod (pe_callTy call_int1 (by rfl) T.n_int (by decide +kernel) (pa_cons (pe_op op_add (pe_op op_add (pe_op op_mul (pv 3) pe_int) (pe_op op_mul (pv 2) pe_int)) pe_int) pa_nil)) pe_int))
      (pss_cons (ps_set (i := 6) sc__law_draw.nd rfl (Or.inl rfl) (pe_op op_mod (pe_callTy call_int1 (by rfl) T.n_int (by decide +kernel) (pa_cons (pe_op op_add (pe_op op_add (pe_op op_mul (pv 5) (pv 5)) (pe_op op_mul (pv 3) pe_int)) (pe_op op_mul (pv 2) pe_int)) pa_nil)) pe_int))
      (pss_one (ps_ret (pe_op op_mod (pe_callTy call_int1 (by rfl) T.n_int (by decide +kernel) (pa_cons (pe_op op_add (pe_op op_add (pv 6) (pe_op op_mul pe_int (pv 5))) (pe_op op_mul pe_int (pv 3))) pa_nil)) (pv 1))))))))))), ?_⟩
    walk_at "rd"
    refine ⟨fun σ' H' => Stop (∃ (cell i' big' : Int), σ' = [some (.ref b), some (.int n), some (.int turn), some (.int cell), none, none, none] ∧ 0 ≤ i' ∧ 0 ≤ big' ∧ H' b = some (.lst [.ref c, .int i', .int big', .int (turn + 1), .int seed]) ∧ ExB b H H'), ?_, ?_⟩
    · walk_at "rd"
      walk_at "br"
      · walk_at "rd"
        walk_at "br"
        · obtain ⟨z, hz⟩ := at_ints hi (by assumption)
          walk_at "rd"
          walk_at "br"
          · walk_at "rd"
            exact .go ⟨z, i + 1, _, rfl, by omega, (by split <;> omega), upd_same, ((ExB.refl.upd).upd).upd⟩
          · exact .go ⟨z, i + 1, big, rfl, by omega, hbig, upd_same, (ExB.refl.upd).upd⟩
        · exact .go ⟨seed, i, big, rfl, hi, hbig, upd_same, ExB.refl.upd⟩
      · walk_at "rd"
        exact .go ⟨seed, i, big, rfl, hi, hbig, upd_same, ExB.refl.upd⟩
    · intro σ1 H1 hm
      obtain ⟨cell, i1, big1, rfl, hi1, hbig1, hb1, x1⟩ := hm.out
      walk_at "rd"
      walk_at "br"
      · walk_at "rd"
        have hc1 := x1 c _ hcb hc
        refine k _ _ (Int.emod_nonneg _ (by omega)) (Int.emod_lt_of_pos _ hn) ?_ x1.upd ?_
        · exact ⟨c, cs, i1, big1 / n, _, _, upd_same, by rw [upd_ne hcb]; exact hc1, hcb, hi1, Int.ediv_nonneg hbig1 (by omega)⟩
        · rintro l ⟨nl, c', _, _, _, _, _, f1, _, _, _, _, f6⟩
          rw [hb] at f1
          cases f1
          exact ⟨nl, c, cs, i1, big1 / n, _, _, upd_same, by rw [upd_ne hcb]; exact hc1, hcb, hi1, Int.ediv_nonneg hbig1 (by omega), f6⟩
      · walk_at "rd"
        refine k _ _ (Int.emod_nonneg _ (by omega)) (Int.emod_lt_of_pos _ hn) ⟨c, cs, i1, big1, _, _, hb1, x1 c _ hcb hc, hcb, hi1, hbig1⟩ x1 ?_
        rintro l ⟨nl, c', _, _, _, _, _, f1, _, _, _, _, f6⟩
        rw [hb] at f1
        cases f1
        exact ⟨nl, c, cs, i1, big1, _, _, hb1, x1 c _ hcb hc, hcb, hi1, hbig1, f6⟩
theorem sc__law_is_number : FnScope ["_law_value"] ["_law_value"] (defScope s__law_is_number) := ⟨rfl, rfl, rfl, by decide +kernel, rfl, by decide +kernel, by decide +kernel⟩
theorem ok__law_is_number (T : Txt K mg D) : FnOk P w K mg base CX0 1 D.a__law_is_number D.d__law_is_number ["_law_value"] spNum := by
  refine T.F__law_is_number.ok sc__law_is_number (fun vs H Q E h => ?_) (fun cdv A outer s H vs Q E hr h => ?_)
  · obtain ⟨x, rfl, _⟩ := h
    rfl
  · obtain ⟨x, rfl, k⟩ := h
    refine ⟨_, (pss_one (ps_ret (pe_and (pe_callB call_isi (by rfl) T.n_isinstance (by decide +kernel) (pa_cons (pv 0) (pa_cons (pe_bltn (v := .ty "int") (u := .type "int") (by rfl) T.n_int (by decide +kernel) rfl) pa_nil))) (pe_one (pe_not (pe_callB call_isi (by rfl) T.n_isinstance (by decide +kernel) (pa_cons (pv 0) (pa_cons (pe_bltn (v := .ty "bool") (u := .type "bool") (by rfl) T.n_bool (by decide +kernel) rfl) pa_nil)))))))), ?_⟩
    walk_at "rd"
    refine ⟨_, _, _, _, true, rfl, .ty "int", .base (.int _), kit_ty (by decide +kernel), ?_⟩
    walk_at "rd"
    refine ⟨_, _, _, _, false, rfl, .ty "bool", .base (.int _), kit_ty (by decide +kernel), ?_⟩
    walk_at "rd"
    exact k
def spGcd : Sp := fun vs H Q _ => ∃ (a b : Int), vs = [.int a, .int b] ∧ 0 ≤ a ∧ 0 ≤ b ∧ Q (.int ((Nat.gcd a.toNat b.toNat : Nat) : Int)) H
def slotN (k : Nat) (σ : L2.St) : Nat := match σ.getD k none with | some (.int z) => z.toNat | _ => 0
theorem sc__law_gcd : FnScope ["_law_first", "_law_second", "_law_rest"] ["_law_first", "_law_second"] (defScope s__law_gcd) := ⟨rfl, rfl, rfl, by decide +kernel, rfl, by decide +kernel, by decide +kernel⟩
theorem ok__law_gcd (T : Txt K mg D) : FnOk P w K mg base CX0 1 D.a__law_gcd D.d__law_gcd ["_law_first", "_law_second"] spGcd := by
  refine T.F__law_gcd.ok sc__law_gcd (fun vs H Q E h => ?_) (fun cdv A outer s H vs Q E hr h => ?_)
  · obtain ⟨a, b, rfl, _⟩ := h
    rfl
  · obtain ⟨a, b, rfl, ha, hb, k⟩ := h
    refine ⟨_, (pss_cons (ps_while PassesOwn.never (pt_cmpR op_ne (pv 1) pe_int (nomark _))
      (pss_cons (ps_set (i := 2) sc__law_gcd.nd rfl (Or.inl rfl) (pe_op op_mod (pe_callTy call_int1 (by rfl) T.n_int (by decide +kernel) (pa_cons (pv 0) pa_nil)) (pv 1)))
      (pss_cons (ps_set (i := 0) sc__law_gcd.nd rfl (Or.inl rfl) (pv 1))
      (pss_one (ps_set (i := 1) sc__law_gcd.nd rfl (Or.inl rfl) (pv 2))))))
      (pss_one (ps_ret (pv 0)))), ?_⟩
    walk_at "rd"
    refine while_by (fun σ H2 => Stop (∃ (x y : Int) (v : Option V), σ = [some (.int x), some (.int y), v] ∧ H2 = H ∧ 0 ≤ x ∧ 0 ≤ y ∧ Nat.gcd x.toNat y.toNat = Nat.gcd a.toNat b.toNat)) (fun σ _ => slotN 1 σ) (.go ⟨a, b, none, rfl, rfl, ha, hb, rfl⟩) ?_ ?_
    · intro σ H2 hm
      obtain ⟨x, y, v, rfl, rfl, hx, hy, hg⟩ := hm.out
      walk_at "rd"
      walk_at "br"
      · rename_i hz
        have hy1 : 0 < y := by omega
        walk_at "rd"
        have m0 := Int.emod_nonneg x (b := y) (by omega)
        have m1 := Int.emod_lt_of_pos x hy1
        refine ⟨.go ⟨y, x % y, _, rfl, rfl, hy, m0, ?_⟩, ?_⟩
        · rw [← hg]
          have e : (x % y).toNat = x.toNat % y.toNat := by
            have := Int.toNat_emod hx hy
            exact this
          rw [e, Nat.gcd_comm x.toNat, Nat.gcd_rec y.toNat x.toNat, Nat.gcd_comm]
        · show (x % y).toNat < y.toNat
          omega
      · rename_i hz
        have hy0 : y = 0 := by omega
        subst hy0
        walk_at "rd"
        have e : x = ((Nat.gcd a.toNat b.toNat : Nat) : Int) := by
          rw [← hg]
          simp
          omega
        rw [e]
        exact k
    · intro σ H Q Q' m h
      unfold tTest tOp tVar tC rNe at *
      obtain ⟨v, e, c, t, et, q⟩ := h
      exact ⟨v, e, c, t, et, m _ _ q⟩
end
end Toy
set_option Elab.async false
set_option linter.all false
set_option maxRecDepth 100000
set_option maxHeartbeats 4000000
namespace Toy
open PySem L2 XR
local macro_rules | `(tactic| walk_at "ne") => `(tactic| first | assumption | (apply Ne.symm; assumption) | exact XR.ne_fresh (by assumption) (by walk_at "hp") | exact Ne.symm (XR.ne_fresh (by assumption) (by walk_at "hp")))
local macro_rules | `(tactic| walk_at "hp") => `(tactic| first | assumption | exact upd_same | (refine Eq.trans (upd_ne ?_) ?_; (walk_at "ne"); walk_at "hp"))
local macro_rules | `(tactic| walk_at "sq") => `(tactic| first | walk_at "hp" | exact SqL.of (by walk_at "hp") | exact SqT.of (by walk_at "hp") | exact XR.SqT.same (by assumption) (by assumption) | exact XR.SqL.same (by assumption) (by assumption))
local macro_rules | `(tactic| walk_at "br") => `(tactic| (refine ite2 ?_ ?_ <;> intro hbr <;> (try simp only [decide_eq_true_eq, decide_eq_false_iff_not, V.int.injEq, V.bl.injEq, V.str.injEq, Bool.not_eq_true, Bool.not_eq_eq_eq_not, Bool.not_true, Bool.not_false, ne_eq, Int.reduceToNat, Int.reducePow, Int.reduceMul, Int.reduceAdd, Int.reduceSub, reduceCtorEq, not_true_eq_false, not_false_eq_true, Int.not_lt, Int.not_le] at hbr)))
local macro_rules | `(tactic| walk_at "side") => `(tactic| first
  | exact ⟨by decide, by decide, by decide⟩
  | exact .inl ⟨by decide, by decide⟩
  | exact .inr ⟨by decide, by decide⟩
  | exact XR.divw (by first | decide | omega) (by first | decide | omega)
  | (show (_ : Int) = _; first | rfl | omega)
  | (show (0 : Int) < _; first | decide | assumption | omega)
  | exact .inl ⟨by omega, by omega⟩
  | exact .inr ⟨by omega, by omega⟩
  | exact .inl (XR.cmul_mod (by decide))
  | exact XR.log_lt (by omega) (by omega)
  | decide
  | (rw [sizeLine_eq]; simp; done)
  | (show 2 ≤ sizeLine; decide) | (show 3 ≤ sizeLine; decide) | (show 4 ≤ sizeLine; decide) | (show 5 ≤ sizeLine; decide) | (show 6 ≤ sizeLine; decide) | (show 7 ≤ sizeLine; decide) | (show 1 ≤ sizeLine; decide) | (show 8 ≤ sizeLine; decide) | (show 0 ≤ sizeLine; decide))
local macro_rules | `(tactic| walk_at "rd1") => `(tactic| first
  | refine ⟨_, rfl, ?_⟩
  | refine ⟨_, _, rfl, rfl, ?_⟩
  | refine ⟨_, _, _, _, rfl, rfl, (by walk_at "sq"), rfl, ?_⟩
  | refine ⟨_, _, _, _, rfl, rfl, (by walk_at "hp"), (by walk_at "hp"), (by walk_at "side"), ?_⟩
  | refine ⟨_, _, rfl, .inl (by walk_at "sq"), ?_⟩
  | refine ⟨_, _, rfl, .inl ⟨(by walk_at "sq"), ?_⟩⟩
  | refine ⟨_, _, rfl, .inr (by walk_at "sq"), ?_⟩
  | refine ⟨_, _, _, _, _, rfl, (by walk_at "hp"), (by walk_at "cls"), (by walk_at "noat"), rfl, ?_⟩
  | refine ⟨_, _, _, _, rfl, rfl, (by walk_at "sq"), (by first | assumption | exact XR.at0 | exact XR.at1), ?_⟩
  | refine ⟨rfl, ?_⟩
  | refine And.intro (by walk_at "side") ?_
  | refine .inl ⟨_, rfl, ?_⟩
  | refine And.intro ⟨_, (by walk_at "sq")⟩ ?_
  | refine ⟨_, _, rfl, (by walk_at "sq"), ?_⟩
  | refine ⟨_, _, rfl, ?_⟩
  | refine .inr ⟨_, rfl, (by walk_at "side"), ?_⟩
  | refine iteT ?_
  | refine iteF ?_)
local macro_rules | `(tactic| walk_at "rd") => `(tactic| repeat (walk_at "rd1"))
local macro_rules | `(tactic| walk_at "nn") => `(tactic| (simp only [Int.reduceToNat, Int.reducePow, Int.reduceMul, Int.reduceAdd, Int.reduceSub, Int.reduceNeg]))
local macro_rules | `(tactic| walk_at "dr") => `(tactic| repeat (first | refine And.intro (by first | assumption | walk_at "pre") ?_ | refine And.intro (by first | decide | omega) ?_))
local macro_rules | `(tactic| walk_at "pre") => `(tactic| first | assumption | exact BoxAt.new (by walk_at "pre") (by assumption) | exact BoxAt.same (by walk_at "pre") (by assumption))
section
variable {P : Program} {w : World} {K : PySem.W.Frag} {mg : Str → Option Value} {base : Heap} {D : Ad}
/-! ### the module -/
def dm (c : Int × Int) (n : Int) : Option Int := if c.2 ≥ n then none else some ((c.2 - c.1) % n)
def spDm : Sp := fun vs H Q _ => ∃ (G : Hp) (t : Addr) (c : Int × Int) (n : Int), vs = [.ref t, .int n] ∧ SqT K G t [.int c.1, .int c.2] ∧ Same G H ∧ 1 ≤ n ∧ n < 2 ^ 63 ∧ Q (oV (dm c n)) H
theorem sc__demand : FnScope ["sighting", "length", "day", "place"] ["sighting", "length"] (defScope s__demand) := ⟨rfl, rfl, rfl, by decide +kernel, rfl, by decide +kernel, by decide +kernel⟩
theorem ok__demand (T : Txt K mg D) : FnOk P w K mg base CX0 1 D.a__demand D.d__demand ["sighting", "length"] (spDm (K := K)) := by
  refine T.F__demand.ok sc__demand (fun vs H Q E h => ?_) (fun cdv A outer s H vs Q E hr h => ?_)
  · obtain ⟨G, t, c, n, rfl, _⟩ := h
    rfl
  · obtain ⟨G, t, c, n, rfl, ht, v, n1, n2, k⟩ := h
    refine ⟨_, (pss_cons (ps_asg (pv 0) (pg_tup (by rfl) (pgs_cons (pg_name (i := 2) sc__demand.nd rfl (Or.inl rfl)) (pgs_cons (pg_name (i := 3) sc__demand.nd rfl (Or.inl rfl)) pgs_nil))))
      (pss_cons (ps_if (pt_cmpR op_ge (pv 3) (pv 1) (nomark _))
      (pss_one (ps_ret pe_non))
      pss_nil)
      (pss_one (ps_ret (pe_op op_mod (pe_op op_sub (pv 3) (pv 2)) (pv 1)))))), ?_⟩
    unfold dm at k
    walk_at "rd"
    walk_at "br"
    · rename_i hb
      rw [if_pos hb] at k
      walk_at "rd"
      exact k
    · rename_i hb
      rw [if_neg (by omega)] at k
      walk_at "rd"
      exact k
theorem sc__law_demand : FnScope ["_law_sighting", "_law_size"] ["_law_sighting", "_law_size"] (defScope s__law_demand) := ⟨rfl, rfl, rfl, by decide +kernel, rfl, by decide +kernel, by decide +kernel⟩
theorem ok__law_demand (T : Txt K mg D) : FnOk P w K mg base CX0 1 D.a__law_demand D.d__law_demand ["_law_sighting", "_law_size"] (spDm (K := K)) := by
  refine T.F__law_demand.ok sc__law_demand (fun vs H Q E h => ?_) (fun cdv A outer s H vs Q E hr h => ?_)
  · obtain ⟨G, t, c, n, rfl, _⟩ := h
    rfl
  · obtain ⟨G, t, c, n, rfl, ht, v, n1, n2, k⟩ := h
    refine ⟨_, (pss_cons (ps_if (pt_cmpR op_ge (pe_ix ix_tup (pv 0) pe_int (fun _ _ => rfl)) (pv 1) (nomark _))
      (pss_one (ps_ret pe_non))
      pss_nil)
      (pss_one (ps_ret (pe_op op_mod (pe_callTy call_int1 (by rfl) T.n_int (by decide +kernel) (pa_cons (pe_op op_sub (pe_ix ix_tup (pv 0) pe_int (fun _ _ => rfl)) (pe_ix ix_tup (pv 0) pe_int (fun _ _ => rfl))) pa_nil)) (pv 1))))), ?_⟩
    unfold dm at k
    walk_at "rd"
    walk_at "br"
    · rename_i hb
      rw [if_pos hb] at k
      walk_at "rd"
      exact k
    · rename_i hb
      rw [if_neg (by omega)] at k
      walk_at "rd"
      exact k
abbrev row (ss : List (Int × Int)) (n : Int) : List (Option Int) := ss.map fun c => dm c n
def spRow : Sp := fun vs H Q _ => ∃ (G : Hp) (p : Addr) (xs : List V) (ss : List (Int × Int)) (n : Int), vs = [.ref p, .int n] ∧ SqA K G p xs ∧ DpAll K G xs (pDs ss) ∧ Same G H ∧ 1 ≤ n ∧ n < 2 ^ 63 ∧ ss.length ≤ 1000 ∧
  ∀ t H', H t = none → Same H H' → H' t = some (.tup ((row ss n).map oV)) → Q (.ref t) H'
theorem sc_remainder_row : FnScope ["sightings", "length", "sighting"] ["sightings", "length"] (defScope s_remainder_row) := ⟨rfl, rfl, rfl, by decide +kernel, rfl, by decide +kernel, by decide +kernel⟩
theorem ok_remainder_row (T : Txt K mg D) : FnOk P w K mg base CX0 3 D.a_remainder_row D.d_remainder_row ["sightings", "length"] (spRow (K := K)) := by
  have G__demand := ok__demand (P := P) (w := w) (base := base) T
  refine T.F_remainder_row.ok sc_remainder_row (fun vs H Q E h => ?_) (fun cdv A outer s H vs Q E hr h => ?_)
  · obtain ⟨G, p, xs, ss, n, rfl, _⟩ := h
    rfl
  · obtain ⟨G, p, xs, ss, n, rfl, hx, hd, v, n1, n2, hl, k⟩ := h
    refine ⟨_, (pss_one (ps_ret (pe_callTy call_tuple_of (by rfl) T.n_tuple (by decide +kernel) (pa_cons (pe_lc (own := [("sighting", 2)]) (g := gName 2) (tt := tYes) (by rfl) sc_remainder_row.nd (XR.pi_sq (pv 0)) (blkOk_by (own := [("sighting", 2)]) (N := ["sightings", "length", "sighting"]) (sc := defScope s_remainder_row) (by decide +kernel)) (fun _ _ _ _ _ => (pg_name (i := 2) sc_remainder_row.nd rfl (Or.inl rfl))) (fun _ _ _ _ _ => pts_nil) (fun _ _ _ _ _ => (pe_call G__demand (hr.mono (by decide)) (by rfl) T.g__demand T.F__demand.kp T.b__demand .nil pass0 (pa_cons (pv 2) (pa_cons (pv 1) pa_nil))))) pa_nil)))), ?_⟩
    have hlen := XR.DpAll.length hd
    walk_at "rd"
    refine ⟨p, xs, G, rfl, hx, v, fun J W l hL => ?_⟩
    refine lc_it W (fun i H' => LcI K G H l ((ss.take i).map fun c => oD (dm c n)) H') (LcI.start v hL) (fun i H' _ I => I.vw) ?_ ?_
    · rintro i x H1 _ hi ⟨G1, acc, g⟩ ⟨rfl, hx⟩
      obtain ⟨c, t, hc, rfl, st, _⟩ := pairs_get hd hx
      walk_at "rd"
      refine ⟨G, t, c, n, rfl, st, g.vv, n1, n2, ?_⟩
      walk_at "rd"
      refine g.push_map hc ?_ (by omega)
      cases dm c n <;> first | exact .non | exact .int _
    · intro H1 I
      obtain ⟨G1, acc, g⟩ := I.all_map (by rw [hlen, List.length_map]; omega)
      have ea : acc = (row ss n).map oV := DpAll.opts_inv (by rw [List.map_map]; exact g.ds)
      walk_at "rd"
      refine ⟨l, _, rfl, .inl ⟨SqL.of g.el, fun t ht => ?_⟩⟩
      exact k t _ (none_back g.st.hh ht) (g.st.hh.trans (Same.add ht)) (ea ▸ upd_same)
def opn : List (Option Int) → Bool
  | [] => true
  | none :: _ => false
  | some z :: r => r.all fun x => x == some z
theorem opn_two {ro : List (Option Int)} {j : Nat} (h : ro[j]? = some none) : opn ro = false := by
  cases ro with
  | nil => cases h
  | cons y r =>
    cases y with
    | none => rfl
    | some z =>
      cases j with
      | zero => cases h
      | succ j =>
        show r.all _ = false
        rw [List.all_eq_false]
        exact ⟨none, List.mem_of_getElem? h, by simp⟩
theorem opn_one {y : Option Int} {r : List (Option Int)} {j : Nat} {x : Option Int} (h : (y :: r)[j]? = some x) (hy : y ≠ none) (hxy : x ≠ y) : opn (y :: r) = false := by
  cases y with
  | none => exact absurd rfl hy
  | some z =>
    cases j with
    | zero => cases h; exact absurd rfl hxy
    | succ j =>
      show r.all _ = false
      rw [List.all_eq_false]
      exact ⟨x, List.mem_of_getElem? h, by simpa using hxy⟩
theorem opn_all {ro : List (Option Int)} (h1 : ∀ (j : Nat) x, ro[j]? = some x → x ≠ none) (h2 : ∀ (j : Nat) x, ro[j]? = some x → ∀ y, ro[0]? = some y → y ≠ none → x ≠ none → x = y) : opn ro = true := by
  cases ro with
  | nil => rfl
  | cons y r =>
    cases y with
    | none => exact absurd rfl (h1 0 none rfl)
    | some z =>
      show r.all _ = true
      rw [List.all_eq_true]
      intro x hx
      obtain ⟨j, hj⟩ := List.mem_iff_getElem?.mp hx
      have := h2 (j + 1) x hj (some z) rfl (by simp) (h1 (j + 1) x hj)
      simpa using this
theorem row_at {ro : List (Option Int)} {i : Nat} {v : V} (h : (ro.map oV)[i]? = some v) : ∃ x, ro[i]? = some x ∧ v = oV x := by
  rw [List.getElem?_map] at h
  cases e : ro[i]? with
  | none => rw [e] at h; cases h
  | some x => rw [e] at h; exact ⟨x, rfl, (Option.some.inj h).symm⟩
def spShut : Sp := fun vs H Q _ => ∃ (G : Hp) (t : Addr) (ro : List (Option Int)), vs = [.ref t] ∧ SqT K G t (ro.map oV) ∧ Same G H ∧ ro.length ≤ 1000 ∧ (opn ro = true → ∀ H', Same H H' → Q .non H') ∧ (opn ro = false → ∀ u H', Same H H' → Q (.ref u) H')
theorem sc__shut_by : FnScope ["row", "at", "shift"] ["row"] (defScope s__shut_by) := ⟨rfl, rfl, rfl, by decide +kernel, rfl, by decide +kernel, by decide +kernel⟩
theorem ok__shut_by (T : Txt K mg D) : FnOk P w K mg base CX0 1 D.a__shut_by D.d__shut_by ["row"] (spShut (K := K)) := by
  refine T.F__shut_by.ok sc__shut_by (fun vs H Q E h => ?_) (fun cdv A outer s H vs Q E hr h => ?_)
  · obtain ⟨G, t, ro, rfl, _⟩ := h
    rfl
  · obtain ⟨G, t, ro, rfl, ht, v, hl, kT, kF⟩ := h
    refine ⟨_, (pss_cons (ps_for PassesOwn.never rfl (XR.pi_enumQ (by rfl) T.n_enumerate (pa_cons (pv 0) pa_nil)) (pg_tup (by rfl) (pgs_cons (pg_name (i := 1) sc__shut_by.nd rfl (Or.inl rfl)) (pgs_cons (pg_name (i := 2) sc__shut_by.nd rfl (Or.inl rfl)) pgs_nil)))
      (pss_one (ps_if (PW.pt (pw_and (pt_cmpR op_notN (pv 2) pe_non (nomark _)) (pw_and (pt_cmpR op_notN (pe_ix ix_tup (pv 0) pe_int (fun _ _ => rfl)) pe_non (nomark _)) (pw_and1 (pt_cmpR op_ne (pv 2) (pe_ix ix_tup (pv 0) pe_int (fun _ _ => rfl)) (nomark _))))))
      (pss_one (ps_ret (pe_tup (pa_cons pe_int (pa_cons (pv 1) pa_nil)))))
      pss_nil)))
      (pss_cons (ps_for PassesOwn.never rfl (XR.pi_enumQ (by rfl) T.n_enumerate (pa_cons (pv 0) pa_nil)) (pg_tup (by rfl) (pgs_cons (pg_name (i := 1) sc__shut_by.nd rfl (Or.inl rfl)) (pgs_cons (pg_name (i := 2) sc__shut_by.nd rfl (Or.inl rfl)) pgs_nil)))
      (pss_one (ps_if (pt_cmpR op_isN (pv 2) pe_non (nomark _))
      (pss_one (ps_ret (pe_tup (pa_cons (pv 1) (pa_cons (pv 1) pa_nil)))))
      pss_nil)))
      (pss_one (ps_ret pe_non)))), ?_⟩
    walk_at "rd"
    refine ⟨t, _, G, rfl, .inr ht, v, fun J W => ?_⟩
    refine for_it W (fun i σ H1 => Stop (∃ v1 v2, σ = [some (.ref t), v1, v2] ∧ Same H H1 ∧ ∀ j x, j < i → ro[j]? = some x → ∀ y, ro[0]? = some y → y ≠ none → x ≠ none → x = y)) (.go ⟨none, none, rfl, Same.refl H, fun j x hj => absurd hj (Nat.not_lt_zero _)⟩) (fun i σ H1 _ I => by obtain ⟨_, _, _, x, _⟩ := I.out; exact v.trans x) ?_ ?_
    · rintro i x σ H1 H2 hi I ⟨T, a, y, rfl, nT, rfl, ea, ey⟩
      obtain ⟨v1, v2, rfl, x1, hall⟩ := I.out
      cases ea
      obtain ⟨y, hy, rfl⟩ := row_at ey
      have v2 : Same G (upd H1 T (.tup [.int (i : Nat), oV y])) := (v.trans x1).trans (Same.add nT)
      have dn : ∀ (H3 : Hp) (σ3 : L2.St), (∃ v1 v2, σ3 = [some (.ref t), v1, v2]) → Same H H3 → (∀ x, ro[i]? = some x → ∀ y, ro[0]? = some y → y ≠ none → x ≠ none → x = y) → Stop (∃ v1 v2, σ3 = [some (.ref t), v1, v2] ∧ Same H H3 ∧ ∀ j x, j < i + 1 → ro[j]? = some x → ∀ y, ro[0]? = some y → y ≠ none → x ≠ none → x = y) := by
        rintro H3 σ3 ⟨w1, w2, rfl⟩ y3 h
        refine .go ⟨w1, w2, rfl, y3, fun j x hj => ?_⟩
        by_cases e : j = i
        · subst e; exact h x
        · exact hall j x (by omega)
      cases y with
      | none =>
        simp only [oV] at *
        walk_at "rd"
        exact dn _ _ ⟨_, _, rfl⟩ (x1.trans (Same.add nT)) fun x hx => by rw [hy] at hx; cases hx; exact fun _ _ _ z => absurd rfl z
      | some z =>
        cases ro with
        | nil => cases hy
        | cons y0 r =>
        cases y0 with
        | none =>
          simp only [oV, List.map_cons] at *
          walk_at "rd"
          exact dn _ _ ⟨_, _, rfl⟩ (x1.trans (Same.add nT)) fun x _ y e => by cases e; exact fun q => absurd rfl q
        | some z0 =>
          simp only [oV, List.map_cons] at *
          walk_at "rd"
          walk_at "br"
          · rename_i hb
            walk_at "rd"
            intro u hu
            exact kF (opn_one hy (by simp) (by simpa using hb)) u _ ((x1.trans (Same.add nT)).trans (Same.add hu))
          · rename_i hb
            exact dn _ _ ⟨_, _, rfl⟩ (x1.trans (Same.add nT)) fun x hx y e => by
              cases e
              rw [hy] at hx
              cases hx
              simpa using hb
    · rintro σ H1 I
      obtain ⟨v1, v2, rfl, x1, h1⟩ := I.out
      rw [List.length_map] at h1
      walk_at "rd"
      refine ⟨t, _, G, rfl, .inr ht, v.trans x1, fun J W => ?_⟩
      refine for_it W (fun i σ H2 => Stop (∃ v1 v2, σ = [some (.ref t), v1, v2] ∧ Same H H2 ∧ ∀ j x, j < i → ro[j]? = some x → x ≠ none)) (.go ⟨v1, v2, rfl, x1, fun j x hj => absurd hj (Nat.not_lt_zero _)⟩) (fun i σ H2 _ I => by obtain ⟨_, _, _, x, _⟩ := I.out; exact v.trans x) ?_ ?_
      · rintro i x σ H2 H3 hi I ⟨T, a, y, rfl, nT, rfl, ea, ey⟩
        obtain ⟨w1, w2, rfl, x2, hall⟩ := I.out
        cases ea
        obtain ⟨y, hy, rfl⟩ := row_at ey
        walk_at "rd"
        cases y with
        | none =>
          simp only [oV] at *
          walk_at "rd"
          intro u hu
          exact kF (opn_two hy) u _ ((x2.trans (Same.add nT)).trans (Same.add hu))
        | some z =>
          simp only [oV] at *
          walk_at "rd"
          refine .go ⟨_, _, rfl, x2.trans (Same.add nT), fun j x hj hx => ?_⟩
          by_cases e : j = i
          · subst e
            rw [hy] at hx
            cases hx
            simp
          · exact hall j x (by omega) hx
      · rintro σ H2 I
        obtain ⟨w1, w2, rfl, x2, h2⟩ := I.out
        rw [List.length_map] at h2
        walk_at "rd"
        exact kT (opn_all (fun j x hx => h2 j x (List.getElem?_eq_some_iff.mp hx).1 hx) fun j x hx => h1 j x (List.getElem?_eq_some_iff.mp hx).1 hx) _ x2
def cycRow (n : Int) : List (Int × Int) := (List.range n.toNat).map fun (j : Nat) => (n, (j : Int))
def cycs (lo : Int) : Nat → List (Int × Int)
  | 0 => []
  | k + 1 => cycs lo k ++ cycRow (lo + (k : Int))
theorem cycs_len {lo : Int} (h1 : 1 ≤ lo) (h2 : lo ≤ 60) : ∀ k : Nat, k ≤ 60 → (cycs lo k).length ≤ 120 * k
  | 0, _ => Nat.le_refl _
  | k + 1, h => by
    have := cycs_len h1 h2 k (by omega)
    show (cycs lo k ++ cycRow (lo + (k : Int))).length ≤ _
    unfold cycRow
    rw [List.length_append, List.length_map, List.length_range]
    omega
/-- a list comes back, made anew -/
def NewList (K : PySem.W.Frag) (G H : Hp) (out : List PyData) (Q : VK) : Prop := ∀ l G' H' acc, Grow K G H l out G' H' acc → Q (.ref l) H'
def spAll : Sp := fun vs H Q _ => ∃ (G : Hp) (lo hi : Int), vs = [.int lo, .int hi] ∧ Same G H ∧ 1 ≤ lo ∧ lo ≤ 60 ∧ 1 ≤ hi ∧ hi ≤ 60 ∧ NewList K G H (pDs (cycs lo (hi + 1 - lo).toNat)) Q
theorem sc_all_cycles : FnScope ["least", "most", "length", "shift"] ["least", "most"] (defScope s_all_cycles) := ⟨rfl, rfl, rfl, by decide +kernel, rfl, by decide +kernel, by decide +kernel⟩
theorem ok_all_cycles (T : Txt K mg D) : FnOk P w K mg base CX0 1 D.a_all_cycles D.d_all_cycles ["least", "most"] (spAll (K := K)) := by
  refine T.F_all_cycles.ok sc_all_cycles (fun vs H Q E h => ?_) (fun cdv A outer s H vs Q E hr h => ?_)
  · obtain ⟨G, lo, hi, rfl, _⟩ := h
    rfl
  · obtain ⟨G, lo, hi, rfl, v, l1, l2, h1, h2, k⟩ := h
    refine ⟨_, (pss_one (ps_ret (pe_lc2 (own := [("length", 2), ("shift", 3)]) (vs1 := [3]) (g := gName 2) (g1 := gName 3) (tt := tYes) (tt1 := tYes) (by rfl) sc_all_cycles.nd (pi_range2 (by rfl) T.n_range (pa_cons (pv 0) (pa_cons (pe_op op_add (pv 1) pe_int) pa_nil))) (blkOk_by (own := [("length", 2), ("shift", 3)]) (N := ["least", "most", "length", "shift"]) (sc := defScope s_all_cycles) (by decide +kernel)) (by decide) (fun _ _ _ _ _ => (pg_name (i := 2) sc_all_cycles.nd rfl (Or.inl rfl))) (fun _ _ _ _ _ => pts_nil) (fun _ _ _ _ _ => (pi_range1 (by rfl) T.n_range (pa_cons (pv 2) pa_nil))) (fun _ _ _ _ _ => (pg_name (i := 3) sc_all_cycles.nd rfl (Or.inl rfl))) (fun _ _ _ _ _ => pts_nil) (fun _ _ _ _ _ => (pe_tup (pa_cons (pv 2) (pa_cons (pv 3) pa_nil))))))), ?_⟩
    walk_at "rd"
    refine ⟨⟨by omega, by omega, by omega, by omega⟩, ?_⟩
    intro l hL
    refine XR.turn_range (fun i H' => LcI K G H l (pDs (cycs lo i)) H') (LcI.start v hL) ?_ ?_
    · rintro i H1 hi2 I
      have hlen := cycs_len l1 l2 i (by omega)
      walk_at "rd"
      refine ⟨by omega, by omega, ?_⟩
      refine XR.turn_range (fun j H' => LcI K G H l (pDs (cycs lo i ++ (List.range j).map fun (j : Nat) => (lo + (i : Int), (j : Int)))) H') (by simpa using I) ?_ ?_
      · rintro j H2 hj ⟨G1, acc, g⟩
        walk_at "rd"
        intro tp htp
        walk_at "rd"
        have g' := g.step (Step.new (o := .tup [.int (lo + (i : Int)), .int (0 + (j : Int))]) g.st.vw htp)
        have e : pDs (cycs lo i ++ (List.range (j + 1)).map fun (j : Nat) => (lo + (i : Int), (j : Int))) = pDs (cycs lo i ++ (List.range j).map fun (j : Nat) => (lo + (i : Int), (j : Int))) ++ [pD (lo + (i : Int), 0 + (j : Int))] := by
          simp only [pDs, List.range_succ, List.map_append, ← List.append_assoc, Int.zero_add, List.map_cons, List.map_nil]
        rw [e]
        refine g'.push (Dp.mk_pair (SqT.of upd_same)) ?_
        rw [List.length_map, List.length_append, List.length_map, List.length_range, sizeLine_eq]
        omega
      · rintro H2 I2
        exact I2
    · rintro H1 ⟨G1, acc, g⟩
      exact k l G1 H1 acc g
/-! ### the common divisor -/
abbrev df (c : Int × Int) : Int := c.2 - c.1
abbrev d0 (ss : List (Int × Int)) : Int := match ss with | [] => 0 | c :: _ => df c
def gdR (z : Int) : List (Int × Int) → Nat → Nat
  | [], d => d
  | c :: r, d => gdR z r (Nat.gcd d (df c - z).natAbs)
def gd (ss : List (Int × Int)) : Nat := gdR (d0 ss) ss 0
theorem gdR_take {z : Int} : ∀ (ss : List (Int × Int)) (d : Nat) (i : Nat) (c : Int × Int), ss[i]? = some c → gdR z (ss.take (i + 1)) d = Nat.gcd (gdR z (ss.take i) d) (df c - z).natAbs
  | [], _, _, _, h => by cases h
  | x :: r, d, 0, c, h => by cases h; simp [gdR]
  | x :: r, d, i + 1, c, h => by
    simp only [List.take_succ_cons, gdR]
    exact gdR_take r _ i c h
def spCom : Sp := fun vs H Q _ => ∃ (G : Hp) (p : Addr) (xs : List V) (ss : List (Int × Int)), vs = [.ref p] ∧ SqA K G p xs ∧ DpAll K G xs (pDs ss) ∧ Same G H ∧ ss.length ≤ 1000 ∧ ∀ H', Same H H' → Q (.int ((gd ss : Nat) : Int)) H'
theorem sc_common_divisor : FnScope ["sightings", "differences", "divisor", "difference", "day", "place"] ["sightings"] (defScope s_common_divisor) := ⟨rfl, rfl, rfl, by decide +kernel, rfl, by decide +kernel, by decide +kernel⟩
theorem ok_common_divisor (T : Txt K mg D) : FnOk P w K mg base CX0 1 D.a_common_divisor D.d_common_divisor ["sightings"] (spCom (K := K)) := by
  refine T.F_common_divisor.ok sc_common_divisor (fun vs H Q E h => ?_) (fun cdv A outer s H vs Q E hr h => ?_)
  · obtain ⟨G, p, xs, ss, rfl, _⟩ := h
    rfl
  · obtain ⟨G, p, xs, ss, rfl, hx, hd, v, hl, k⟩ := h
    refine ⟨_, (pss_cons (ps_setLc (i := 1) (own := [("day", 4), ("place", 5)]) (g := gTup K 2 (gCons (gName 4) (gCons (gName 5) gNil))) (tt := tYes) (by rfl) sc_common_divisor.nd rfl rfl (sw_true rfl rfl rfl (by decide +kernel)) (XR.pi_sq (pv 0)) (blkOk_by (own := [("day", 4), ("place", 5)]) (N := ["sightings", "differences", "divisor", "difference", "day", "place"]) (sc := defScope s_common_divisor) (by decide +kernel)) (fun _ _ _ _ _ => (pg_tup (by rfl) (pgs_cons (pg_name (i := 4) sc_common_divisor.nd rfl (Or.inl rfl)) (pgs_cons (pg_name (i := 5) sc_common_divisor.nd rfl (Or.inl rfl)) pgs_nil)))) (fun _ _ _ _ _ => pts_nil) (fun _ _ _ _ _ => (pe_op op_sub (pv 5) (pv 4))))
      (pss_cons (ps_set (i := 2) sc_common_divisor.nd rfl (Or.inl rfl) pe_int)
      (pss_cons (ps_for PassesOwn.never rfl (XR.pi_sq (pv 1)) (pg_name (i := 3) sc_common_divisor.nd rfl (Or.inl rfl))
      (pss_one (ps_set (i := 2) sc_common_divisor.nd rfl (Or.inl rfl) (pe_callBfun cr_gcd (by rfl) T.g_gcd (pa_cons (pv 2) (pa_cons (pe_op op_sub (pv 3) (pe_ix ix_list (pv 1) pe_int (fun _ _ => rfl))) pa_nil))))))
      (pss_one (ps_ret (pv 2)))))), ?_⟩
    have hlen := XR.DpAll.length hd
    walk_at "rd"
    refine ⟨p, xs, G, rfl, hx, v, fun J W l hL => ?_⟩
    refine lc_it W (fun i H' => LcI K G H l ((ss.take i).map fun c => PyData.int (df c)) H') (LcI.start v hL) (fun i H' _ I => I.vw) ?_ ?_
    · rintro i x H1 _ hi ⟨G1, acc, g⟩ ⟨rfl, hx⟩
      obtain ⟨c, t, hc, rfl, st, _⟩ := pairs_get hd hx
      have st' := SqT.same st g.vv
      walk_at "rd"
      exact g.push_map hc (.int _) (by omega)
    · intro H1 I
      obtain ⟨G1, acc, g⟩ := I.all_map (by rw [hlen, List.length_map]; omega)
      have ea : acc = (ss.map df).map V.int := DpAll.ints (by rw [List.map_map]; exact g.ds)
      have el := g.el
      rw [ea] at el
      walk_at "rd"
      refine ⟨l, _, L2.upd G1 l (.lst ((ss.map df).map V.int)), rfl, .inl (SqL.of upd_same), (ea ▸ g.freeze.1.vw), fun J W => ?_⟩
      refine for_it W (fun i σ H2 => Stop (∃ v1, σ = [some (.ref p), some (.ref l), some (.int ((gdR (d0 ss) (ss.take i) 0 : Nat) : Int)), v1, none, none] ∧ H2 = H1)) (.go ⟨none, rfl, rfl⟩) (fun i σ H2 _ I => by obtain ⟨_, _, e⟩ := I.out; rw [e]; exact ea ▸ g.freeze.1.vw) ?_ ?_
      · rintro i x σ H2 _ hi I ⟨rfl, hx⟩
        obtain ⟨v1, rfl, rfl⟩ := I.out
        obtain ⟨z, hz, rfl⟩ := get_int hx
        rw [List.getElem?_map] at hz
        cases ec : ss[i]? with
        | none => rw [ec] at hz; cases hz
        | some c =>
        rw [ec] at hz
        cases hz
        cases ss with
        | nil => cases ec
        | cons c0 r =>
        walk_at "rd"
        exact .go ⟨some (.int (df c)), by rw [gdR_take _ _ _ _ ec]; rfl, rfl⟩
      · rintro σ H2 I
        obtain ⟨v1, rfl, rfl⟩ := I.out
        walk_at "rd"
        rw [List.take_of_length_le (by simp)]
        exact k _ g.st.hh
/-! ### the fitting cycles -/
def piece (ss : List (Int × Int)) (n : Int) : List (Int × Int) :=
  match ss with
  | [] => cycRow n
  | c :: r => if opn (row (c :: r) n) then [(n, (df c) % n)] else []
def fit (ss : List (Int × Int)) (lo : Int) : Nat → List (Int × Int)
  | 0 => []
  | k + 1 => fit ss lo k ++ piece ss (lo + (k : Int))
theorem fit_nil {lo : Int} : ∀ k, fit [] lo k = cycs lo k
  | 0 => rfl
  | k + 1 => by
    show fit [] lo k ++ cycRow _ = cycs lo k ++ cycRow _
    rw [fit_nil k]
theorem piece_len {ss : List (Int × Int)} (h : ss ≠ []) (n : Int) : (piece ss n).length ≤ 1 := by
  cases ss with
  | nil => exact absurd rfl h
  | cons c r =>
    show (if _ then _ else _ : List (Int × Int)).length ≤ 1
    split <;> simp
theorem fit_len {ss : List (Int × Int)} (h : ss ≠ []) {lo : Int} : ∀ k, (fit ss lo k).length ≤ k
  | 0 => Nat.le_refl _
  | k + 1 => by
    show (fit ss lo k ++ piece ss _).length ≤ _
    rw [List.length_append]
    have := fit_len h (lo := lo) k
    have := piece_len h (lo + (k : Int))
    omega
theorem opn_head {c : Int × Int} {r : List (Int × Int)} {n : Int} (h : opn (row (c :: r) n) = true) : dm c n = some ((df c) % n) := by
  unfold row at h
  rw [List.map_cons] at h
  unfold dm at *
  split at h
  · cases h
  · rename_i hb
    rw [if_neg hb]
def spFit : Sp := fun vs H Q _ => ∃ (G : Hp) (p : Addr) (xs : List V) (ss : List (Int × Int)) (lo hi : Int), vs = [.ref p, .int lo, .int hi] ∧ SqA K G p xs ∧ DpAll K G xs (pDs ss) ∧ Same G H ∧ ss.length ≤ 1000 ∧ 1 ≤ lo ∧ lo ≤ 60 ∧ 1 ≤ hi ∧ hi ≤ 60 ∧ NewList K G H (pDs (fit ss lo (hi + 1 - lo).toNat)) Q
theorem sc_fitting_cycles : FnScope ["sightings", "least", "most", "length"] ["sightings", "least", "most"] (defScope s_fitting_cycles) := ⟨rfl, rfl, rfl, by decide +kernel, rfl, by decide +kernel, by decide +kernel⟩
theorem ok_fitting_cycles (T : Txt K mg D) : FnOk P w K mg base CX0 5 D.a_fitting_cycles D.d_fitting_cycles ["sightings", "least", "most"] (spFit (K := K)) := by
  have G__shut_by := ok__shut_by (P := P) (w := w) (base := base) T
  have G_remainder_row := ok_remainder_row (P := P) (w := w) (base := base) T
  have G__demand := ok__demand (P := P) (w := w) (base := base) T
  have G_all_cycles := ok_all_cycles (P := P) (w := w) (base := base) T
  refine T.F_fitting_cycles.ok sc_fitting_cycles (fun vs H Q E h => ?_) (fun cdv A outer s H vs Q E hr h => ?_)
  · obtain ⟨G, p, xs, ss, lo, hi, rfl, _⟩ := h
    rfl
  · obtain ⟨G, p, xs, ss, lo, hi, rfl, hx, hd, v, hl, l1, l2, h1, h2, k⟩ := h
    refine ⟨_, (pss_cons (ps_if (pt_cmpR op_eq (pe_callB call_len_seq (by rfl) T.n_len (by decide +kernel) (pa_cons (pv 0) pa_nil)) pe_int (nomark _))
      (pss_one (ps_ret (pe_call G_all_cycles (hr.mono (by decide)) (by rfl) T.g_all_cycles T.F_all_cycles.kp T.b_all_cycles .nil pass0 (pa_cons (pv 1) (pa_cons (pv 2) pa_nil)))))
      pss_nil)
      (pss_one (ps_ret (pe_lc (own := [("length", 3)]) (g := gName 3) (by rfl) sc_fitting_cycles.nd (pi_range2 (by rfl) T.n_range (pa_cons (pv 1) (pa_cons (pe_op op_add (pv 2) pe_int) pa_nil))) (blkOk_by (own := [("length", 3)]) (N := ["sightings", "least", "most", "length"]) (sc := defScope s_fitting_cycles) (by decide +kernel)) (fun _ _ _ _ _ => (pg_name (i := 3) sc_fitting_cycles.nd rfl (Or.inl rfl))) (fun _ _ _ _ _ => (pts_one (pt_cmpR op_isN (pe_call G__shut_by (hr.mono (by decide)) (by rfl) T.g__shut_by T.F__shut_by.kp T.b__shut_by .nil pass0 (pa_cons (pe_call G_remainder_row (hr.mono (by decide)) (by rfl) T.g_remainder_row T.F_remainder_row.kp T.b_remainder_row .nil pass0 (pa_cons (pv 0) (pa_cons (pv 3) pa_nil))) pa_nil)) pe_non (nomark _)))) (fun _ _ _ _ _ => (pe_tup (pa_cons (pv 3) (pa_cons (pe_call G__demand (hr.mono (by decide)) (by rfl) T.g__demand T.F__demand.kp T.b__demand .nil pass0 (pa_cons (pe_ix XR.ix_seqb (pv 0) pe_int (fun _ _ => rfl)) (pa_cons (pv 3) pa_nil))) pa_nil)))))))), ?_⟩
    have hlen := XR.DpAll.length hd
    rw [List.length_map] at hlen
    walk_at "rd"
    refine ⟨p, xs, rfl, hx.imp (fun z => SqL.same z v) (fun z => SqT.same z v), ?_⟩
    walk_at "rd"
    walk_at "br"
    · rename_i hb
      have e : ss = [] := List.eq_nil_of_length_eq_zero (by omega)
      subst e
      walk_at "rd"
      rw [fit_nil] at k
      exact ⟨G, lo, hi, rfl, v, l1, l2, h1, h2, k⟩
    · rename_i hb
      walk_at "rd"
      refine ⟨⟨by omega, by omega, by omega, by omega⟩, ?_⟩
      intro l hL
      refine lc_range (fun i H' => LcI K G H l (pDs (fit ss lo i)) H') (LcI.start v hL) ?_ ?_
      · rintro i H1 hi2 ⟨G1, acc, g⟩
        walk_at "rd"
        refine ⟨G, p, xs, ss, _, rfl, hx, hd, g.vv, by omega, by omega, hl, fun t H2 ht x2 et => ?_⟩
        walk_at "rd"
        cases ss with
        | nil => exact absurd (by rw [hlen]; rfl) hb
        | cons c0 r =>
        have v2 : Same G H2 := g.vv.trans x2
        have g2 := g.step (Step.same g.st.vw x2)
        have lz := fit_len (ss := c0 :: r) (by simp) (lo := lo) i
        refine ⟨H2, t, _, rfl, SqT.of et, Same.refl _, by rw [List.length_map]; exact hl, fun ho H3 x3 => ?_, fun ho u H3 x3 => ?_⟩
        · have v3 := v2.trans x3
          have g3 := g2.step (Step.same g2.st.vw x3)
          have ep : pDs (fit (c0 :: r) lo (i + 1)) = pDs (fit (c0 :: r) lo i) ++ [pD (lo + (i : Int), (df c0) % (lo + (i : Int)))] := by
            show pDs (fit (c0 :: r) lo i ++ (if opn (row (c0 :: r) (lo + (i : Int))) then _ else _)) = _
            rw [if_pos ho, pDs, List.map_append]
            rfl
          have eh := opn_head ho
          obtain ⟨p0, e0, s0, _⟩ := pairs_at (i := 0) hd rfl
          have ax : atI xs 0 = some (.ref p0) := atI_nat (j := 0) e0
          walk_at "rd"
          rcases hx with hx | hx
          case' inl => refine .inl ⟨_, _, _, _, rfl, rfl, SqL.same hx v3, ax, ?_⟩
          case' inr => refine .inr (.inl ⟨_, _, _, _, rfl, rfl, SqT.same hx v3, ax, ?_⟩)
          all_goals
            walk_at "rd"
            refine ⟨G, p0, c0, _, rfl, s0, v3, by omega, by omega, ?_⟩
            rw [eh]
            walk_at "rd"
            intro tp htp
            have g4 := g3.step (Step.new (o := .tup [.int (lo + (i : Int)), .int ((df c0) % (lo + (i : Int)))]) g3.st.vw htp)
            walk_at "rd"
            rw [ep]
            refine g4.push (Dp.mk_pair (SqT.of upd_same)) ?_
            rw [List.length_map, sizeLine_eq]
            omega
        · walk_at "rd"
          have ep : fit (c0 :: r) lo (i + 1) = fit (c0 :: r) lo i := by
            show fit (c0 :: r) lo i ++ (if opn (row (c0 :: r) (lo + (i : Int))) then _ else _) = _
            rw [if_neg (by rw [ho]; simp), List.append_nil]
          rw [ep]
          exact ⟨_, _, g2.step (Step.same g2.st.vw x3)⟩
      · rintro H1 ⟨G1, acc, g⟩
        exact k l G1 H1 acc g
end
end Toy
set_option Elab.async false
set_option linter.all false
set_option maxRecDepth 100000
set_option maxHeartbeats 4000000
namespace Toy
open PySem L2 XR
local macro_rules | `(tactic| walk_at "ne") => `(tactic| first | assumption | (apply Ne.symm; assumption) | exact XR.ne_fresh (by assumption) (by walk_at "hp") | exact Ne.symm (XR.ne_fresh (by assumption) (by walk_at "hp")))
local macro_rules | `(tactic| walk_at "hp") => `(tactic| first | assumption | exact upd_same | (refine Eq.trans (upd_ne ?_) ?_; (walk_at "ne"); walk_at "hp"))
local macro_rules | `(tactic| walk_at "sq") => `(tactic| first | walk_at "hp" | exact SqL.of (by walk_at "hp") | exact SqT.of (by walk_at "hp") | exact XR.SqT.same (by assumption) (by assumption) | exact XR.SqL.same (by assumption) (by assumption))
local macro_rules | `(tactic| walk_at "br") => `(tactic| (refine ite2 ?_ ?_ <;> intro hbr <;> (try simp only [decide_eq_true_eq, decide_eq_false_iff_not, V.int.injEq, V.bl.injEq, V.str.injEq, Bool.not_eq_true, Bool.not_eq_eq_eq_not, Bool.not_true, Bool.not_false, ne_eq, Int.reduceToNat, Int.reducePow, Int.reduceMul, Int.reduceAdd, Int.reduceSub, reduceCtorEq, not_true_eq_false, not_false_eq_true, Int.not_lt, Int.not_le] at hbr)))
local macro_rules | `(tactic| walk_at "side") => `(tactic| first
  | exact ⟨by decide, by decide, by decide⟩
  | exact .inl ⟨by decide, by decide⟩
  | exact .inr ⟨by decide, by decide⟩
  | exact XR.divw (by first | decide | omega) (by first | decide | omega)
  | (show (_ : Int) = _; first | rfl | omega)
  | (show (0 : Int) < _; first | decide | assumption | omega)
  | exact .inl ⟨by omega, by omega⟩
  | exact .inr ⟨by omega, by omega⟩
  | exact .inl (XR.cmul_mod (by decide))
  | exact XR.log_lt (by omega) (by omega)
  | decide
  | (rw [sizeLine_eq]; simp; done)
  | (show 2 ≤ sizeLine; decide) | (show 3 ≤ sizeLine; decide) | (show 4 ≤ sizeLine; decide) | (show 5 ≤ sizeLine; decide) | (show 6 ≤ sizeLine; decide) | (show 7 ≤ sizeLine; decide) | (show 1 ≤ sizeLine; decide) | (show 8 ≤ sizeLine; decide) | (show 0 ≤ sizeLine; decide))
local macro_rules | `(tactic| walk_at "rd1") => `(tactic| first
  | refine ⟨_, rfl, ?_⟩
  | refine ⟨_, _, rfl, rfl, ?_⟩
  | refine ⟨_, _, _, _, rfl, rfl, (by walk_at "sq"), rfl, ?_⟩
  | refine ⟨_, _, _, _, rfl, rfl, (by walk_at "hp"), (by walk_at "hp"), (by walk_at "side"), ?_⟩
  | refine ⟨_, _, rfl, .inl (by walk_at "sq"), ?_⟩
  | refine ⟨_, _, rfl, .inl ⟨(by walk_at "sq"), ?_⟩⟩
  | refine ⟨_, _, rfl, .inr (by walk_at "sq"), ?_⟩
  | refine ⟨_, _, _, _, _, rfl, (by walk_at "hp"), (by walk_at "cls"), (by walk_at "noat"), rfl, ?_⟩
  | refine ⟨_, _, _, _, rfl, rfl, (by walk_at "sq"), (by first | assumption | exact XR.at0 | exact XR.at1), ?_⟩
  | refine ⟨rfl, ?_⟩
  | refine And.intro (by walk_at "side") ?_
  | refine .inl ⟨_, rfl, ?_⟩
  | refine And.intro ⟨_, (by walk_at "sq")⟩ ?_
  | refine ⟨_, _, rfl, (by walk_at "sq"), ?_⟩
  | refine ⟨_, _, rfl, ?_⟩
  | refine .inr ⟨_, rfl, (by walk_at "side"), ?_⟩
  | refine iteT ?_
  | refine iteF ?_)
local macro_rules | `(tactic| walk_at "rd") => `(tactic| repeat (walk_at "rd1"))
local macro_rules | `(tactic| walk_at "nn") => `(tactic| (simp only [Int.reduceToNat, Int.reducePow, Int.reduceMul, Int.reduceAdd, Int.reduceSub, Int.reduceNeg]))
local macro_rules | `(tactic| walk_at "dr") => `(tactic| repeat (first | refine And.intro (by first | assumption | walk_at "pre") ?_ | refine And.intro (by first | decide | omega) ?_))
local macro_rules | `(tactic| walk_at "pre") => `(tactic| first | assumption | exact BoxAt.new (by walk_at "pre") (by assumption) | exact BoxAt.same (by walk_at "pre") (by assumption))
section
variable {P : Program} {w : World} {K : PySem.W.Frag} {mg : Str → Option Value} {base : Heap} {D : Ad}
/-! ### what the law draws -/
def OkC (c : Int × Int) : Prop := -(10 ^ 18) ≤ c.1 ∧ c.1 ≤ 10 ^ 18 ∧ 0 ≤ c.2 ∧ c.2 ≤ 10 ^ 18 + 10
def spSg : Sp := fun vs H Q _ => ∃ (b : Addr) (n : Int), vs = [.ref b, .int n] ∧ Stop (∃ G, Same G H ∧ G b = none ∧ BoxAt H b ∧ 1 ≤ n ∧ n ≤ 60 ∧ ∀ l G' H' ss acc, GrowB K b G H l (pDs ss) G' H' acc → BoxAt H' b → ss.length ≤ 6 → (∀ c ∈ ss, OkC c) → Q (.ref l) H')
theorem sc__law_sightings : FnScope ["_law_box_here", "_law_size", "_law_shift", "_law_many", "_law_loose", "_law_off", "_law_reach", "_law_sightings_here", "_law_k", "_law_day", "_law_spot", "_law_one"] ["_law_box_here", "_law_size"] (defScope s__law_sightings) := ⟨rfl, rfl, rfl, by decide +kernel, rfl, by decide +kernel, by decide +kernel⟩
theorem ok__law_sightings (T : Txt K mg D) : FnOk P w K mg base CX0 3 D.a__law_sightings D.d__law_sightings ["_law_box_here", "_law_size"] (spSg (K := K)) := by
  have G__law_draw := ok__law_draw (P := P) (w := w) (base := base) T
  refine T.F__law_sightings.ok sc__law_sightings (fun vs H Q E h => ?_) (fun cdv A outer s H vs Q E hr h => ?_)
  · obtain ⟨b, n, rfl, _⟩ := h
    rfl
  · obtain ⟨b, n, rfl, st⟩ := h
    refine ⟨_, (pss_cons (ps_set (i := 2) sc__law_sightings.nd rfl (Or.inl rfl) (pe_call G__law_draw (hr.mono (by decide)) (by rfl) T.g__law_draw T.F__law_draw.kp T.b__law_draw .nil pass0 (pa_cons (pv 0) (pa_cons (pv 1) pa_nil))))
      (pss_cons (ps_set (i := 3) sc__law_sightings.nd rfl (Or.inl rfl) (pe_call G__law_draw (hr.mono (by decide)) (by rfl) T.g__law_draw T.F__law_draw.kp T.b__law_draw .nil pass0 (pa_cons (pv 0) (pa_cons pe_int pa_nil))))
      (pss_cons (ps_set (i := 4) sc__law_sightings.nd rfl (Or.inl rfl) (pe_call G__law_draw (hr.mono (by decide)) (by rfl) T.g__law_draw T.F__law_draw.kp T.b__law_draw .nil pass0 (pa_cons (pv 0) (pa_cons pe_int pa_nil))))
      (pss_cons (ps_set (i := 5) sc__law_sightings.nd rfl (Or.inl rfl) (pe_call G__law_draw (hr.mono (by decide)) (by rfl) T.g__law_draw T.F__law_draw.kp T.b__law_draw .nil pass0 (pa_cons (pv 0) (pa_cons pe_int pa_nil))))
      (pss_cons (ps_set (i := 6) sc__law_sightings.nd rfl (Or.inl rfl) (pe_ix ix_list (pe_lst (pa_cons pe_int (pa_cons pe_int (pa_cons (pe_op op_pow pe_int pe_int) (pa_cons (pe_op op_sub (pe_op op_pow pe_int pe_int) pe_int) pa_nil))))) (pe_call G__law_draw (hr.mono (by decide)) (by rfl) T.g__law_draw T.F__law_draw.kp T.b__law_draw .nil pass0 (pa_cons (pv 0) (pa_cons pe_int pa_nil))) (fun _ _ => rfl)))
      (pss_cons (ps_set (i := 7) sc__law_sightings.nd rfl (Or.inl rfl) (pe_lst pa_nil))
      (pss_cons (ps_for PassesOwn.never rfl (pi_range1 (by rfl) T.n_range (pa_cons (pv 3) pa_nil)) (pg_name (i := 8) sc__law_sightings.nd rfl (Or.inl rfl))
      (pss_cons (ps_set (i := 9) sc__law_sightings.nd rfl (Or.inl rfl) (pe_op op_sub (pe_call G__law_draw (hr.mono (by decide)) (by rfl) T.g__law_draw T.F__law_draw.kp T.b__law_draw .nil pass0 (pa_cons (pv 0) (pa_cons (pe_op op_add (pe_op op_mul pe_int (pv 6)) pe_int) pa_nil))) (pv 6)))
      (pss_cons (ps_set (i := 10) sc__law_sightings.nd rfl (Or.inl rfl) (pe_op op_mod (pe_callTy call_int1 (by rfl) T.n_int (by decide +kernel) (pa_cons (pe_op op_add (pv 9) (pv 2)) pa_nil)) (pv 1)))
      (Evl.pss_cut (ps_if (pt_cmpR op_eq (pv 4) pe_int (nomark _))
      (pss_one (ps_set (i := 10) sc__law_sightings.nd rfl (Or.inl rfl) (pe_call G__law_draw (hr.mono (by decide)) (by rfl) T.g__law_draw T.F__law_draw.kp T.b__law_draw .nil pass0 (pa_cons (pv 0) (pa_cons (pe_ix ix_list (pe_lst (pa_cons pe_int (pa_cons pe_int (pa_cons (pe_op op_sub (pe_op op_pow pe_int pe_int) pe_int) pa_nil)))) (pe_call G__law_draw (hr.mono (by decide)) (by rfl) T.g__law_draw T.F__law_draw.kp T.b__law_draw .nil pass0 (pa_cons (pv 0) (pa_cons pe_int pa_nil))) (fun _ _ => rfl)) pa_nil)))))
      pss_nil)
      (Evl.pss_cut (ps_if (PW.pt (pw_and (pt_cmpR op_eq (pv 4) pe_int (nomark _)) (pw_and1 (pt_cmpR op_eq (pv 8) (pv 5) (nomark _)))))
      (pss_one (ps_set (i := 10) sc__law_sightings.nd rfl (Or.inl rfl) (pe_op op_add (pe_op op_add (pv 10) pe_int) (pe_call G__law_draw (hr.mono (by decide)) (by rfl) T.g__law_draw T.F__law_draw.kp T.b__law_draw .nil pass0 (pa_cons (pv 0) (pa_cons pe_int pa_nil))))))
      pss_nil)
      (pss_cons (ps_set (i := 11) sc__law_sightings.nd rfl (Or.inl rfl) (pe_tup (pa_cons (pv 9) (pa_cons (pv 10) pa_nil))))
      (Evl.pss_cut (ps_if (PW.pt (pw_and (pt_cmpR op_gt (pv 8) pe_int (nomark _)) (pw_and1 (pt_cmpR op_eq (pe_call G__law_draw (hr.mono (by decide)) (by rfl) T.g__law_draw T.F__law_draw.kp T.b__law_draw .nil pass0 (pa_cons (pv 0) (pa_cons pe_int pa_nil))) pe_int (nomark _)))))
      (pss_one (ps_set (i := 11) sc__law_sightings.nd rfl (Or.inl rfl) (pe_ix ix_list (pv 7) pe_int (fun _ _ => rfl))))
      pss_nil)
      (pss_one (ps_expr (pe_bm PySem.F.plainAttrs_list PySem.F.slot_list_append PySem.F.type_list_append mt_append (pv 7) (pa_cons (pv 11) pa_nil)))))))))))
      (pss_one (ps_ret (pv 7)))))))))), ?_⟩
    obtain ⟨G, v, gb, B, n1, n2, k⟩ := st.out
    walk_at "rd"
    walk_at "dr"
    intro shift H1 p1 q1 B1 x1 _
    walk_at "rd"
    walk_at "dr"
    intro many H2 p2 q2 B2 x2 _
    walk_at "rd"
    walk_at "dr"
    intro loose H3 p3 q3 B3 x3 _
    walk_at "rd"
    walk_at "dr"
    intro off H4 p4 q4 B4 x4 _
    walk_at "rd"
    intro la hla
    walk_at "rd"
    walk_at "dr"
    intro r5 H5 p5 q5 B5 x5 _
    obtain ⟨reach, ea, r1, r2⟩ := ints_at (P := fun z => 0 < z ∧ z ≤ 10 ^ 18) [9, 400, 10 ^ 9, 10 ^ 18 - 1] p5 q5 (by decide)
    have na : la ≠ b := BoxAt.ne B4 hla
    refine ⟨_, _, _, _, rfl, rfl, SqL.of (x5 la _ na upd_same), ea, ?_⟩
    walk_at "rd"
    intro l hl
    have s5 : StB b G H G H5 := ((StB.refl v gb).draw ((x1.trans x2).trans (x3.trans x4))).mut hla |>.draw x5
    have nl : l ≠ b := BoxAt.ne B5 hl
    walk_at "rd"
    refine ⟨by omega, by omega, ?_⟩
    refine for_range (fun i σ H' => Stop (∃ v1 v2 v3 v4 ss G' acc, σ = [some (.ref b), some (.int n), some (.int shift), some (.int many), some (.int loose), some (.int off), some (.int reach), some (.ref l), v1, v2, v3, v4] ∧ GrowB K b G H5 l (pDs ss) G' H' acc ∧ BoxFree H' b l ∧ (∀ c ∈ ss, OkC c) ∧ ss.length = i))
      (.go ⟨none, none, none, none, [], G, [], rfl, GrowB.start (StB.refl s5.vw gb) hl nl, BoxFree.of B5 hl, by simp, rfl⟩) ?_ ?_
    · intro i σ H6 hi hm
      obtain ⟨v1, v2, v3, v4, ss, G6, acc, rfl, g, F6, ok, hlen⟩ := hm.out
      have B6 := F6.at
      walk_at "rd"
      walk_at "dr"
      intro day H7 p7 q7 B7 x7 f7
      walk_at "rd"
      have m0 := Int.emod_nonneg (day - reach + shift) (b := n) (by omega)
      have m1 := Int.emod_lt_of_pos (day - reach + shift) (b := n) (by omega)
      refine ⟨fun σ' H' => Stop (∃ spot, σ' = [some (.ref b), some (.int n), some (.int shift), some (.int many), some (.int loose), some (.int off), some (.int reach), some (.ref l), some (.int (0 + (i : Int))), some (.int (day - reach)), some (.int spot), v4] ∧ 0 ≤ spot ∧ spot ≤ 10 ^ 18 ∧ BoxAt H' b ∧ ExB b H7 H' ∧ (∀ l, BoxFree H7 b l → BoxFree H' b l)), ?_, fun σ8 H8 hm => ?_⟩
      · walk_at "rd"
        walk_at "br"
        · walk_at "rd"
          intro lb hlb
          walk_at "rd"
          walk_at "dr"
          intro r8 H8 p8 q8 B8 x8 f8
          obtain ⟨most, eb, t1, t2⟩ := ints_at (P := fun z => 0 < z ∧ z ≤ 10 ^ 18) [12, 70, 10 ^ 18 - 1] p8 q8 (by decide)
          refine ⟨_, _, _, _, rfl, rfl, SqL.of (x8 lb _ (BoxAt.ne B7 hlb) upd_same), eb, ?_⟩
          walk_at "rd"
          walk_at "dr"
          intro spot H9 p9 q9 B9 x9 f9
          exact .go ⟨spot, rfl, p9, by omega, B9, (ExB.refl.new hlb).trans (x8.trans x9), fun l z => f9 l (f8 l (z.new hlb))⟩
        · exact .go ⟨_, rfl, m0, by omega, B7, ExB.refl, fun l z => z⟩
      · obtain ⟨spot, rfl, s1, s2, B8, x8, f8⟩ := hm.out
        walk_at "rd"
        refine ⟨fun σ' H' => Stop (∃ spot, σ' = [some (.ref b), some (.int n), some (.int shift), some (.int many), some (.int loose), some (.int off), some (.int reach), some (.ref l), some (.int (0 + (i : Int))), some (.int (day - reach)), some (.int spot), v4] ∧ 0 ≤ spot ∧ spot ≤ 10 ^ 18 + 10 ∧ BoxAt H' b ∧ ExB b H7 H' ∧ (∀ l, BoxFree H7 b l → BoxFree H' b l)), ?_, fun σ9 H9 hm => ?_⟩
        · walk_at "rd"
          walk_at "br"
          · walk_at "rd"
            walk_at "br"
            · walk_at "rd"
              walk_at "dr"
              intro r9 H9 p9 q9 B9 x9 f9
              walk_at "rd"
              exact .go ⟨_, rfl, by omega, by omega, B9, x8.trans x9, fun l z => f9 l (f8 l z)⟩
            · exact .go ⟨_, rfl, s1, by omega, B8, x8, f8⟩
          · walk_at "rd"
            exact .go ⟨_, rfl, s1, by omega, B8, x8, f8⟩
        · obtain ⟨spot, rfl, s1, s2, B9, x9, f9⟩ := hm.out
          walk_at "rd"
          intro tp htp
          walk_at "rd"
          have g9 := g.draw (x7.trans x9)
          have F9 := f9 l (f7 l F6)
          have g10 := g9.new (o := .tup [.int (day - reach), .int spot]) htp (BoxAt.ne B9 htp)
          have F10 := F9.new (o := .tup [.int (day - reach), .int spot]) htp
          refine ⟨fun σ' H' => Stop (∃ one c, σ' = [some (.ref b), some (.int n), some (.int shift), some (.int many), some (.int loose), some (.int off), some (.int reach), some (.ref l), some (.int (0 + (i : Int))), some (.int (day - reach)), some (.int spot), some one] ∧ Dp K (L2.upd G6 tp (.tup [.int (day - reach), .int spot])) one (pD c) ∧ OkC c ∧ GrowB K b G H5 l (pDs ss) (L2.upd G6 tp (.tup [.int (day - reach), .int spot])) H' acc ∧ BoxFree H' b l), ?_, fun σ11 H11 hm => ?_⟩
          · have dp : Dp K (L2.upd G6 tp (.tup [.int (day - reach), .int spot])) (.ref tp) (pD (day - reach, spot)) := Dp.mk_pair (SqT.of upd_same)
            have oc : OkC (day - reach, spot) := ⟨by omega, by omega, by omega, by omega⟩
            have B10 := F10.at
            walk_at "rd"
            walk_at "br"
            · rename_i hk
              walk_at "rd"
              walk_at "dr"
              intro r11 H11 p11 q11 B11 x11 f11
              walk_at "rd"
              have g11 := g10.draw x11
              walk_at "br"
              · cases ss with
                | nil => simp at hlen; omega
                | cons c0 r =>
                obtain ⟨p0, e0, s0, d0⟩ := pairs_at (i := 0) g11.ds rfl
                walk_at "rd"
                refine ⟨_, _, _, _, rfl, rfl, SqL.of g11.el, atI_nat (j := 0) e0, ?_⟩
                exact .go ⟨_, c0, rfl, d0, ok c0 List.mem_cons_self, g11, f11 l F10⟩
              · exact .go ⟨_, _, rfl, dp, oc, g11, f11 l F10⟩
            · walk_at "rd"
              exact .go ⟨_, _, rfl, dp, oc, g10, F10⟩
          · obtain ⟨one, c, rfl, dp, oc, g11, F11⟩ := hm.out
            walk_at "rd"
            refine ⟨.inl ⟨rfl, _, SqL.of g11.el⟩, ?_⟩
            walk_at "rd"
            refine ⟨l, acc, one, rfl, rfl, g11.el, by rw [g11.len, List.length_map, sizeLine_eq]; omega, ?_⟩
            have g12 := g11.add dp
            refine .go ⟨_, _, _, _, ss ++ [c], _, _, rfl, by rw [pDs, List.map_append]; exact g12, F11.put, fun c' hc' => ?_, by rw [List.length_append, hlen]; rfl⟩
            rcases List.mem_append.mp hc' with z | z
            · exact ok c' z
            · rw [List.mem_singleton.mp z]
              exact oc
    · intro σ H6 hm
      obtain ⟨v1, v2, v3, v4, ss, G6, acc, rfl, g, F6, ok, hlen⟩ := hm.out
      walk_at "rd"
      exact k l G6 H6 ss acc (g.base s5) F6.at (by omega) ok
def spBnd : Sp := fun vs H Q _ => ∃ (b : Addr) (n : Int), vs = [.ref b, .int n] ∧ BoxAt H b ∧ 1 ≤ n ∧ n ≤ 60 ∧ ∀ t H' lo hi, 1 ≤ lo → lo ≤ 60 → 1 ≤ hi → hi ≤ 60 → BoxAt H' b → ExB b H H' → H t = none → t ≠ b → H' t = some (.tup [.int lo, .int hi]) → Q (.ref t) H'
theorem sc__law_bounds : FnScope ["_law_box_here", "_law_size", "_law_least", "_law_wide", "_law_more"] ["_law_box_here", "_law_size"] (defScope s__law_bounds) := ⟨rfl, rfl, rfl, by decide +kernel, rfl, by decide +kernel, by decide +kernel⟩
theorem ok__law_bounds (T : Txt K mg D) : FnOk P w K mg base CX0 3 D.a__law_bounds D.d__law_bounds ["_law_box_here", "_law_size"] spBnd := by
  have G__law_draw := ok__law_draw (P := P) (w := w) (base := base) T
  refine T.F__law_bounds.ok sc__law_bounds (fun vs H Q E h => ?_) (fun cdv A outer s H vs Q E hr h => ?_)
  · obtain ⟨b, n, rfl, _⟩ := h
    rfl
  · obtain ⟨b, n, rfl, B, n1, n2, k⟩ := h
    refine ⟨_, (pss_cons (ps_set (i := 2) sc__law_bounds.nd rfl (Or.inl rfl) (pe_op op_add pe_int (pe_call G__law_draw (hr.mono (by decide)) (by rfl) T.g__law_draw T.F__law_draw.kp T.b__law_draw .nil pass0 (pa_cons (pv 0) (pa_cons pe_int pa_nil)))))
      (Evl.pss_cut (ps_if (pt_cmpR op_eq (pe_call G__law_draw (hr.mono (by decide)) (by rfl) T.g__law_draw T.F__law_draw.kp T.b__law_draw .nil pass0 (pa_cons (pv 0) (pa_cons pe_int pa_nil))) pe_int (nomark _))
      (pss_one (ps_set (i := 2) sc__law_bounds.nd rfl (Or.inl rfl) (pe_callB (call_max2 rfl) (by rfl) T.n_max (by decide +kernel) (pa_cons pe_int (pa_cons (pe_op op_sub (pv 1) (pe_call G__law_draw (hr.mono (by decide)) (by rfl) T.g__law_draw T.F__law_draw.kp T.b__law_draw .nil pass0 (pa_cons (pv 0) (pa_cons pe_int pa_nil)))) pa_nil)))))
      pss_nil)
      (pss_cons (ps_set (i := 3) sc__law_bounds.nd rfl (Or.inl rfl) (pe_call G__law_draw (hr.mono (by decide)) (by rfl) T.g__law_draw T.F__law_draw.kp T.b__law_draw .nil pass0 (pa_cons (pv 0) (pa_cons pe_int pa_nil))))
      (pss_cons (ps_set (i := 4) sc__law_bounds.nd rfl (Or.inl rfl) (pe_op op_sub (pe_call G__law_draw (hr.mono (by decide)) (by rfl) T.g__law_draw T.F__law_draw.kp T.b__law_draw .nil pass0 (pa_cons (pv 0) (pa_cons pe_int pa_nil))) pe_int))
      (Evl.pss_cut (ps_if (pt_cmpR op_eq (pv 3) pe_int (nomark _))
      (pss_one (ps_set (i := 4) sc__law_bounds.nd rfl (Or.inl rfl) (pe_call G__law_draw (hr.mono (by decide)) (by rfl) T.g__law_draw T.F__law_draw.kp T.b__law_draw .nil pass0 (pa_cons (pv 0) (pa_cons pe_int pa_nil)))))
      pss_nil)
      (pss_one (ps_ret (pe_tup (pa_cons (pv 2) (pa_cons (pe_callB (call_max2 rfl) (by rfl) T.n_max (by decide +kernel) (pa_cons pe_int (pa_cons (pe_callB (call_min2 rfl) (by rfl) T.n_min (by decide +kernel) (pa_cons pe_int (pa_cons (pe_op op_add (pv 2) (pv 4)) pa_nil))) pa_nil))) pa_nil)))))))))), ?_⟩
    walk_at "rd"
    walk_at "dr"
    intro r1 H1 p1 q1 B1 x1 _
    walk_at "rd"
    refine ⟨fun σ' H' => Stop (∃ lo, σ' = [some (.ref b), some (.int n), some (.int lo), none, none] ∧ 1 ≤ lo ∧ lo ≤ 60 ∧ BoxAt H' b ∧ ExB b H H'), ?_, fun σ2 H2 hm => ?_⟩
    · walk_at "rd"
      walk_at "dr"
      intro r2 H2 p2 q2 B2 x2 _
      walk_at "rd"
      walk_at "br"
      · walk_at "rd"
        walk_at "dr"
        intro r3 H3 p3 q3 B3 x3 _
        walk_at "rd"
        have e2 := max_if 1 (n - r3)
        exact .go ⟨_, rfl, by rw [e2]; omega, by rw [e2]; omega, B3, (x1.trans x2).trans x3⟩
      · exact .go ⟨_, rfl, by omega, by omega, B2, x1.trans x2⟩
    · obtain ⟨lo, rfl, l1, l2, B2, x2⟩ := hm.out
      walk_at "rd"
      walk_at "dr"
      intro r3 H3 p3 q3 B3 x3 _
      walk_at "rd"
      walk_at "dr"
      intro r4 H4 p4 q4 B4 x4 _
      walk_at "rd"
      refine ⟨fun σ' H' => Stop (∃ m, σ' = [some (.ref b), some (.int n), some (.int lo), some (.int r3), some (.int m)] ∧ BoxAt H' b ∧ ExB b H H'), ?_, fun σ4 H4 hm => ?_⟩
      · walk_at "rd"
        walk_at "br"
        · walk_at "rd"
          walk_at "dr"
          intro r4 H4 p4 q4 B4 x5 _
          walk_at "rd"
          exact .go ⟨r4, rfl, B4, ((x2.trans x3).trans x4).trans x5⟩
        · walk_at "rd"
          exact .go ⟨_, rfl, B4, (x2.trans x3).trans x4⟩
      · obtain ⟨m, rfl, B4, x4⟩ := hm.out
        walk_at "rd1"
        walk_at "rd1"
        walk_at "rd1"
        walk_at "rd1"
        refine ⟨60, lo + m, rfl, ?_⟩
        refine ⟨1, _, rfl, ?_⟩
        walk_at "rd"
        intro t ht
        have e1 := min_if 60 (lo + m)
        have e2 := max_if 1 (if lo + m < 60 then lo + m else 60)
        refine k t _ _ _ l1 l2 ?_ ?_ (B4.new ht) (x4.new ht) (none_backB x4 (B4.ne ht) ht) (B4.ne ht) upd_same
        · show 1 ≤ (if (if lo + m < 60 then lo + m else 60) > 1 then (if lo + m < 60 then lo + m else 60) else 1)
          rw [e2, e1]
          omega
        · show (if (if lo + m < 60 then lo + m else 60) > 1 then (if lo + m < 60 then lo + m else 60) else 1) ≤ 60
          rw [e2, e1]
          omega
end
end Toy
set_option Elab.async false
set_option linter.all false
set_option maxRecDepth 100000
set_option maxHeartbeats 4000000
namespace Toy
open PySem L2 XR
local macro_rules | `(tactic| walk_at "ne") => `(tactic| first | assumption | (apply Ne.symm; assumption) | exact XR.ne_fresh (by assumption) (by walk_at "hp") | exact Ne.symm (XR.ne_fresh (by assumption) (by walk_at "hp")))
local macro_rules | `(tactic| walk_at "hp") => `(tactic| first | assumption | exact upd_same | (refine Eq.trans (upd_ne ?_) ?_; (walk_at "ne"); walk_at "hp"))
local macro_rules | `(tactic| walk_at "sq") => `(tactic| first | walk_at "hp" | exact SqL.of (by walk_at "hp") | exact SqT.of (by walk_at "hp") | exact XR.SqT.same (by assumption) (by assumption) | exact XR.SqL.same (by assumption) (by assumption))
local macro_rules | `(tactic| walk_at "br") => `(tactic| (refine ite2 ?_ ?_ <;> intro hbr <;> (try simp only [decide_eq_true_eq, decide_eq_false_iff_not, V.int.injEq, V.bl.injEq, V.str.injEq, Bool.not_eq_true, Bool.not_eq_eq_eq_not, Bool.not_true, Bool.not_false, ne_eq, Int.reduceToNat, Int.reducePow, Int.reduceMul, Int.reduceAdd, Int.reduceSub, reduceCtorEq, not_true_eq_false, not_false_eq_true, Int.not_lt, Int.not_le] at hbr)))
local macro_rules | `(tactic| walk_at "side") => `(tactic| first
  | exact ⟨by decide, by decide, by decide⟩
  | exact .inl ⟨by decide, by decide⟩
  | exact .inr ⟨by decide, by decide⟩
  | exact XR.divw (by first | decide | omega) (by first | decide | omega)
  | (show (_ : Int) = _; first | rfl | omega)
  | (show (0 : Int) < _; first | decide | assumption | omega)
  | exact .inl ⟨by omega, by omega⟩
  | exact .inr ⟨by omega, by omega⟩
  | exact .inl (XR.cmul_mod (by decide))
  | exact XR.log_lt (by omega) (by omega)
  | decide
  | (rw [sizeLine_eq]; simp; done)
  | (show 2 ≤ sizeLine; decide) | (show 3 ≤ sizeLine; decide) | (show 4 ≤ sizeLine; decide) | (show 5 ≤ sizeLine; decide) | (show 6 ≤ sizeLine; decide) | (show 7 ≤ sizeLine; decide) | (show 1 ≤ sizeLine; decide) | (show 8 ≤ sizeLine; decide) | (show 0 ≤ sizeLine; decide))
local macro_rules | `(tactic| walk_at "rd1") => `(tactic| first
  | refine ⟨_, rfl, ?_⟩
  | refine ⟨_, _, rfl, rfl, ?_⟩
  | refine ⟨_, _, _, _, rfl, rfl, (by walk_at "sq"), rfl, ?_⟩
  | refine ⟨_, _, _, _, rfl, rfl, (by walk_at "hp"), (by walk_at "hp"), (by walk_at "side"), ?_⟩
  | refine ⟨_, _, rfl, .inl (by walk_at "sq"), ?_⟩
  | refine ⟨_, _, rfl, .inl ⟨(by walk_at "sq"), ?_⟩⟩
  | refine ⟨_, _, rfl, .inr (by walk_at "sq"), ?_⟩
  | refine ⟨_, _, _, _, _, rfl, (by walk_at "hp"), (by walk_at "cls"), (by walk_at "noat"), rfl, ?_⟩
  | refine ⟨_, _, _, _, rfl, rfl, (by walk_at "sq"), (by first | assumption | exact XR.at0 | exact XR.at1), ?_⟩
  | refine ⟨rfl, ?_⟩
  | refine And.intro (by walk_at "side") ?_
  | refine .inl ⟨_, rfl, ?_⟩
  | refine And.intro ⟨_, (by walk_at "sq")⟩ ?_
  | refine ⟨_, _, rfl, (by walk_at "sq"), ?_⟩
  | refine ⟨_, _, rfl, ?_⟩
  | refine .inr ⟨_, rfl, (by walk_at "side"), ?_⟩
  | refine iteT ?_
  | refine iteF ?_)
local macro_rules | `(tactic| walk_at "rd") => `(tactic| repeat (walk_at "rd1"))
local macro_rules | `(tactic| walk_at "nn") => `(tactic| (simp only [Int.reduceToNat, Int.reducePow, Int.reduceMul, Int.reduceAdd, Int.reduceSub, Int.reduceNeg]))
local macro_rules | `(tactic| walk_at "dr") => `(tactic| repeat (first | refine And.intro (by first | assumption | walk_at "pre") ?_ | refine And.intro (by first | decide | omega) ?_))
local macro_rules | `(tactic| walk_at "pre") => `(tactic| first | assumption | exact BoxAt.new (by walk_at "pre") (by assumption) | exact BoxAt.same (by walk_at "pre") (by assumption))
section
variable {P : Program} {w : World} {K : PySem.W.Frag} {mg : Str → Option Value} {base : Heap} {D : Ad}
/-! ### the law's own reading -/
def LstD (K : PySem.W.Frag) (G : Hp) (p : Addr) (ss : List (Int × Int)) : Prop := ∃ xs, SqL K G p xs ∧ DpAll K G xs (pDs ss)
theorem LstD.same {G H : Hp} {p : Addr} {ss : List (Int × Int)} (h : LstD K G p ss) (v : Same G H) : LstD K H p ss := let ⟨xs, a, b⟩ := h; ⟨xs, SqL.same a v, DpAll.same v b⟩
theorem gd_abs {a d : Int} (hd : 0 ≤ d) : Nat.gcd (if a < 0 then -a else a).toNat d.toNat = Nat.gcd d.toNat a.natAbs := by
  have e : (if a < 0 then -a else a).toNat = a.natAbs := by split <;> omega
  rw [e, Nat.gcd_comm]
def spDiv : Sp := fun vs H Q _ => ∃ (G : Hp) (p : Addr) (ss : List (Int × Int)), vs = [.ref p] ∧ LstD K G p ss ∧ Same G H ∧ Q (.int ((gd ss : Nat) : Int)) H
theorem sc__law_divisor : FnScope ["_law_sightings_here", "_law_divisor_here", "_law_one", "_law_gap"] ["_law_sightings_here"] (defScope s__law_divisor) := ⟨rfl, rfl, rfl, by decide +kernel, rfl, by decide +kernel, by decide +kernel⟩
theorem ok__law_divisor (T : Txt K mg D) : FnOk P w K mg base CX0 3 D.a__law_divisor D.d__law_divisor ["_law_sightings_here"] (spDiv (K := K)) := by
  have G__law_gcd := ok__law_gcd (P := P) (w := w) (base := base) T
  refine T.F__law_divisor.ok sc__law_divisor (fun vs H Q E h => ?_) (fun cdv A outer s H vs Q E hr h => ?_)
  · obtain ⟨G, p, ss, rfl, _⟩ := h
    rfl
  · obtain ⟨G, p, ss, rfl, ⟨xs, hx, hd⟩, v, k⟩ := h
    refine ⟨_, (pss_cons (ps_set (i := 1) sc__law_divisor.nd rfl (Or.inl rfl) pe_int)
      (pss_cons (ps_for PassesOwn.never rfl (XR.pi_sq (pv 0)) (pg_name (i := 2) sc__law_divisor.nd rfl (Or.inl rfl))
      (pss_cons (ps_set (i := 3) sc__law_divisor.nd rfl (Or.inl rfl) (pe_op op_sub (pe_op op_sub (pe_ix ix_tup (pv 2) pe_int (fun _ _ => rfl)) (pe_ix ix_tup (pv 2) pe_int (fun _ _ => rfl))) (pe_op op_sub (pe_ix ix_tup (pe_ix ix_list (pv 0) pe_int (fun _ _ => rfl)) pe_int (fun _ _ => rfl)) (pe_ix ix_tup (pe_ix ix_list (pv 0) pe_int (fun _ _ => rfl)) pe_int (fun _ _ => rfl)))))
      (pss_one (ps_set (i := 1) sc__law_divisor.nd rfl (Or.inl rfl) (pe_call G__law_gcd (hr.mono (by decide)) (by rfl) T.g__law_gcd T.F__law_gcd.kp T.b__law_gcd .nil pass0 (pa_cons (pe_callB call_abs (by rfl) T.n_abs (by decide +kernel) (pa_cons (pv 3) pa_nil)) (pa_cons (pv 1) pa_nil)))))))
      (pss_one (ps_ret (pv 1))))), ?_⟩
    walk_at "rd"
    refine ⟨p, xs, G, rfl, .inl hx, v, fun J W => ?_⟩
    have hlen := XR.DpAll.length hd
    rw [List.length_map] at hlen
    refine for_it W (fun i σ H2 => Stop (∃ v1 v2, σ = [some (.ref p), some (.int ((gdR (d0 ss) (ss.take i) 0 : Nat) : Int)), v1, v2] ∧ H2 = H)) (.go ⟨none, none, rfl, rfl⟩) (fun i σ H2 _ I => by obtain ⟨_, _, _, e⟩ := I.out; rw [e]; exact v) ?_ ?_
    · rintro i x σ H2 _ hi I ⟨rfl, hxi⟩
      obtain ⟨v1, v2, rfl, rfl⟩ := I.out
      obtain ⟨c, t, hc, rfl, st, _⟩ := pairs_get hd hxi
      cases ss with
      | nil => cases hc
      | cons c0 r =>
      obtain ⟨p0, e0, s0, _⟩ := pairs_at (i := 0) hd rfl
      have st' := SqT.same st v
      have s0' := SqT.same s0 v
      have hx' := SqL.same hx v
      have e0' : atI xs 0 = some (.ref p0) := atI_nat (j := 0) e0
      walk_at "rd"
      refine ⟨by split <;> omega, by omega, ?_⟩
      rw [gd_abs (by omega)]
      refine .go ⟨some (.ref t), some (.int (df c - df c0)), ?_, rfl⟩
      rw [gdR_take _ _ _ _ hc]
      rfl
    · rintro σ H2 I
      obtain ⟨v1, v2, rfl, rfl⟩ := I.out
      walk_at "rd"
      rw [List.take_of_length_le (by omega)]
      exact k
def meets (ss : List (Int × Int)) (n sh : Int) : Bool := ss.all fun c => (c.1 + sh) % n == c.2
def spMeets : Sp := fun vs H Q _ => ∃ (G : Hp) (p : Addr) (ss : List (Int × Int)) (n sh : Int), vs = [.ref p, .int n, .int sh] ∧ LstD K G p ss ∧ Same G H ∧ 1 ≤ n ∧ n ≤ 120 ∧ Q (.bl (meets ss n sh)) H
theorem sc__law_meets : FnScope ["_law_sightings_here", "_law_size", "_law_shift", "_law_one"] ["_law_sightings_here", "_law_size", "_law_shift"] (defScope s__law_meets) := ⟨rfl, rfl, rfl, by decide +kernel, rfl, by decide +kernel, by decide +kernel⟩
theorem ok__law_meets (T : Txt K mg D) : FnOk P w K mg base CX0 1 D.a__law_meets D.d__law_meets ["_law_sightings_here", "_law_size", "_law_shift"] (spMeets (K := K)) := by
  refine T.F__law_meets.ok sc__law_meets (fun vs H Q E h => ?_) (fun cdv A outer s H vs Q E hr h => ?_)
  · obtain ⟨G, p, ss, n, sh, rfl, _⟩ := h
    rfl
  · obtain ⟨G, p, ss, n, sh, rfl, ⟨xs, hx, hd⟩, v, n1, n2, k⟩ := h
    refine ⟨_, (pss_cons (ps_for PassesOwn.never rfl (XR.pi_sq (pv 0)) (pg_name (i := 3) sc__law_meets.nd rfl (Or.inl rfl))
      (pss_one (ps_if (pt_cmpR op_ne (pe_op op_mod (pe_callTy call_int1 (by rfl) T.n_int (by decide +kernel) (pa_cons (pe_op op_add (pe_ix ix_tup (pv 3) pe_int (fun _ _ => rfl)) (pv 2)) pa_nil)) (pv 1)) (pe_ix ix_tup (pv 3) pe_int (fun _ _ => rfl)) (nomark _))
      (pss_one (ps_ret pe_bl))
      pss_nil)))
      (pss_one (ps_ret pe_bl))), ?_⟩
    have hlen := XR.DpAll.length hd
    rw [List.length_map] at hlen
    walk_at "rd"
    refine ⟨p, xs, G, rfl, .inl hx, v, fun J W => ?_⟩
    refine for_it W (fun i σ H2 => Stop (∃ v1, σ = [some (.ref p), some (.int n), some (.int sh), v1] ∧ H2 = H ∧ meets (ss.take i) n sh = true)) (.go ⟨none, rfl, rfl, rfl⟩) (fun i σ H2 _ I => by obtain ⟨_, _, e, _⟩ := I.out; rw [e]; exact v) ?_ ?_
    · rintro i x σ H2 _ hi I ⟨rfl, hxi⟩
      obtain ⟨v1, rfl, rfl, hm⟩ := I.out
      obtain ⟨c, t, hc, rfl, st, _⟩ := pairs_get hd hxi
      have st' := SqT.same st v
      walk_at "rd"
      walk_at "br"
      · rename_i hb
        walk_at "rd"
        have e : meets ss n sh = false := by
          unfold meets
          rw [List.all_eq_false]
          exact ⟨c, List.mem_of_getElem? hc, by simpa using hb⟩
        rw [e] at k
        exact k
      · rename_i hb
        refine .go ⟨_, rfl, rfl, ?_⟩
        rw [take_one hc]
        unfold meets at *
        rw [List.all_append, hm]
        simpa using hb
    · rintro σ H2 I
      obtain ⟨v1, rfl, rfl, hm⟩ := I.out
      walk_at "rd"
      rw [List.take_of_length_le (by omega)] at hm
      rw [hm] at k
      exact k
def spIsRow : Sp := fun vs H Q _ => ∃ (t p : Addr) (ro : List (Option Int)), vs = [.ref t, .ref p] ∧ H t = some (.tup (ro.map oV)) ∧ SqL K H p (ro.map oV) ∧ ro.length ≤ 1000 ∧ Q (.bl true) H
theorem sc__law_is_row : FnScope ["_law_told", "_law_due", "_law_k"] ["_law_told", "_law_due"] (defScope s__law_is_row) := ⟨rfl, rfl, rfl, by decide +kernel, rfl, by decide +kernel, by decide +kernel⟩
theorem ok__law_is_row (T : Txt K mg D) : FnOk P w K mg base CX0 3 D.a__law_is_row D.d__law_is_row ["_law_told", "_law_due"] (spIsRow (K := K)) := by
  have G__law_is_number := ok__law_is_number (P := P) (w := w) (base := base) T
  refine T.F__law_is_row.ok sc__law_is_row (fun vs H Q E h => ?_) (fun cdv A outer s H vs Q E hr h => ?_)
  · obtain ⟨t, p, ro, rfl, _⟩ := h
    rfl
  · obtain ⟨t, p, ro, rfl, ht, hp, hl, k⟩ := h
    refine ⟨_, (pss_cons (ps_if (PW.pt (pw_or (pt_not (pt_val (pe_callB call_isi (by rfl) T.n_isinstance (by decide +kernel) (pa_cons (pv 0) (pa_cons (pe_bltn (v := .ty "tuple") (u := .type "tuple") (by rfl) T.n_tuple (by decide +kernel) rfl) pa_nil))))) (pw_or1 (pt_cmpR op_ne (pe_callB call_len_seq (by rfl) T.n_len (by decide +kernel) (pa_cons (pv 0) pa_nil)) (pe_callB call_len_seq (by rfl) T.n_len (by decide +kernel) (pa_cons (pv 1) pa_nil)) (nomark _)))))
      (pss_one (ps_ret pe_bl))
      pss_nil)
      (pss_cons (ps_for PassesOwn.never rfl (pi_range1 (by rfl) T.n_range (pa_cons (pe_callB call_len_seq (by rfl) T.n_len (by decide +kernel) (pa_cons (pv 1) pa_nil)) pa_nil)) (pg_name (i := 2) sc__law_is_row.nd rfl (Or.inl rfl))
      (pss_one (ps_if (pt_cmpR op_isN (pe_ix ix_list (pv 1) (pv 2) (fun _ _ => rfl)) pe_non (nomark _))
      (pss_one (ps_if (pt_cmpR op_notN (pe_ix ix_tup (pv 0) (pv 2) (fun _ _ => rfl)) pe_non (nomark _))
      (pss_one (ps_ret pe_bl))
      pss_nil))
      (pss_one (ps_if (PW.pt (pw_or (pt_not (pt_val (pe_call G__law_is_number (hr.mono (by decide)) (by rfl) T.g__law_is_number T.F__law_is_number.kp T.b__law_is_number .nil pass0 (pa_cons (pe_ix ix_tup (pv 0) (pv 2) (fun _ _ => rfl)) pa_nil)))) (pw_or1 (pt_cmpR op_ne (pe_ix ix_tup (pv 0) (pv 2) (fun _ _ => rfl)) (pe_ix ix_list (pv 1) (pv 2) (fun _ _ => rfl)) (nomark _)))))
      (pss_one (ps_ret pe_bl))
      pss_nil)))))
      (pss_one (ps_ret pe_bl)))), ?_⟩
    obtain ⟨ds, hds⟩ : ∃ ds, ds = ro.map oV := ⟨_, rfl⟩
    have hdl : ds.length = ro.length := by rw [hds, List.length_map]
    rw [← hds] at hp
    walk_at "rd"
    refine ⟨_, _, _, _, true, rfl, .ty "tuple", .base (.tup ht), kit_ty (by decide +kernel), ?_⟩
    walk_at "rd"
    refine ifF (by simp [hdl]) ?_
    walk_at "rd"
    refine ⟨by omega, by omega, ?_⟩
    refine for_range (fun i σ H2 => Stop (∃ (v1 : Option V), σ = [some (.ref t), some (.ref p), v1] ∧ H2 = H)) (.go ⟨none, rfl, rfl⟩) ?_ ?_
    · intro i σ H2 hi hm
      obtain ⟨v1, rfl, rfl⟩ := hm.out
      have hi2 : i < (ro.map oV).length := by rw [List.length_map]; omega
      obtain ⟨y, hy, e⟩ := row_at (List.getElem?_eq_getElem hi2)
      have ay : atI (ro.map oV) (0 + (i : Int)) = some (oV y) := by
        rw [Int.zero_add]
        exact atI_nat (by rw [List.getElem?_map, hy]; rfl)
      have ad : atI ds (0 + (i : Int)) = some (oV y) := by rw [hds]; exact ay
      have ht' := SqT.of (K := K) ht
      cases y with
      | none =>
        simp only [oV] at *
        walk_at "rd"
        exact .go ⟨_, rfl, rfl⟩
      | some z =>
        simp only [oV] at *
        walk_at "rd"
        refine ifF (by simp) ?_
        exact .go ⟨_, rfl, rfl⟩
    · intro σ H2 hm
      obtain ⟨v1, rfl, rfl⟩ := hm.out
      walk_at "rd"
      exact k
def spIsList : Sp := fun vs H Q _ => ∃ (G : Hp) (p q : Addr) (cs : List (Int × Int)), vs = [.ref p, .ref q] ∧ LstD K G p cs ∧ LstD K G q cs ∧ Same G H ∧ Q (.bl true) H
theorem sc__law_is_list : FnScope ["_law_told", "_law_due", "_law_one"] ["_law_told", "_law_due"] (defScope s__law_is_list) := ⟨rfl, rfl, rfl, by decide +kernel, rfl, by decide +kernel, by decide +kernel⟩
theorem ok__law_is_list (T : Txt K mg D) : FnOk P w K mg base CX0 3 D.a__law_is_list D.d__law_is_list ["_law_told", "_law_due"] (spIsList (K := K)) := by
  have G__law_is_number := ok__law_is_number (P := P) (w := w) (base := base) T
  refine T.F__law_is_list.ok sc__law_is_list (fun vs H Q E h => ?_) (fun cdv A outer s H vs Q E hr h => ?_)
  · obtain ⟨G, p, q, cs, rfl, _⟩ := h
    rfl
  · obtain ⟨G, p, q, cs, rfl, ⟨xs, hx, hd⟩, ⟨ys, hy, he⟩, v, k⟩ := h
    refine ⟨_, (pss_cons (ps_if (PW.pt (pw_or (pt_not (pt_val (pe_callB call_isi (by rfl) T.n_isinstance (by decide +kernel) (pa_cons (pv 0) (pa_cons (pe_bltn (v := .ty "list") (u := .type "list") (by rfl) T.n_list (by decide +kernel) rfl) pa_nil))))) (pw_or1 (pt_cmpR op_ne (pe_callB call_len_seq (by rfl) T.n_len (by decide +kernel) (pa_cons (pv 0) pa_nil)) (pe_callB call_len_seq (by rfl) T.n_len (by decide +kernel) (pa_cons (pv 1) pa_nil)) (nomark _)))))
      (pss_one (ps_ret pe_bl))
      pss_nil)
      (pss_cons (ps_for PassesOwn.never rfl (XR.pi_sq (pv 0)) (pg_name (i := 2) sc__law_is_list.nd rfl (Or.inl rfl))
      (pss_cons (ps_if (PW.pt (pw_or (pt_not (pt_val (pe_callB call_isi (by rfl) T.n_isinstance (by decide +kernel) (pa_cons (pv 2) (pa_cons (pe_bltn (v := .ty "tuple") (u := .type "tuple") (by rfl) T.n_tuple (by decide +kernel) rfl) pa_nil))))) (pw_or1 (pt_cmpR op_ne (pe_callB call_len_seq (by rfl) T.n_len (by decide +kernel) (pa_cons (pv 2) pa_nil)) pe_int (nomark _)))))
      (pss_one (ps_ret pe_bl))
      pss_nil)
      (pss_one (ps_if (PW.pt (pw_or (pt_not (pt_val (pe_call G__law_is_number (hr.mono (by decide)) (by rfl) T.g__law_is_number T.F__law_is_number.kp T.b__law_is_number .nil pass0 (pa_cons (pe_ix ix_tup (pv 2) pe_int (fun _ _ => rfl)) pa_nil)))) (pw_or1 (pt_not (pt_val (pe_call G__law_is_number (hr.mono (by decide)) (by rfl) T.g__law_is_number T.F__law_is_number.kp T.b__law_is_number .nil pass0 (pa_cons (pe_ix ix_tup (pv 2) pe_int (fun _ _ => rfl)) pa_nil)))))))
      (pss_one (ps_ret pe_bl))
      pss_nil))))
      (pss_one (ps_ret (pe_cmpR (op_eqD hr.units) (pv 0) (pv 1) (nomark _)))))), ?_⟩
    have hl := XR.DpAll.length hd
    have hl' := XR.DpAll.length he
    have hx' := SqL.same hx v
    have hy' := SqL.same hy v
    walk_at "rd"
    refine ⟨_, _, _, _, true, rfl, .ty "list", tyL hx', kit_ty (by decide +kernel), ?_⟩
    walk_at "rd"
    refine ifF (by simp [hl, hl']) ?_
    walk_at "rd"
    refine ⟨p, xs, G, rfl, .inl hx, v, fun J W => ?_⟩
    refine for_it W (fun i σ H2 => Stop (∃ v1, σ = [some (.ref p), some (.ref q), v1] ∧ H2 = H)) (.go ⟨none, rfl, rfl⟩) (fun i σ H2 _ I => by obtain ⟨_, _, e⟩ := I.out; rw [e]; exact v) ?_ ?_
    · rintro i x σ H2 _ hi I ⟨rfl, hxi⟩
      obtain ⟨v1, rfl, rfl⟩ := I.out
      obtain ⟨c, t, hc, rfl, st, _⟩ := pairs_get hd hxi
      have st' := SqT.same st v
      walk_at "rd"
      refine ⟨_, _, _, _, true, rfl, .ty "tuple", tyT st', kit_ty (by decide +kernel), ?_⟩
      walk_at "rd"
      exact .go ⟨_, rfl, rfl⟩
    · rintro σ H2 I
      obtain ⟨v1, rfl, rfl⟩ := I.out
      walk_at "rd"
      refine ⟨.list (pDs cs), .list (pDs cs), .lst hx' (DpAll.same v hd), .lst hy' (DpAll.same v he), shaped_pDs cs, shaped_pDs cs, ?_⟩
      rw [eqv_pDs]
      exact k
def spOpenRow : Sp := fun vs H Q _ => ∃ (t : Addr) (ro : List (Option Int)), vs = [.ref t] ∧ H t = some (.tup (ro.map oV)) ∧ ro.length ≤ 1000 ∧ Q (.bl (opn ro)) H
theorem sc__law_open_row : FnScope ["_law_row", "_law_one"] ["_law_row"] (defScope s__law_open_row) := ⟨rfl, rfl, rfl, by decide +kernel, rfl, by decide +kernel, by decide +kernel⟩
theorem ok__law_open_row (T : Txt K mg D) : FnOk P w K mg base CX0 1 D.a__law_open_row D.d__law_open_row ["_law_row"] spOpenRow := by
  refine T.F__law_open_row.ok sc__law_open_row (fun vs H Q E h => ?_) (fun cdv A outer s H vs Q E hr h => ?_)
  · obtain ⟨t, ro, rfl, _⟩ := h
    rfl
  · obtain ⟨t, ro, rfl, ht, hl, k⟩ := h
    refine ⟨_, (pss_cons (ps_for PassesOwn.never rfl (XR.pi_sq (pv 0)) (pg_name (i := 1) sc__law_open_row.nd rfl (Or.inl rfl))
      (pss_one (ps_if (PW.pt (pw_or (pt_cmpR op_isN (pv 1) pe_non (nomark _)) (pw_or1 (pt_cmpR op_ne (pv 1) (pe_ix ix_tup (pv 0) pe_int (fun _ _ => rfl)) (nomark _)))))
      (pss_one (ps_ret pe_bl))
      pss_nil)))
      (pss_one (ps_ret pe_bl))), ?_⟩
    have ht' := SqT.of (K := K) ht
    walk_at "rd"
    refine ⟨t, _, H, rfl, .inr ht', Same.refl H, fun J W => ?_⟩
    refine for_it W (fun i σ H1 => Stop (∃ v1, σ = [some (.ref t), v1] ∧ H1 = H ∧ (∀ (j : Nat) x, j < i → ro[j]? = some x → x ≠ none) ∧ ∀ (j : Nat) x, j < i → ro[j]? = some x → ∀ y, ro[0]? = some y → y ≠ none → x ≠ none → x = y)) (.go ⟨none, rfl, rfl, fun j x hj => absurd hj (Nat.not_lt_zero _), fun j x hj => absurd hj (Nat.not_lt_zero _)⟩) (fun i σ H1 _ I => by obtain ⟨_, _, e, _⟩ := I.out; rw [e]; exact Same.refl H) ?_ ?_
    · rintro i x σ H1 _ hi I ⟨rfl, ey⟩
      obtain ⟨v1, rfl, rfl, h1, h2⟩ := I.out
      obtain ⟨y, hy, rfl⟩ := row_at ey
      cases y with
      | none =>
        simp only [oV] at *
        walk_at "rd"
        rw [opn_two hy] at k
        exact k
      | some z =>
        cases ro with
        | nil => cases hy
        | cons y0 r =>
        cases y0 with
        | none =>
          cases i with
          | zero => cases hy
          | succ i => exact absurd rfl (h1 0 none (by omega) rfl)
        | some z0 =>
          simp only [oV, List.map_cons] at *
          walk_at "rd"
          walk_at "br"
          · rename_i hb
            walk_at "rd"
            rw [opn_one hy (by simp) (by simpa using hb)] at k
            exact k
          · rename_i hb
            refine .go ⟨_, rfl, rfl, fun j x hj hx => ?_, fun j x hj hx => ?_⟩
            · by_cases e : j = i
              · subst e
                rw [hy] at hx
                cases hx
                simp
              · exact h1 j x (by omega) hx
            · by_cases e : j = i
              · subst e
                rw [hy] at hx
                cases hx
                intro y e
                cases e
                simpa using hb
              · exact h2 j x (by omega) hx
    · rintro σ H1 I
      obtain ⟨v1, rfl, rfl, h1, h2⟩ := I.out
      rw [List.length_map] at h1 h2
      walk_at "rd"
      rw [opn_all (fun j x hx => h1 j x (List.getElem?_eq_some_iff.mp hx).1 hx) fun j x hx => h2 j x (List.getElem?_eq_some_iff.mp hx).1 hx] at k
      exact k
def opnD (ss : List (Int × Int)) (n d : Int) : Bool := ss.all (fun c => decide (c.2 < n)) && decide (d % n = 0)
def spOpenDiv : Sp := fun vs H Q _ => ∃ (G : Hp) (p : Addr) (ss : List (Int × Int)) (n d : Int), vs = [.ref p, .int n, .int d] ∧ LstD K G p ss ∧ Same G H ∧ 1 ≤ n ∧ n ≤ 120 ∧ Q (.bl (opnD ss n d)) H
theorem sc__law_open_divisor : FnScope ["_law_sightings_here", "_law_size", "_law_divisor_here", "_law_one"] ["_law_sightings_here", "_law_size", "_law_divisor_here"] (defScope s__law_open_divisor) := ⟨rfl, rfl, rfl, by decide +kernel, rfl, by decide +kernel, by decide +kernel⟩
theorem ok__law_open_divisor (T : Txt K mg D) : FnOk P w K mg base CX0 1 D.a__law_open_divisor D.d__law_open_divisor ["_law_sightings_here", "_law_size", "_law_divisor_here"] (spOpenDiv (K := K)) := by
  refine T.F__law_open_divisor.ok sc__law_open_divisor (fun vs H Q E h => ?_) (fun cdv A outer s H vs Q E hr h => ?_)
  · obtain ⟨G, p, ss, n, d, rfl, _⟩ := h
    rfl
  · obtain ⟨G, p, ss, n, d, rfl, ⟨xs, hx, hd⟩, v, n1, n2, k⟩ := h
    refine ⟨_, (pss_cons (ps_for PassesOwn.never rfl (XR.pi_sq (pv 0)) (pg_name (i := 3) sc__law_open_divisor.nd rfl (Or.inl rfl))
      (pss_one (ps_if (pt_cmpR op_le (pv 1) (pe_ix ix_tup (pv 3) pe_int (fun _ _ => rfl)) (nomark _))
      (pss_one (ps_ret pe_bl))
      pss_nil)))
      (pss_one (ps_ret (pe_cmpR op_eq (pe_op op_mod (pe_callTy call_int1 (by rfl) T.n_int (by decide +kernel) (pa_cons (pv 2) pa_nil)) (pv 1)) pe_int (nomark _))))), ?_⟩
    have hlen := XR.DpAll.length hd
    rw [List.length_map] at hlen
    walk_at "rd"
    refine ⟨p, xs, G, rfl, .inl hx, v, fun J W => ?_⟩
    refine for_it W (fun i σ H2 => Stop (∃ v1, σ = [some (.ref p), some (.int n), some (.int d), v1] ∧ H2 = H ∧ (ss.take i).all (fun c => decide (c.2 < n)) = true)) (.go ⟨none, rfl, rfl, rfl⟩) (fun i σ H2 _ I => by obtain ⟨_, _, e, _⟩ := I.out; rw [e]; exact v) ?_ ?_
    · rintro i x σ H2 _ hi I ⟨rfl, hxi⟩
      obtain ⟨v1, rfl, rfl, hm⟩ := I.out
      obtain ⟨c, t, hc, rfl, st, _⟩ := pairs_get hd hxi
      have st' := SqT.same st v
      walk_at "rd"
      walk_at "br"
      · rename_i hb
        walk_at "rd"
        have e : opnD ss n d = false := by
          unfold opnD
          have : ss.all (fun c => decide (c.2 < n)) = false := by
            rw [List.all_eq_false]
            exact ⟨c, List.mem_of_getElem? hc, by simp; omega⟩
          rw [this]
          rfl
        rw [e] at k
        exact k
      · rename_i hb
        refine .go ⟨_, rfl, rfl, ?_⟩
        rw [take_one hc, List.all_append, hm]
        simp
        omega
    · rintro σ H2 I
      obtain ⟨v1, rfl, rfl, hm⟩ := I.out
      walk_at "rd"
      rw [List.take_of_length_le (by omega)] at hm
      unfold opnD at k
      rw [hm, Bool.true_and] at k
      have kk : ∀ z : Bool, z = decide (d % n = 0) → Q (.bl z) H2 := fun z e => e ▸ k
      exact kk _ (by simp)
end
end Toy
set_option Elab.async false
set_option linter.all false
set_option maxRecDepth 100000
set_option maxHeartbeats 4000000
namespace Toy
open PySem L2 XR
local macro_rules | `(tactic| walk_at "ne") => `(tactic| first | assumption | (apply Ne.symm; assumption) | exact XR.ne_fresh (by assumption) (by walk_at "hp") | exact Ne.symm (XR.ne_fresh (by assumption) (by walk_at "hp")))
local macro_rules | `(tactic| walk_at "hp") => `(tactic| first | assumption | exact upd_same | (refine Eq.trans (upd_ne ?_) ?_; (walk_at "ne"); walk_at "hp"))
local macro_rules | `(tactic| walk_at "sq") => `(tactic| first | walk_at "hp" | exact SqL.of (by walk_at "hp") | exact SqT.of (by walk_at "hp") | exact XR.SqT.same (by assumption) (by assumption) | exact XR.SqL.same (by assumption) (by assumption))
local macro_rules | `(tactic| walk_at "br") => `(tactic| (refine ite2 ?_ ?_ <;> intro hbr <;> (try simp only [decide_eq_true_eq, decide_eq_false_iff_not, V.int.injEq, V.bl.injEq, V.str.injEq, Bool.not_eq_true, Bool.not_eq_eq_eq_not, Bool.not_true, Bool.not_false, ne_eq, Int.reduceToNat, Int.reducePow, Int.reduceMul, Int.reduceAdd, Int.reduceSub, reduceCtorEq, not_true_eq_false, not_false_eq_true, Int.not_lt, Int.not_le] at hbr)))
local macro_rules | `(tactic| walk_at "side") => `(tactic| first
  | exact ⟨by decide, by decide, by decide⟩
  | exact .inl ⟨by decide, by decide⟩
  | exact .inr ⟨by decide, by decide⟩
  | exact XR.divw (by first | decide | omega) (by first | decide | omega)
  | (show (_ : Int) = _; first | rfl | omega)
  | (show (0 : Int) < _; first | decide | assumption | omega)
  | exact .inl ⟨by omega, by omega⟩
  | exact .inr ⟨by omega, by omega⟩
  | exact .inl (XR.cmul_mod (by decide))
  | exact XR.log_lt (by omega) (by omega)
  | decide
  | (rw [sizeLine_eq]; simp; done)
  | (show 2 ≤ sizeLine; decide) | (show 3 ≤ sizeLine; decide) | (show 4 ≤ sizeLine; decide) | (show 5 ≤ sizeLine; decide) | (show 6 ≤ sizeLine; decide) | (show 7 ≤ sizeLine; decide) | (show 1 ≤ sizeLine; decide) | (show 8 ≤ sizeLine; decide) | (show 0 ≤ sizeLine; decide))
local macro_rules | `(tactic| walk_at "rd1") => `(tactic| first
  | refine ⟨_, rfl, ?_⟩
  | refine ⟨_, _, rfl, rfl, ?_⟩
  | refine ⟨_, _, _, _, rfl, rfl, (by walk_at "sq"), rfl, ?_⟩
  | refine ⟨_, _, _, _, rfl, rfl, (by walk_at "hp"), (by walk_at "hp"), (by walk_at "side"), ?_⟩
  | refine ⟨_, _, rfl, .inl (by walk_at "sq"), ?_⟩
  | refine ⟨_, _, rfl, .inl ⟨(by walk_at "sq"), ?_⟩⟩
  | refine ⟨_, _, rfl, .inr (by walk_at "sq"), ?_⟩
  | refine ⟨_, _, _, _, _, rfl, (by walk_at "hp"), (by walk_at "cls"), (by walk_at "noat"), rfl, ?_⟩
  | refine ⟨_, _, _, _, rfl, rfl, (by walk_at "sq"), (by first | assumption | exact XR.at0 | exact XR.at1), ?_⟩
  | refine ⟨rfl, ?_⟩
  | refine And.intro (by walk_at "side") ?_
  | refine .inl ⟨_, rfl, ?_⟩
  | refine And.intro ⟨_, (by walk_at "sq")⟩ ?_
  | refine ⟨_, _, rfl, (by walk_at "sq"), ?_⟩
  | refine ⟨_, _, rfl, ?_⟩
  | refine .inr ⟨_, rfl, (by walk_at "side"), ?_⟩
  | refine iteT ?_
  | refine iteF ?_)
local macro_rules | `(tactic| walk_at "rd") => `(tactic| repeat (walk_at "rd1"))
local macro_rules | `(tactic| walk_at "nn") => `(tactic| (simp only [Int.reduceToNat, Int.reducePow, Int.reduceMul, Int.reduceAdd, Int.reduceSub, Int.reduceNeg]))
local macro_rules | `(tactic| walk_at "dr") => `(tactic| repeat (first | refine And.intro (by first | assumption | walk_at "pre") ?_ | refine And.intro (by first | decide | omega) ?_))
local macro_rules | `(tactic| walk_at "pre") => `(tactic| first | assumption | exact BoxAt.new (by walk_at "pre") (by assumption) | exact BoxAt.same (by walk_at "pre") (by assumption))
section
variable {P : Program} {w : World} {K : PySem.W.Frag} {mg : Str → Option Value} {base : Heap} {D : Ad}
/-! ### the arithmetic -/
theorem shift_iff {c : Int × Int} {n j : Int} (h0 : 0 ≤ j) (h1 : j < n) (hc : 0 ≤ c.2) : (c.1 + j) % n = c.2 ↔ dm c n = some j := by
  unfold dm
  have m0 := Int.emod_nonneg (c.1 + j) (b := n) (by omega)
  have m1 := Int.emod_lt_of_pos (c.1 + j) (b := n) (by omega)
  split
  · constructor
    · omega
    · intro h; cases h
  · rename_i hb
    constructor
    · intro h
      rw [← h]
      congr 1
      have e := Int.emod_add_mul_ediv (c.1 + j) n
      have e2 : (c.1 + j) % n - c.1 = j + n * (-((c.1 + j) / n)) := by rw [Int.mul_neg]; omega
      rw [e2, Int.add_mul_emod_self_left]
      exact Int.emod_eq_of_lt h0 h1
    · intro h
      have h' : (c.2 - c.1) % n = j := Option.some.inj h
      rw [← h', Int.add_emod, Int.emod_emod_of_dvd _ (Int.dvd_refl n), ← Int.add_emod, show c.1 + (c.2 - c.1) = c.2 by omega]
      exact Int.emod_eq_of_lt hc (by omega)
theorem meets_iff {ss : List (Int × Int)} {n j : Int} (h0 : 0 ≤ j) (h1 : j < n) (ok : ∀ c ∈ ss, OkC c) : meets ss n j = true ↔ ∀ x ∈ row ss n, x = some j := by
  unfold meets row
  rw [List.all_eq_true]
  constructor
  · intro h x hx
    obtain ⟨c, hc, rfl⟩ := List.mem_map.mp hx
    exact (shift_iff h0 h1 (ok c hc).2.2.1).mp (by simpa using h c hc)
  · intro h c hc
    have := (shift_iff h0 h1 (ok c hc).2.2.1).mpr (h _ (List.mem_map.mpr ⟨c, hc, rfl⟩))
    simpa using this
def triedR (ss : List (Int × Int)) (n : Int) (i : Nat) : List (Int × Int) := (List.range i).filterMap fun (j : Nat) => if meets ss n (j : Int) then some (n, (j : Int)) else none
theorem tried_len (ss : List (Int × Int)) (n : Int) (i : Nat) : (triedR ss n i).length ≤ i := by
  have := List.length_filterMap_le (fun (j : Nat) => if meets ss n (j : Int) then some (n, (j : Int)) else none) (List.range i)
  rw [List.length_range] at this
  exact this
theorem tried_succ (ss : List (Int × Int)) (n : Int) (i : Nat) : triedR ss n (i + 1) = triedR ss n i ++ (if meets ss n (i : Int) then [(n, (i : Int))] else []) := by
  unfold triedR
  rw [List.range_succ, List.filterMap_append]
  congr 1
  cases h : meets ss n (i : Int) <;> simp [h]
theorem tried_one {ss : List (Int × Int)} {n z : Int} {N : Nat} (h : ∀ j : Nat, j < N → (meets ss n (j : Int) = true ↔ (j : Int) = z)) (hz : 0 ≤ z) : ∀ i : Nat, i ≤ N → triedR ss n i = if z < (i : Int) then [(n, z)] else []
  | 0, _ => by rw [if_neg (by omega)]; rfl
  | i + 1, hi => by
    rw [tried_succ, tried_one h hz i (by omega)]
    have hh := h i (by omega)
    by_cases e : (i : Int) = z
    · rw [if_pos (hh.mpr e), if_neg (by omega), if_pos (by omega), e]
      rfl
    · rw [if_neg (fun q => e (hh.mp q)), List.append_nil]
      by_cases l : z < (i : Int)
      · rw [if_pos l, if_pos (by omega)]
      · rw [if_neg l, if_neg (by omega)]
theorem tried_none {ss : List (Int × Int)} {n : Int} {N : Nat} (h : ∀ j : Nat, j < N → meets ss n (j : Int) = false) : ∀ i : Nat, i ≤ N → triedR ss n i = []
  | 0, _ => rfl
  | i + 1, hi => by rw [tried_succ, tried_none h i (by omega), h i (by omega)]; rfl
theorem opn_iff {c : Int × Int} {r : List (Int × Int)} {n : Int} : opn (row (c :: r) n) = true ↔ ∃ z, ∀ x ∈ row (c :: r) n, x = some z := by
  unfold row
  rw [List.map_cons]
  cases e : dm c n with
  | none =>
    constructor
    · intro h; cases h
    · rintro ⟨z, h⟩
      have := h none List.mem_cons_self
      cases this
  | some z =>
    show (List.map _ r).all (fun x => x == some z) = true ↔ _
    rw [List.all_eq_true]
    constructor
    · intro h
      refine ⟨z, fun x hx => ?_⟩
      rcases List.mem_cons.mp hx with q | q
      · exact q
      · simpa using h x q
    · rintro ⟨z', h⟩ x hx
      have h1 := h (some z) List.mem_cons_self
      have h2 := h x (List.mem_cons_of_mem _ hx)
      rw [h2, ← h1]
      simp
theorem tried_piece {ss : List (Int × Int)} {n : Int} (hn : 1 ≤ n) (ok : ∀ c ∈ ss, OkC c) : triedR ss n n.toNat = piece ss n := by
  cases ss with
  | nil =>
    show _ = cycRow n
    unfold triedR cycRow
    rw [← List.filterMap_eq_map]
    congr 1
  | cons c r =>
    show _ = if opn (row (c :: r) n) then [(n, (df c) % n)] else []
    cases e : opn (row (c :: r) n) with
    | true =>
      obtain ⟨z, hz⟩ := opn_iff.mp e
      have eh := opn_head e
      have e1 : dm c n = some z := hz _ List.mem_cons_self
      have e2 : z = (df c) % n := by rw [eh] at e1; exact (Option.some.inj e1).symm
      have z0 : 0 ≤ z := by rw [e2]; exact Int.emod_nonneg _ (by omega)
      have z1 : z < n := by rw [e2]; exact Int.emod_lt_of_pos _ (by omega)
      rw [tried_one (N := n.toNat) (z := z) (fun j hj => ?_) z0 _ (Nat.le_refl _), if_pos (by omega), ← e2]
      · rfl
      · rw [meets_iff (by omega) (by omega) ok]
        constructor
        · intro h
          have := h _ (List.mem_cons_self)
          rw [hz _ List.mem_cons_self] at this
          exact (Option.some.inj this).symm
        · rintro rfl
          exact hz
    | false =>
      rw [tried_none (N := n.toNat) (fun j hj => ?_) _ (Nat.le_refl _)]
      · rfl
      · rw [← Bool.not_eq_true]
        intro h
        have := (meets_iff (by omega) (by omega) ok).mp h
        rw [opn_iff.mpr ⟨_, this⟩] at e
        cases e
theorem piece_nil {ss : List (Int × Int)} {n : Int} (hn : 1 ≤ n) : decide (piece ss n = []) = !opn (row ss n) := by
  cases ss with
  | nil =>
    show decide (cycRow n = []) = !opn []
    have : cycRow n ≠ [] := by
      unfold cycRow
      intro h
      have := congrArg List.length h
      rw [List.length_map, List.length_range] at this
      simp at this
      omega
    simp [this, opn]
  | cons c r =>
    show decide ((if opn (row (c :: r) n) then [(n, (df c) % n)] else []) = []) = _
    cases opn (row (c :: r) n) <;> simp
theorem gdR_dvd {n : Nat} {z : Int} : ∀ (ss : List (Int × Int)) (d : Nat), n ∣ gdR z ss d ↔ n ∣ d ∧ ∀ c ∈ ss, n ∣ (df c - z).natAbs
  | [], d => by simp [gdR]
  | c :: r, d => by
    show n ∣ gdR z r (Nat.gcd d (df c - z).natAbs) ↔ _
    rw [gdR_dvd r, Nat.dvd_gcd_iff]
    simp [and_assoc]
theorem mod_iff {a b n : Int} (hn : 1 ≤ n) : n.toNat ∣ (a - b).natAbs ↔ a % n = b % n := by
  rw [show n.toNat = n.natAbs by omega, Int.natAbs_dvd_natAbs, Int.emod_eq_emod_iff_emod_sub_eq_zero]
  exact ⟨fun h => Int.emod_eq_zero_of_dvd h, fun h => Int.dvd_of_emod_eq_zero h⟩
theorem opnD_eq {ss : List (Int × Int)} {n : Int} (hn : 1 ≤ n) : opnD ss n ((gd ss : Nat) : Int) = opn (row ss n) := by
  have hd : (((gd ss : Nat) : Int) % n = 0) ↔ n.toNat ∣ gd ss := by
    constructor
    · intro h
      have := Int.dvd_of_emod_eq_zero h
      rw [show n = ((n.toNat : Nat) : Int) by omega] at this
      exact Int.ofNat_dvd.mp this
    · intro h
      have := Int.ofNat_dvd.mpr h
      rw [show ((n.toNat : Nat) : Int) = n by omega] at this
      exact Int.emod_eq_zero_of_dvd this
  unfold gd at hd
  rw [gdR_dvd] at hd
  cases ss with
  | nil => simp [opnD, gd, gdR, opn]
  | cons c r =>
    rw [Bool.eq_iff_iff]
    unfold opnD
    rw [Bool.and_eq_true, List.all_eq_true, decide_eq_true_eq, show (gd (c :: r)) = gdR (d0 (c :: r)) (c :: r) 0 from rfl, hd, opn_iff]
    constructor
    · rintro ⟨h1, _, h2⟩
      refine ⟨(df c) % n, fun x hx => ?_⟩
      obtain ⟨c', hc', rfl⟩ := List.mem_map.mp hx
      have l := h1 c' hc'
      have m := (mod_iff hn).mp (h2 c' hc')
      unfold dm
      rw [if_neg (by simp at l; omega)]
      exact congrArg some m
    · rintro ⟨z, h⟩
      have all : ∀ c' ∈ c :: r, c'.2 < n ∧ (df c') % n = z := fun c' hc' => by
        have e := h _ (List.mem_map.mpr ⟨c', hc', rfl⟩)
        unfold dm at e
        split at e
        · cases e
        · exact ⟨by omega, Option.some.inj e⟩
      refine ⟨fun c' hc' => by simpa using (all c' hc').1, Nat.dvd_zero _, fun c' hc' => (mod_iff hn).mpr ?_⟩
      rw [(all c' hc').2]
      exact (all c List.mem_cons_self).2.symm
end
end Toy
set_option Elab.async false
set_option linter.all false
set_option maxRecDepth 100000
set_option maxHeartbeats 4000000
namespace Toy
open PySem L2 XR
local macro_rules | `(tactic| walk_at "ne") => `(tactic| first | assumption | (apply Ne.symm; assumption) | exact XR.ne_fresh (by assumption) (by walk_at "hp") | exact Ne.symm (XR.ne_fresh (by assumption) (by walk_at "hp")))
local macro_rules | `(tactic| walk_at "hp") => `(tactic| first | assumption | exact upd_same | (refine Eq.trans (upd_ne ?_) ?_; (walk_at "ne"); walk_at "hp"))
local macro_rules | `(tactic| walk_at "sq") => `(tactic| first | walk_at "hp" | exact SqL.of (by walk_at "hp") | exact SqT.of (by walk_at "hp") | exact XR.SqT.same (by assumption) (by assumption) | exact XR.SqL.same (by assumption) (by assumption))
local macro_rules | `(tactic| walk_at "br") => `(tactic| (refine ite2 ?_ ?_ <;> intro hbr <;> (try simp only [decide_eq_true_eq, decide_eq_false_iff_not, V.int.injEq, V.bl.injEq, V.str.injEq, Bool.not_eq_true, Bool.not_eq_eq_eq_not, Bool.not_true, Bool.not_false, ne_eq, Int.reduceToNat, Int.reducePow, Int.reduceMul, Int.reduceAdd, Int.reduceSub, reduceCtorEq, not_true_eq_false, not_false_eq_true, Int.not_lt, Int.not_le] at hbr)))
local macro_rules | `(tactic| walk_at "side") => `(tactic| first
  | exact ⟨by decide, by decide, by decide⟩
  | exact .inl ⟨by decide, by decide⟩
  | exact .inr ⟨by decide, by decide⟩
  | exact XR.divw (by first | decide | omega) (by first | decide | omega)
  | (show (_ : Int) = _; first | rfl | omega)
  | (show (0 : Int) < _; first | decide | assumption | omega)
  | exact .inl ⟨by omega, by omega⟩
  | exact .inr ⟨by omega, by omega⟩
  | exact .inl (XR.cmul_mod (by decide))
  | exact XR.log_lt (by omega) (by omega)
  | decide
  | (rw [sizeLine_eq]; simp; done)
  | (show 2 ≤ sizeLine; decide) | (show 3 ≤ sizeLine; decide) | (show 4 ≤ sizeLine; decide) | (show 5 ≤ sizeLine; decide) | (show 6 ≤ sizeLine; decide) | (show 7 ≤ sizeLine; decide) | (show 1 ≤ sizeLine; decide) | (show 8 ≤ sizeLine; decide) | (show 0 ≤ sizeLine; decide))
local macro_rules | `(tactic| walk_at "rd1") => `(tactic| first
  | refine ⟨_, rfl, ?_⟩
  | refine ⟨_, _, rfl, rfl, ?_⟩
  | refine ⟨_, _, _, _, rfl, rfl, (by walk_at "sq"), rfl, ?_⟩
  | refine ⟨_, _, _, _, rfl, rfl, (by walk_at "hp"), (by walk_at "hp"), (by walk_at "side"), ?_⟩
  | refine ⟨_, _, rfl, .inl (by walk_at "sq"), ?_⟩
  | refine ⟨_, _, rfl, .inl ⟨(by walk_at "sq"), ?_⟩⟩
  | refine ⟨_, _, rfl, .inr (by walk_at "sq"), ?_⟩
  | refine ⟨_, _, _, _, _, rfl, (by walk_at "hp"), (by walk_at "cls"), (by walk_at "noat"), rfl, ?_⟩
  | refine ⟨_, _, _, _, rfl, rfl, (by walk_at "sq"), (by first | assumption | exact XR.at0 | exact XR.at1), ?_⟩
  | refine ⟨rfl, ?_⟩
  | refine And.intro (by walk_at "side") ?_
  | refine .inl ⟨_, rfl, ?_⟩
  | refine And.intro ⟨_, (by walk_at "sq")⟩ ?_
  | refine ⟨_, _, rfl, (by walk_at "sq"), ?_⟩
  | refine ⟨_, _, rfl, ?_⟩
  | refine .inr ⟨_, rfl, (by walk_at "side"), ?_⟩
  | refine iteT ?_
  | refine iteF ?_)
local macro_rules | `(tactic| walk_at "rd") => `(tactic| repeat (walk_at "rd1"))
local macro_rules | `(tactic| walk_at "nn") => `(tactic| (simp only [Int.reduceToNat, Int.reducePow, Int.reduceMul, Int.reduceAdd, Int.reduceSub, Int.reduceNeg]))
local macro_rules | `(tactic| walk_at "dr") => `(tactic| repeat (first | refine And.intro (by first | assumption | walk_at "pre") ?_ | refine And.intro (by first | decide | omega) ?_))
local macro_rules | `(tactic| walk_at "pre") => `(tactic| first | assumption | exact BoxAt.new (by walk_at "pre") (by assumption) | exact BoxAt.same (by walk_at "pre") (by assumption))
section
variable {P : Program} {w : World} {K : PySem.W.Frag} {mg : Str → Option Value} {base : Heap} {D : Ad}
def spAsked : Sp := fun vs H Q _ => ∃ (G : Hp) (p : Addr) (xs : List V) (q tb : Addr) (ss : List (Int × Int)) (lo hi : Int), vs = [.ref p, .ref q, .ref tb] ∧ SqA K G p xs ∧ DpAll K G xs (pDs ss) ∧ LstD K G q ss ∧ SqT K G tb [.int lo, .int hi] ∧ Same G H ∧ ss.length ≤ 6 ∧ (∀ c ∈ ss, OkC c) ∧ 1 ≤ lo ∧ lo ≤ 60 ∧ 1 ≤ hi ∧ hi ≤ 60 ∧ ∀ H', Same H H' → Q (.bl true) H'
theorem fit_lenA {ss : List (Int × Int)} {lo : Int} (h1 : 1 ≤ lo) (h2 : lo ≤ 60) (k : Nat) (hk : k ≤ 60) : (fit ss lo k).length ≤ 120 * k := by
  cases ss with
  | nil => rw [fit_nil]; exact cycs_len h1 h2 k hk
  | cons c r => have := fit_len (ss := c :: r) (by simp) (lo := lo) k; omega
theorem sc__law_asked : FnScope ["_law_given", "_law_sightings_here", "_law_bounds_here", "_law_divisor_here", "_law_due", "_law_size", "_law_row", "_law_tried", "_law_shift", "_law_one"] ["_law_given", "_law_sightings_here", "_law_bounds_here"] (defScope s__law_asked) := ⟨rfl, rfl, rfl, by decide +kernel, rfl, by decide +kernel, by decide +kernel⟩
theorem ok__law_asked (T : Txt K mg D) : FnOk P w K mg base CX0 7 D.a__law_asked D.d__law_asked ["_law_given", "_law_sightings_here", "_law_bounds_here"] (spAsked (K := K)) := by
  have G__law_is_list := ok__law_is_list (P := P) (w := w) (base := base) T
  have G_fitting_cycles := ok_fitting_cycles (P := P) (w := w) (base := base) T
  have G__law_open_divisor := ok__law_open_divisor (P := P) (w := w) (base := base) T
  have G__law_open_row := ok__law_open_row (P := P) (w := w) (base := base) T
  have G__law_meets := ok__law_meets (P := P) (w := w) (base := base) T
  have G__law_is_row := ok__law_is_row (P := P) (w := w) (base := base) T
  have G__law_demand := ok__law_demand (P := P) (w := w) (base := base) T
  have G_remainder_row := ok_remainder_row (P := P) (w := w) (base := base) T
  have G__law_divisor := ok__law_divisor (P := P) (w := w) (base := base) T
  have G__law_is_number := ok__law_is_number (P := P) (w := w) (base := base) T
  have G_common_divisor := ok_common_divisor (P := P) (w := w) (base := base) T
  refine T.F__law_asked.ok sc__law_asked (fun vs H Q E h => ?_) (fun cdv A outer s H vs Q E hr h => ?_)
  · obtain ⟨G, p, xs, q, tb, ss, lo, hi, rfl, _⟩ := h
    rfl
  · obtain ⟨G, p, xs, q, tb, ss, lo, hi, rfl, hx, hd, hq, ht, v, hl, ok, l1, l2, h1, h2, k⟩ := h
    refine ⟨_, (pss_cons (ps_set (i := 3) sc__law_asked.nd rfl (Or.inl rfl) (pe_call G_common_divisor (hr.mono (by decide)) (by rfl) T.g_common_divisor T.F_common_divisor.kp T.b_common_divisor .nil pass0 (pa_cons (pv 0) pa_nil)))
      (pss_cons (ps_if (PW.pt (pw_or (pt_not (pt_val (pe_call G__law_is_number (hr.mono (by decide)) (by rfl) T.g__law_is_number T.F__law_is_number.kp T.b__law_is_number .nil pass0 (pa_cons (pv 3) pa_nil)))) (pw_or1 (pt_cmpR op_ne (pv 3) (pe_call G__law_divisor (hr.mono (by decide)) (by rfl) T.g__law_divisor T.F__law_divisor.kp T.b__law_divisor .nil pass0 (pa_cons (pv 1) pa_nil)) (nomark _)))))
      (pss_one (ps_ret pe_bl))
      pss_nil)
      (pss_cons (ps_set (i := 4) sc__law_asked.nd rfl (Or.inl rfl) (pe_lst pa_nil))
      (pss_cons (ps_for PassesOwn.never rfl (pi_range2 (by rfl) T.n_range (pa_cons (pe_ix ix_tup (pv 2) pe_int (fun _ _ => rfl)) (pa_cons (pe_op op_add (pe_ix ix_tup (pv 2) pe_int (fun _ _ => rfl)) pe_int) pa_nil))) (pg_name (i := 5) sc__law_asked.nd rfl (Or.inr rfl))
      (pss_cons (ps_set (i := 6) sc__law_asked.nd rfl (Or.inl rfl) (pe_call G_remainder_row (hr.mono (by decide)) (by rfl) T.g_remainder_row T.F_remainder_row.kp T.b_remainder_row .nil pass0 (pa_cons (pv 0) (pa_cons (pv 5) pa_nil))))
      (pss_cons (ps_if (pt_not (pt_val (pe_call G__law_is_row (hr.mono (by decide)) (by rfl) T.g__law_is_row T.F__law_is_row.kp T.b__law_is_row .nil pass0 (pa_cons (pv 6) (pa_cons (pe_lc (own := [("_law_one", 9)]) (g := gName 9) (tt := tYes) (by rfl) sc__law_asked.nd (XR.pi_sq (pv 1)) (blkOk_by (own := [("_law_one", 9)]) (N := ["_law_given", "_law_sightings_here", "_law_bounds_here", "_law_divisor_here", "_law_due", "_law_size", "_law_row", "_law_tried", "_law_shift", "_law_one"]) (sc := defScope s__law_asked) (by decide +kernel)) (fun _ _ _ _ _ => (pg_name (i := 9) sc__law_asked.nd rfl (Or.inl rfl))) (fun _ _ _ _ _ => pts_nil) (fun _ _ _ _ _ => (pe_call G__law_demand (hr.mono (by decide)) (by rfl) T.g__law_demand T.F__law_demand.kp T.b__law_demand .nil pass0 (pa_cons (pv 9) (pa_cons (pv 5) pa_nil))))) pa_nil)))))
      (pss_one (ps_ret pe_bl))
      pss_nil)
      (pss_cons (ps_setLc (i := 7) (own := [("_law_shift", 8)]) (g := gName 8) (by rfl) sc__law_asked.nd rfl rfl (sw_true rfl rfl rfl (by decide +kernel)) (pi_range1 (by rfl) T.n_range (pa_cons (pv 5) pa_nil)) (blkOk_by (own := [("_law_shift", 8)]) (N := ["_law_given", "_law_sightings_here", "_law_bounds_here", "_law_divisor_here", "_law_due", "_law_size", "_law_row", "_law_tried", "_law_shift", "_law_one"]) (sc := defScope s__law_asked) (by decide +kernel)) (fun _ _ _ _ _ => (pg_name (i := 8) sc__law_asked.nd rfl (Or.inl rfl))) (fun _ _ _ _ _ => (pts_one (pt_val (pe_call G__law_meets (hr.mono (by decide)) (by rfl) T.g__law_meets T.F__law_meets.kp T.b__law_meets .nil pass0 (pa_cons (pv 1) (pa_cons (pv 5) (pa_cons (pv 8) pa_nil))))))) (fun _ _ _ _ _ => (pe_tup (pa_cons (pv 5) (pa_cons (pv 8) pa_nil)))))
      (pss_cons (ps_if (pt_cmpR op_ne (pe_call G__law_open_row (hr.mono (by decide)) (by rfl) T.g__law_open_row T.F__law_open_row.kp T.b__law_open_row .nil pass0 (pa_cons (pv 6) pa_nil)) (pe_cmpR (op_neD hr.units) (pv 7) (pe_lst pa_nil) (nomark _)) (nomark _))
      (pss_one (ps_ret pe_bl))
      pss_nil)
      (pss_cons (ps_if (pt_cmpR op_ne (pe_call G__law_open_divisor (hr.mono (by decide)) (by rfl) T.g__law_open_divisor T.F__law_open_divisor.kp T.b__law_open_divisor .nil pass0 (pa_cons (pv 1) (pa_cons (pv 5) (pa_cons (pv 3) pa_nil)))) (pe_cmpR (op_neD hr.units) (pv 7) (pe_lst pa_nil) (nomark _)) (nomark _))
      (pss_one (ps_ret pe_bl))
      pss_nil)
      (pss_one (ps_expr (pe_bm PySem.F.plainAttrs_list PySem.F.slot_list_extend PySem.F.type_list_extend mt_extend (pv 4) (pa_cons (pv 7) pa_nil))))))))))
      (pss_one (ps_ret (pe_call G__law_is_list (hr.mono (by decide)) (by rfl) T.g__law_is_list T.F__law_is_list.kp T.b__law_is_list .nil pass0 (pa_cons (pe_call G_fitting_cycles (hr.mono (by decide)) (by rfl) T.g_fitting_cycles T.F_fitting_cycles.kp T.b_fitting_cycles .nil pass0 (pa_cons (pv 0) (pa_cons (pe_ix ix_tup (pv 2) pe_int (fun _ _ => rfl)) (pa_cons (pe_ix ix_tup (pv 2) pe_int (fun _ _ => rfl)) pa_nil)))) (pa_cons (pv 4) pa_nil))))))))), ?_⟩
    walk_at "rd"
    refine ⟨G, p, xs, ss, rfl, hx, hd, v, by omega, fun H1 x1 => ?_⟩
    have v1 := v.trans x1
    walk_at "rd"
    refine ⟨G, q, ss, rfl, hq, v1, ?_⟩
    walk_at "rd"
    refine ifF (by simp) ?_
    walk_at "rd"
    intro dl hdl
    have ht1 : SqT K (L2.upd H1 dl (.lst [])) tb [.int lo, .int hi] := SqT.same ht (v1.trans (Same.add hdl))
    walk_at "rd"
    refine ⟨⟨by omega, by omega, by omega, by omega⟩, ?_⟩
    refine for_range (fun i σ H2 => Stop (∃ (w1 w2 w3 : Option V) (G' : Hp) (acc : List V), σ = [some (.ref p), some (.ref q), some (.ref tb), some (.int ((gd ss : Nat) : Int)), some (.ref dl), w1, w2, w3, none, none] ∧ Grow K G H1 dl (pDs (fit ss lo i)) G' H2 acc)) (.go ⟨none, none, none, _, _, rfl, Grow.start v1 hdl⟩) ?_ ?_
    · intro i σ H2 hi2 hm
      obtain ⟨w1, w2, w3, G2, acc, rfl, g⟩ := hm.out
      have n1 : 1 ≤ lo + (i : Int) := by omega
      have n2 : lo + (i : Int) ≤ 120 := by omega
      have v2 : Same G H2 := g.vv
      walk_at "rd"
      refine ⟨G, p, xs, ss, _, rfl, hx, hd, v2, n1, by omega, by omega, fun t H3 nt x3 et => ?_⟩
      have g3 := g.step (Step.same g.st.vw x3)
      have v3 := g3.vv
      walk_at "rd"
      obtain ⟨ys, hy, he⟩ := hq
      have hlen := XR.DpAll.length he
      rw [List.length_map] at hlen
      refine ⟨q, ys, G, rfl, .inl hy, v3, fun J W dm' hdm => ?_⟩
      refine lc_it W (fun j H' => LcI K G2 H3 dm' ((ss.take j).map fun c => oD (dm c (lo + (i : Int)))) H') (LcI.start g3.st.vw hdm) (fun j H' _ I => g3.st.gg.trans I.vw) ?_ ?_
      · rintro j x H4 _ hj ⟨G4, acc4, g4⟩ ⟨rfl, hxj⟩
        obtain ⟨c, t', hc, rfl, st, _⟩ := pairs_get he hxj
        walk_at "rd"
        refine ⟨G, t', c, _, rfl, st, g3.st.gg.trans g4.vv, n1, by omega, ?_⟩
        walk_at "rd"
        refine g4.push_map hc ?_ (by omega)
        cases dm c (lo + (i : Int)) <;> first | exact .non | exact .int _
      · intro H4 I
        obtain ⟨G4, acc4, g4⟩ := I.all_map (by omega)
        have ea : acc4 = (row ss (lo + (i : Int))).map oV := DpAll.opts_inv (by rw [List.map_map]; exact g4.ds)
        have et4 := g4.st.hh _ _ et
        have g5 := g3.step g4.st
        walk_at "rd"
        refine ⟨t, dm', _, rfl, et4, SqL.of (ea ▸ g4.el), by rw [List.length_map]; omega, ?_⟩
        walk_at "rd"
        refine ⟨by omega, by omega, ?_⟩
        intro l hL
        have v4 : Same G H4 := g5.vv
        refine lc_range (fun j H' => LcI K G4 H4 l (pDs (triedR ss (lo + (i : Int)) j)) H') (LcI.start g5.st.vw hL) ?_ ?_
        · rintro j H5 hj ⟨G6, acc6, g6⟩
          walk_at "rd"
          refine ⟨G, q, ss, lo + (i : Int), _, rfl, ⟨ys, hy, he⟩, v4.trans g6.st.hh, n1, n2, ?_⟩
          have lt := tried_len ss (lo + (i : Int)) j
          cases em : meets ss (lo + (i : Int)) (0 + (j : Int)) with
          | false =>
            walk_at "rd"
            rw [tried_succ, show meets ss (lo + (i : Int)) (j : Int) = false by rw [← em, Int.zero_add]]
            simp only [Bool.false_eq_true, if_false, List.append_nil]
            exact ⟨_, _, g6⟩
          | true =>
            walk_at "rd"
            intro tp htp
            walk_at "rd"
            have g7 := g6.step (Step.new (o := .tup [.int (lo + (i : Int)), .int (0 + (j : Int))]) g6.st.vw htp)
            rw [tried_succ, show meets ss (lo + (i : Int)) (j : Int) = true by rw [← em, Int.zero_add], if_pos rfl, pDs, List.map_append]
            rw [Int.zero_add] at *
            refine g7.push (Dp.mk_pair (SqT.of upd_same)) ?_
            rw [List.length_map, sizeLine_eq]
            omega
        · rintro H5 ⟨G6, acc6, g6⟩
          have g6 : Grow K G4 H4 l (pDs (piece ss (lo + (i : Int)))) G6 H5 acc6 := by
            have e := tried_piece n1 ok
            rw [show (lo + (i : Int)).toNat = ((lo + (i : Int)) - 0).toNat by omega] at e
            first | exact e ▸ g6 | (rw [Int.sub_zero] at e; exact e ▸ g6)
          have g8 := g5.step g6.st
          have et5 := g6.st.hh _ _ et4
          walk_at "rd"
          refine ⟨by rw [List.length_map]; omega, ?_⟩
          walk_at "rd"
          intro e1 he1
          walk_at "rd"
          refine ⟨_, _, .lst (SqL.of ((Same.add he1) _ _ g6.el)) (DpAll.same (g6.st.vw.trans (Same.add he1)) g6.ds), .lst (SqL.of upd_same) .nil, shaped_pDs _, rfl, ?_⟩
          rw [eqv_nil, piece_nil n1, Bool.not_not]
          walk_at "rd"
          refine ifF (by simp) ?_
          have v5 : Same H5 (L2.upd H5 e1 (.lst [])) := Same.add he1
          walk_at "rd"
          refine ⟨G, q, ss, _, _, rfl, ⟨ys, hy, he⟩, g8.vv.trans v5, n1, n2, ?_⟩
          rw [opnD_eq n1]
          walk_at "rd"
          intro e2 he2
          have v6 : Same H5 (L2.upd (L2.upd H5 e1 (.lst [])) e2 (.lst [])) := v5.trans (Same.add he2)
          walk_at "rd"
          refine ⟨_, _, .lst (SqL.of (v6 _ _ g6.el)) (DpAll.same (g6.st.vw.trans v6) g6.ds), .lst (SqL.of upd_same) .nil, shaped_pDs _, rfl, ?_⟩
          rw [eqv_nil, piece_nil n1, Bool.not_not]
          walk_at "rd"
          refine ifF (by simp) ?_
          have g9 := g8.step (Step.same g8.st.vw v6)
          have e6 := v6 _ _ g6.el
          walk_at "rd"
          refine ⟨.inl ⟨rfl, _, SqL.of g9.el⟩, ?_⟩
          walk_at "rd"
          have fl := fit_lenA (ss := ss) l1 l2 i (by omega)
          have tl := tried_len ss (lo + (i : Int)) (lo + (i : Int)).toNat
          rw [tried_piece n1 ok] at tl
          have ll : (acc ++ acc6).length ≤ 120 * i + 120 := by
            rw [List.length_append, g9.len, g6.len, List.length_map, List.length_map]
            omega
          refine ⟨dl, l, acc, acc6, rfl, rfl, g9.el, e6, by rw [List.length_append] at ll; rw [sizeLine_eq]; omega, ?_⟩
          refine .go ⟨_, _, _, G6, acc ++ acc6, rfl, ?_⟩
          have e : pDs (fit ss lo (i + 1)) = pDs (fit ss lo i) ++ pDs (piece ss (lo + (i : Int))) := by
            rw [pDs, pDs, pDs, ← List.map_append]
            rfl
          rw [e]
          exact ⟨g9.st.upd g9.nl g9.gl, g9.nl, g9.gl, upd_same, DpAll.append g6.ds g9.ds⟩
    · intro σ H2 hm
      obtain ⟨w1, w2, w3, G2, acc, rfl, g⟩ := hm.out
      have ht2 := SqT.same ht g.vv
      walk_at "rd"
      refine ⟨G2, p, xs, ss, lo, hi, rfl, SqA.same hx g.st.gg, DpAll.same g.st.gg hd, g.st.vw, by omega, l1, l2, h1, h2, fun l G3 H3 acc3 g3 => ?_⟩
      have g4 := g.step g3.st
      walk_at "rd"
      have ef := fit_lenA (ss := ss) l1 l2 (hi + 1 - lo).toNat (by omega)
      refine ⟨H3, l, dl, _, rfl, ⟨acc3, SqL.of g3.el, DpAll.same g3.st.vw g3.ds⟩, ⟨acc, SqL.of g4.el, DpAll.same g4.st.vw g4.ds⟩, Same.refl _, ?_⟩
      exact k _ (x1.trans g4.st.hh)
end
end Toy
set_option Elab.async false
set_option linter.all false
set_option maxRecDepth 100000
set_option maxHeartbeats 4000000
namespace Toy
open PySem L2 XR
local macro_rules | `(tactic| walk_at "ne") => `(tactic| first | assumption | (apply Ne.symm; assumption) | exact XR.ne_fresh (by assumption) (by walk_at "hp") | exact Ne.symm (XR.ne_fresh (by assumption) (by walk_at "hp")))
local macro_rules | `(tactic| walk_at "hp") => `(tactic| first | assumption | exact upd_same | (refine Eq.trans (upd_ne ?_) ?_; (walk_at "ne"); walk_at "hp"))
local macro_rules | `(tactic| walk_at "sq") => `(tactic| first | walk_at "hp" | exact SqL.of (by walk_at "hp") | exact SqT.of (by walk_at "hp") | exact XR.SqT.same (by assumption) (by assumption) | exact XR.SqL.same (by assumption) (by assumption))
local macro_rules | `(tactic| walk_at "br") => `(tactic| (refine ite2 ?_ ?_ <;> intro hbr <;> (try simp only [decide_eq_true_eq, decide_eq_false_iff_not, V.int.injEq, V.bl.injEq, V.str.injEq, Bool.not_eq_true, Bool.not_eq_eq_eq_not, Bool.not_true, Bool.not_false, ne_eq, Int.reduceToNat, Int.reducePow, Int.reduceMul, Int.reduceAdd, Int.reduceSub, reduceCtorEq, not_true_eq_false, not_false_eq_true, Int.not_lt, Int.not_le] at hbr)))
local macro_rules | `(tactic| walk_at "side") => `(tactic| first
  | exact ⟨by decide, by decide, by decide⟩
  | exact .inl ⟨by decide, by decide⟩
  | exact .inr ⟨by decide, by decide⟩
  | exact XR.divw (by first | decide | omega) (by first | decide | omega)
  | (show (_ : Int) = _; first | rfl | omega)
  | (show (0 : Int) < _; first | decide | assumption | omega)
  | exact .inl ⟨by omega, by omega⟩
  | exact .inr ⟨by omega, by omega⟩
  | exact .inl (XR.cmul_mod (by decide))
  | exact XR.log_lt (by omega) (by omega)
  | decide
  | (rw [sizeLine_eq]; simp; done)
  | (show 2 ≤ sizeLine; decide) | (show 3 ≤ sizeLine; decide) | (show 4 ≤ sizeLine; decide) | (show 5 ≤ sizeLine; decide) | (show 6 ≤ sizeLine; decide) | (show 7 ≤ sizeLine; decide) | (show 1 ≤ sizeLine; decide) | (show 8 ≤ sizeLine; decide) | (show 0 ≤ sizeLine; decide))
local macro_rules | `(tactic| walk_at "rd1") => `(tactic| first
  | refine ⟨_, rfl, ?_⟩
  | refine ⟨_, _, rfl, rfl, ?_⟩
  | refine ⟨_, _, _, _, rfl, rfl, (by walk_at "sq"), rfl, ?_⟩
  | refine ⟨_, _, _, _, rfl, rfl, (by walk_at "hp"), (by walk_at "hp"), (by walk_at "side"), ?_⟩
  | refine ⟨_, _, rfl, .inl (by walk_at "sq"), ?_⟩
  | refine ⟨_, _, rfl, .inl ⟨(by walk_at "sq"), ?_⟩⟩
  | refine ⟨_, _, rfl, .inr (by walk_at "sq"), ?_⟩
  | refine ⟨_, _, _, _, _, rfl, (by walk_at "hp"), (by walk_at "cls"), (by walk_at "noat"), rfl, ?_⟩
  | refine ⟨_, _, _, _, rfl, rfl, (by walk_at "sq"), (by first | assumption | exact XR.at0 | exact XR.at1), ?_⟩
  | refine ⟨rfl, ?_⟩
  | refine And.intro (by walk_at "side") ?_
  | refine .inl ⟨_, rfl, ?_⟩
  | refine And.intro ⟨_, (by walk_at "sq")⟩ ?_
  | refine ⟨_, _, rfl, (by walk_at "sq"), ?_⟩
  | refine ⟨_, _, rfl, ?_⟩
  | refine .inr ⟨_, rfl, (by walk_at "side"), ?_⟩
  | refine iteT ?_
  | refine iteF ?_)
local macro_rules | `(tactic| walk_at "rd") => `(tactic| repeat (walk_at "rd1"))
local macro_rules | `(tactic| walk_at "nn") => `(tactic| (simp only [Int.reduceToNat, Int.reducePow, Int.reduceMul, Int.reduceAdd, Int.reduceSub, Int.reduceNeg]))
local macro_rules | `(tactic| walk_at "dr") => `(tactic| repeat (first | refine And.intro (by first | assumption | walk_at "pre") ?_ | refine And.intro (by first | decide | omega) ?_))
local macro_rules | `(tactic| walk_at "pre") => `(tactic| first | assumption | exact BoxAt.new (by walk_at "pre") (by assumption) | exact BoxAt.same (by walk_at "pre") (by assumption))
section
variable {P : Program} {w : World} {K : PySem.W.Frag} {mg : Str → Option Value} {base : Heap} {D : Ad}
def spLaw (K : PySem.W.Frag) : Sp := fun vs H Q _ => ∃ (a : Addr) (ns : List Int), vs = [.ref a] ∧ SqL K H a (ns.map V.int) ∧ ns.length ≤ 63 ∧ ∀ H', Q (.bl true) H'
theorem sc_law : FnScope ["_law_script", "_law_box_here", "_law_size", "_law_sightings_here", "_law_bounds_here", "_law_given"] ["_law_script"] (defScope s_law) := ⟨rfl, rfl, rfl, by decide +kernel, rfl, by decide +kernel, by decide +kernel⟩
theorem ok_law (T : Txt K mg D) : FnOk P w K mg base CX0 9 D.a_law D.d_law ["_law_script"] (spLaw K) := by
  have G__law_draw := ok__law_draw (P := P) (w := w) (base := base) T
  have G__law_asked := ok__law_asked (P := P) (w := w) (base := base) T
  have G__law_bounds := ok__law_bounds (P := P) (w := w) (base := base) T
  have G__law_sightings := ok__law_sightings (P := P) (w := w) (base := base) T
  have G__law_box := ok__law_box (P := P) (w := w) (base := base) T
  refine T.F_law.ok sc_law (fun vs H Q E h => ?_) (fun cdv A outer s H vs Q E hr h => ?_)
  · obtain ⟨a, ns, rfl, _⟩ := h
    rfl
  · obtain ⟨a, ns, rfl, hS, hl, k⟩ := h
    refine ⟨_, (pss_cons (ps_set (i := 1) sc_law.nd rfl (Or.inl rfl) (pe_call G__law_box (hr.mono (by decide)) (by rfl) T.g__law_box T.F__law_box.kp T.b__law_box .nil pass0 (pa_cons (pv 0) pa_nil)))
      (pss_cons (ps_set (i := 2) sc_law.nd rfl (Or.inl rfl) (pe_op op_add pe_int (pe_call G__law_draw (hr.mono (by decide)) (by rfl) T.g__law_draw T.F__law_draw.kp T.b__law_draw .nil pass0 (pa_cons (pv 1) (pa_cons (pe_ix ix_list (pe_lst (pa_cons pe_int (pa_cons pe_int pa_nil))) (pe_call G__law_draw (hr.mono (by decide)) (by rfl) T.g__law_draw T.F__law_draw.kp T.b__law_draw .nil pass0 (pa_cons (pv 1) (pa_cons pe_int pa_nil))) (fun _ _ => rfl)) pa_nil)))))
      (pss_cons (ps_set (i := 3) sc_law.nd rfl (Or.inl rfl) (pe_call G__law_sightings (hr.mono (by decide)) (by rfl) T.g__law_sightings T.F__law_sightings.kp T.b__law_sightings .nil pass0 (pa_cons (pv 1) (pa_cons (pv 2) pa_nil))))
      (pss_cons (ps_set (i := 4) sc_law.nd rfl (Or.inl rfl) (pe_call G__law_bounds (hr.mono (by decide)) (by rfl) T.g__law_bounds T.F__law_bounds.kp T.b__law_bounds .nil pass0 (pa_cons (pv 1) (pa_cons (pv 2) pa_nil))))
      (pss_cons (ps_set (i := 5) sc_law.nd rfl (Or.inl rfl) (pe_callTy call_list_of (by rfl) T.n_list (by decide +kernel) (pa_cons (pv 3) pa_nil)))
      (pss_cons (ps_if (PW.pt (pw_or (pt_not (pt_val (pe_call G__law_asked (hr.mono (by decide)) (by rfl) T.g__law_asked T.F__law_asked.kp T.b__law_asked .nil pass0 (pa_cons (pv 5) (pa_cons (pv 3) (pa_cons (pv 4) pa_nil)))))) (pw_or1 (pt_cmpR (op_neD hr.units) (pv 5) (pv 3) (nomark _)))))
      (pss_one (ps_ret pe_bl))
      pss_nil)
      (pss_cons (ps_if (pt_cmpR op_eq (pe_call G__law_draw (hr.mono (by decide)) (by rfl) T.g__law_draw T.F__law_draw.kp T.b__law_draw .nil pass0 (pa_cons (pv 1) (pa_cons pe_int pa_nil))) pe_int (nomark _))
      (pss_one (ps_ret (pe_call G__law_asked (hr.mono (by decide)) (by rfl) T.g__law_asked T.F__law_asked.kp T.b__law_asked .nil pass0 (pa_cons (pe_callTy call_tuple_of (by rfl) T.n_tuple (by decide +kernel) (pa_cons (pv 3) pa_nil)) (pa_cons (pv 3) (pa_cons (pv 4) pa_nil))))))
      pss_nil)
      (pss_one (ps_ret pe_bl))))))))), ?_⟩
    walk_at "rd"
    refine ⟨hl, fun b H1 nb x1 B1 => ?_⟩
    walk_at "rd"
    intro la hla
    walk_at "rd"
    walk_at "dr"
    intro r2 H2 p2 q2 B2 x2 _
    obtain ⟨most, ea, m1, m2⟩ := ints_at (P := fun z => 0 < z ∧ z ≤ 60) [8, 60] p2 q2 (by decide)
    refine ⟨_, _, _, _, rfl, rfl, SqL.of (x2 la _ (BoxAt.ne B1 hla) upd_same), ea, ?_⟩
    walk_at "rd"
    walk_at "dr"
    intro r3 H3 p3 q3 B3 x3 _
    walk_at "rd"
    refine .go ⟨fun _ => none, same_nil, rfl, B3, by omega, by omega, fun l G4 H4 ss acc g B4 hlen ok => ?_⟩
    have f4 := g.freeze
    walk_at "rd"
    walk_at "dr"
    intro tb H5 lo hi l1 l2 h1 h2 B5 x5 nt ntb et
    obtain ⟨s4, d4⟩ := f4
    have s5 := s4.draw x5
    have el5 := x5 _ _ g.lb g.el
    walk_at "rd"
    intro gv hgv
    have vg : Same (L2.upd G4 l (.lst acc)) (L2.upd H5 gv (.lst acc)) := s5.vw.trans (Same.add hgv)
    have dss : DpAll K (L2.upd H5 gv (.lst acc)) acc (pDs ss) := DpAll.same ((Same.add g.gl).trans vg) g.ds
    have elg : (L2.upd H5 gv (.lst acc)) gv = some (.lst acc) := upd_same
    have ell : (L2.upd H5 gv (.lst acc)) l = some (.lst acc) := (Same.add hgv) _ _ el5
    have ett : SqT K (L2.upd H5 gv (.lst acc)) tb [.int lo, .int hi] := SqT.of ((Same.add hgv) _ _ et)
    walk_at "rd"
    refine ⟨_, gv, acc, l, tb, ss, lo, hi, rfl, .inl (SqL.of elg), dss, ⟨acc, SqL.of ell, dss⟩, ett, Same.refl _, hlen, ok, l1, l2, h1, h2, fun H6 x6 => ?_⟩
    walk_at "rd"
    refine ⟨_, _, .lst (SqL.of (x6 _ _ elg)) (DpAll.same x6 dss), .lst (SqL.of (x6 _ _ ell)) (DpAll.same x6 dss), shaped_pDs _, shaped_pDs _, ?_⟩
    rw [eqv_pDs]
    walk_at "rd"
    have B6 := (B5.new (o := .lst acc) hgv).same x6
    walk_at "dr"
    intro r7 H7 p7 q7 B7 x7 _
    have nlb : l ≠ b := g.lb
    have ngb : gv ≠ b := BoxAt.ne B5 hgv
    walk_at "rd"
    have s7 := ((s5.mut (o := .lst acc) hgv).same x6).draw x7
    have d7 : DpAll K H7 acc (pDs ss) := DpAll.same ((Same.add g.gl).trans s7.vw) g.ds
    have l7 : H7 l = some (.lst acc) := x7 _ _ nlb (x6 _ _ ell)
    have t7 : H7 tb = some (.tup [.int lo, .int hi]) := x7 _ _ ntb (x6 _ _ ((Same.add hgv) _ _ et))
    walk_at "br"
    · walk_at "rd"
      intro tv htv
      have vt : Same H7 (L2.upd H7 tv (.tup acc)) := Same.add htv
      walk_at "rd"
      exact ⟨_, tv, acc, l, tb, ss, lo, hi, rfl, .inr (SqT.of upd_same), DpAll.same vt d7, ⟨acc, SqL.of (vt _ _ l7), DpAll.same vt d7⟩, SqT.of (vt _ _ t7), Same.refl _, hlen, ok, l1, l2, h1, h2, fun H8 x8 => k _⟩
    · walk_at "rd"
      exact k _
end
end Toy
set_option Elab.async false
set_option linter.all false
set_option maxRecDepth 100000
set_option maxHeartbeats 4000000
namespace Toy
open PySem L2 XR
section
theorem all_mk {l : PySem.W.OpenLaw} {w : World} {K : PySem.W.Frag} {h : Heap} {mg : Str → Option Value} {fa : Addr} (X : K.In h) (G : h.Ns mainGlobals mg) (hfa : mg "law" = some (.ref fa))
    {x_all_cycles x__demand x_remainder_row x_fitting_cycles x_common_divisor x__shut_by x__law_box x__law_draw x__law_is_number x__law_gcd x__law_sightings x__law_bounds x__law_divisor x__law_demand x__law_meets x__law_is_row x__law_is_list x__law_open_row x__law_open_divisor x__law_asked x_law : Addr}
    {od_all_cycles an_all_cycles : Option Addr} {sl_all_cycles : Array (Option Value)} {oc_all_cycles kV_all_cycles dc_all_cycles pm_all_cycles cd_all_cycles ct_all_cycles : Value}
    {od__demand an__demand : Option Addr} {sl__demand : Array (Option Value)} {oc__demand kV__demand dc__demand pm__demand cd__demand ct__demand : Value}
    {od_remainder_row an_remainder_row : Option Addr} {sl_remainder_row : Array (Option Value)} {oc_remainder_row kV_remainder_row dc_remainder_row pm_remainder_row cd_remainder_row ct_remainder_row : Value}
    {od_fitting_cycles an_fitting_cycles : Option Addr} {sl_fitting_cycles : Array (Option Value)} {oc_fitting_cycles kV_fitting_cycles dc_fitting_cycles pm_fitting_cycles cd_fitting_cycles ct_fitting_cycles : Value}
    {od_common_divisor an_common_divisor : Option Addr} {sl_common_divisor : Array (Option Value)} {oc_common_divisor kV_common_divisor dc_common_divisor pm_common_divisor cd_common_divisor ct_common_divisor : Value}
    {od__shut_by an__shut_by : Option Addr} {sl__shut_by : Array (Option Value)} {oc__shut_by kV__shut_by dc__shut_by pm__shut_by cd__shut_by ct__shut_by : Value}
    {od__law_box an__law_box : Option Addr} {sl__law_box : Array (Option Value)} {oc__law_box kV__law_box dc__law_box pm__law_box cd__law_box ct__law_box : Value}
    {od__law_draw an__law_draw : Option Addr} {sl__law_draw : Array (Option Value)} {oc__law_draw kV__law_draw dc__law_draw pm__law_draw cd__law_draw ct__law_draw : Value}
    {od__law_is_number an__law_is_number : Option Addr} {sl__law_is_number : Array (Option Value)} {oc__law_is_number kV__law_is_number dc__law_is_number pm__law_is_number cd__law_is_number ct__law_is_number : Value}
    {od__law_gcd an__law_gcd : Option Addr} {sl__law_gcd : Array (Option Value)} {oc__law_gcd kV__law_gcd dc__law_gcd pm__law_gcd cd__law_gcd ct__law_gcd : Value}
    {od__law_sightings an__law_sightings : Option Addr} {sl__law_sightings : Array (Option Value)} {oc__law_sightings kV__law_sightings dc__law_sightings pm__law_sightings cd__law_sightings ct__law_sightings : Value}
    {od__law_bounds an__law_bounds : Option Addr} {sl__law_bounds : Array (Option Value)} {oc__law_bounds kV__law_bounds dc__law_bounds pm__law_bounds cd__law_bounds ct__law_bounds : Value}
    {od__law_divisor an__law_divisor : Option Addr} {sl__law_divisor : Array (Option Value)} {oc__law_divisor kV__law_divisor dc__law_divisor pm__law_divisor cd__law_divisor ct__law_divisor : Value}
    {od__law_demand an__law_demand : Option Addr} {sl__law_demand : Array (Option Value)} {oc__law_demand kV__law_demand dc__law_demand pm__law_demand cd__law_demand ct__law_demand : Value}
    {od__law_meets an__law_meets : Option Addr} {sl__law_meets : Array (Option Value)} {oc__law_meets kV__law_meets dc__law_meets pm__law_meets cd__law_meets ct__law_meets : Value}
    {od__law_is_row an__law_is_row : Option Addr} {sl__law_is_row : Array (Option Value)} {oc__law_is_row kV__law_is_row dc__law_is_row pm__law_is_row cd__law_is_row ct__law_is_row : Value}
    {od__law_is_list an__law_is_list : Option Addr} {sl__law_is_list : Array (Option Value)} {oc__law_is_list kV__law_is_list dc__law_is_list pm__law_is_list cd__law_is_list ct__law_is_list : Value}
    {od__law_open_row an__law_open_row : Option Addr} {sl__law_open_row : Array (Option Value)} {oc__law_open_row kV__law_open_row dc__law_open_row pm__law_open_row cd__law_open_row ct__law_open_row : Value}
    {od__law_open_divisor an__law_open_divisor : Option Addr} {sl__law_open_divisor : Array (Option Value)} {oc__law_open_divisor kV__law_open_divisor dc__law_open_divisor pm__law_open_divisor cd__law_open_divisor ct__law_open_divisor : Value}
    {od__law_asked an__law_asked : Option Addr} {sl__law_asked : Array (Option Value)} {oc__law_asked kV__law_asked dc__law_asked pm__law_asked cd__law_asked ct__law_asked : Value}
    {od_law an_law : Option Addr} {sl_law : Array (Option Value)} {oc_law kV_law dc_law pm_law cd_law ct_law : Value}
    (ha_all_cycles : PySem.W.nsIn K mainGlobals "all_cycles" = some (some (.ref x_all_cycles)))
    (hl_all_cycles : K.lookup x_all_cycles = some ⟨oc_all_cycles, od_all_cycles, .func (PySem.W.fnOf "all_cycles" "all_cycles" (defArgs s_all_cycles) (defBody s_all_cycles) (defScope s_all_cycles) .none kV_all_cycles dc_all_cycles pm_all_cycles an_all_cycles cd_all_cycles ct_all_cycles), sl_all_cycles⟩)
    (hc_all_cycles : PySem.W.codeIn K cd_all_cycles "all_cycles" = true)
    (hk_all_cycles : PySem.W.keepIn K (.ref x_all_cycles) = true)
    (ha__demand : PySem.W.nsIn K mainGlobals "_demand" = some (some (.ref x__demand)))
    (hl__demand : K.lookup x__demand = some ⟨oc__demand, od__demand, .func (PySem.W.fnOf "_demand" "_demand" (defArgs s__demand) (defBody s__demand) (defScope s__demand) .none kV__demand dc__demand pm__demand an__demand cd__demand ct__demand), sl__demand⟩)
    (hc__demand : PySem.W.codeIn K cd__demand "_demand" = true)
    (hk__demand : PySem.W.keepIn K (.ref x__demand) = true)
    (ha_remainder_row : PySem.W.nsIn K mainGlobals "remainder_row" = some (some (.ref x_remainder_row)))
    (hl_remainder_row : K.lookup x_remainder_row = some ⟨oc_remainder_row, od_remainder_row, .func (PySem.W.fnOf "remainder_row" "remainder_row" (defArgs s_remainder_row) (defBody s_remainder_row) (defScope s_remainder_row) .none kV_remainder_row dc_remainder_row pm_remainder_row an_remainder_row cd_remainder_row ct_remainder_row), sl_remainder_row⟩)
    (hc_remainder_row : PySem.W.codeIn K cd_remainder_row "remainder_row" = true)
    (hk_remainder_row : PySem.W.keepIn K (.ref x_remainder_row) = true)
    (ha_fitting_cycles : PySem.W.nsIn K mainGlobals "fitting_cycles" = some (some (.ref x_fitting_cycles)))
    (hl_fitting_cycles : K.lookup x_fitting_cycles = some ⟨oc_fitting_cycles, od_fitting_cycles, .func (PySem.W.fnOf "fitting_cycles" "fitting_cycles" (defArgs s_fitting_cycles) (defBody s_fitting_cycles) (defScope s_fitting_cycles) .none kV_fitting_cycles dc_fitting_cycles pm_fitting_cycles an_fitting_cycles cd_fitting_cycles ct_fitting_cycles), sl_fitting_cycles⟩)
    (hc_fitting_cycles : PySem.W.codeIn K cd_fitting_cycles "fitting_cycles" = true)
    (hk_fitting_cycles : PySem.W.keepIn K (.ref x_fitting_cycles) = true)
    (ha_common_divisor : PySem.W.nsIn K mainGlobals "common_divisor" = some (some (.ref x_common_divisor)))
    (hl_common_divisor : K.lookup x_common_divisor = some ⟨oc_common_divisor, od_common_divisor, .func (PySem.W.fnOf "common_divisor" "common_divisor" (defArgs s_common_divisor) (defBody s_common_divisor) (defScope s_common_divisor) .none kV_common_divisor dc_common_divisor pm_common_divisor an_common_divisor cd_common_divisor ct_common_divisor), sl_common_divisor⟩)
    (hc_common_divisor : PySem.W.codeIn K cd_common_divisor "common_divisor" = true)
    (hk_common_divisor : PySem.W.keepIn K (.ref x_common_divisor) = true)
    (ha__shut_by : PySem.W.nsIn K mainGlobals "_shut_by" = some (some (.ref x__shut_by)))
    (hl__shut_by : K.lookup x__shut_by = some ⟨oc__shut_by, od__shut_by, .func (PySem.W.fnOf "_shut_by" "_shut_by" (defArgs s__shut_by) (defBody s__shut_by) (defScope s__shut_by) .none kV__shut_by dc__shut_by pm__shut_by an__shut_by cd__shut_by ct__shut_by), sl__shut_by⟩)
    (hc__shut_by : PySem.W.codeIn K cd__shut_by "_shut_by" = true)
    (hk__shut_by : PySem.W.keepIn K (.ref x__shut_by) = true)
    (ha__law_box : PySem.W.nsIn K mainGlobals "_law_box" = some (some (.ref x__law_box)))
    (hl__law_box : K.lookup x__law_box = some ⟨oc__law_box, od__law_box, .func (PySem.W.fnOf "_law_box" "_law_box" (defArgs s__law_box) (defBody s__law_box) (defScope s__law_box) .none kV__law_box dc__law_box pm__law_box an__law_box cd__law_box ct__law_box), sl__law_box⟩)
    (hc__law_box : PySem.W.codeIn K cd__law_box "_law_box" = true)
    (hk__law_box : PySem.W.keepIn K (.ref x__law_box) = true)
    (ha__law_draw : PySem.W.nsIn K mainGlobals "_law_draw" = some (some (.ref x__law_draw)))
    (hl__law_draw : K.lookup x__law_draw = some ⟨oc__law_draw, od__law_draw, .func (PySem.W.fnOf "_law_draw" "_law_draw" (defArgs s__law_draw) (defBody s__law_draw) (defScope s__law_draw) .none kV__law_draw dc__law_draw pm__law_draw an__law_draw cd__law_draw ct__law_draw), sl__law_draw⟩)
    (hc__law_draw : PySem.W.codeIn K cd__law_draw "_law_draw" = true)
    (hk__law_draw : PySem.W.keepIn K (.ref x__law_draw) = true)
    (ha__law_is_number : PySem.W.nsIn K mainGlobals "_law_is_number" = some (some (.ref x__law_is_number)))
    (hl__law_is_number : K.lookup x__law_is_number = some ⟨oc__law_is_number, od__law_is_number, .func (PySem.W.fnOf "_law_is_number" "_law_is_number" (defArgs s__law_is_number) (defBody s__law_is_number) (defScope s__law_is_number) .none kV__law_is_number dc__law_is_number pm__law_is_number an__law_is_number cd__law_is_number ct__law_is_number), sl__law_is_number⟩)
    (hc__law_is_number : PySem.W.codeIn K cd__law_is_number "_law_is_number" = true)
    (hk__law_is_number : PySem.W.keepIn K (.ref x__law_is_number) = true)
    (ha__law_gcd : PySem.W.nsIn K mainGlobals "_law_gcd" = some (some (.ref x__law_gcd)))
    (hl__law_gcd : K.lookup x__law_gcd = some ⟨oc__law_gcd, od__law_gcd, .func (PySem.W.fnOf "_law_gcd" "_law_gcd" (defArgs s__law_gcd) (defBody s__law_gcd) (defScope s__law_gcd) .none kV__law_gcd dc__law_gcd pm__law_gcd an__law_gcd cd__law_gcd ct__law_gcd), sl__law_gcd⟩)
    (hc__law_gcd : PySem.W.codeIn K cd__law_gcd "_law_gcd" = true)
    (hk__law_gcd : PySem.W.keepIn K (.ref x__law_gcd) = true)
    (ha__law_sightings : PySem.W.nsIn K mainGlobals "_law_sightings" = some (some (.ref x__law_sightings)))
    (hl__law_sightings : K.lookup x__law_sightings = some ⟨oc__law_sightings, od__law_sightings, .func (PySem.W.fnOf "_law_sightings" "_law_sightings" (defArgs s__law_sightings) (defBody s__law_sightings) (defScope s__law_sightings) .none kV__law_sightings dc__law_sightings pm__law_sightings an__law_sightings cd__law_sightings ct__law_sightings), sl__law_sightings⟩)
    (hc__law_sightings : PySem.W.codeIn K cd__law_sightings "_law_sightings" = true)
    (hk__law_sightings : PySem.W.keepIn K (.ref x__law_sightings) = true)
    (ha__law_bounds : PySem.W.nsIn K mainGlobals "_law_bounds" = some (some (.ref x__law_bounds)))
    (hl__law_bounds : K.lookup x__law_bounds = some ⟨oc__law_bounds, od__law_bounds, .func (PySem.W.fnOf "_law_bounds" "_law_bounds" (defArgs s__law_bounds) (defBody s__law_bounds) (defScope s__law_bounds) .none kV__law_bounds dc__law_bounds pm__law_bounds an__law_bounds cd__law_bounds ct__law_bounds), sl__law_bounds⟩)
    (hc__law_bounds : PySem.W.codeIn K cd__law_bounds "_law_bounds" = true)
    (hk__law_bounds : PySem.W.keepIn K (.ref x__law_bounds) = true)
    (ha__law_divisor : PySem.W.nsIn K mainGlobals "_law_divisor" = some (some (.ref x__law_divisor)))
    (hl__law_divisor : K.lookup x__law_divisor = some ⟨oc__law_divisor, od__law_divisor, .func (PySem.W.fnOf "_law_divisor" "_law_divisor" (defArgs s__law_divisor) (defBody s__law_divisor) (defScope s__law_divisor) .none kV__law_divisor dc__law_divisor pm__law_divisor an__law_divisor cd__law_divisor ct__law_divisor), sl__law_divisor⟩)
    (hc__law_divisor : PySem.W.codeIn K cd__law_divisor "_law_divisor" = true)
    (hk__law_divisor : PySem.W.keepIn K (.ref x__law_divisor) = true)
    (ha__law_demand : PySem.W.nsIn K mainGlobals "_law_demand" = some (some (.ref x__law_demand)))
    (hl__law_demand : K.lookup x__law_demand = some ⟨oc__law_demand, od__law_demand, .func (PySem.W.fnOf "_law_demand" "_law_demand" (defArgs s__law_demand) (defBody s__law_demand) (defScope s__law_demand) .none kV__law_demand dc__law_demand pm__law_demand an__law_demand cd__law_demand ct__law_demand), sl__law_demand⟩)
    (hc__law_demand : PySem.W.codeIn K cd__law_demand "_law_demand" = true)
    (hk__law_demand : PySem.W.keepIn K (.ref x__law_demand) = true)
    (ha__law_meets : PySem.W.nsIn K mainGlobals "_law_meets" = some (some (.ref x__law_meets)))
    (hl__law_meets : K.lookup x__law_meets = some ⟨oc__law_meets, od__law_meets, .func (PySem.W.fnOf "_law_meets" "_law_meets" (defArgs s__law_meets) (defBody s__law_meets) (defScope s__law_meets) .none kV__law_meets dc__law_meets pm__law_meets an__law_meets cd__law_meets ct__law_meets), sl__law_meets⟩)
    (hc__law_meets : PySem.W.codeIn K cd__law_meets "_law_meets" = true)
    (hk__law_meets : PySem.W.keepIn K (.ref x__law_meets) = true)
    (ha__law_is_row : PySem.W.nsIn K mainGlobals "_law_is_row" = some (some (.ref x__law_is_row)))
    (hl__law_is_row : K.lookup x__law_is_row = some ⟨oc__law_is_row, od__law_is_row, .func (PySem.W.fnOf "_law_is_row" "_law_is_row" (defArgs s__law_is_row) (defBody s__law_is_row) (defScope s__law_is_row) .none kV__law_is_row dc__law_is_row pm__law_is_row an__law_is_row cd__law_is_row ct__law_is_row), sl__law_is_row⟩)
    (hc__law_is_row : PySem.W.codeIn K cd__law_is_row "_law_is_row" = true)
    (hk__law_is_row : PySem.W.keepIn K (.ref x__law_is_row) = true)
    (ha__law_is_list : PySem.W.nsIn K mainGlobals "_law_is_list" = some (some (.ref x__law_is_list)))
    (hl__law_is_list : K.lookup x__law_is_list = some ⟨oc__law_is_list, od__law_is_list, .func (PySem.W.fnOf "_law_is_list" "_law_is_list" (defArgs s__law_is_list) (defBody s__law_is_list) (defScope s__law_is_list) .none kV__law_is_list dc__law_is_list pm__law_is_list an__law_is_list cd__law_is_list ct__law_is_list), sl__law_is_list⟩)
    (hc__law_is_list : PySem.W.codeIn K cd__law_is_list "_law_is_list" = true)
    (hk__law_is_list : PySem.W.keepIn K (.ref x__law_is_list) = true)
    (ha__law_open_row : PySem.W.nsIn K mainGlobals "_law_open_row" = some (some (.ref x__law_open_row)))
    (hl__law_open_row : K.lookup x__law_open_row = some ⟨oc__law_open_row, od__law_open_row, .func (PySem.W.fnOf "_law_open_row" "_law_open_row" (defArgs s__law_open_row) (defBody s__law_open_row) (defScope s__law_open_row) .none kV__law_open_row dc__law_open_row pm__law_open_row an__law_open_row cd__law_open_row ct__law_open_row), sl__law_open_row⟩)
    (hc__law_open_row : PySem.W.codeIn K cd__law_open_row "_law_open_row" = true)
    (hk__law_open_row : PySem.W.keepIn K (.ref x__law_open_row) = true)
    (ha__law_open_divisor : PySem.W.nsIn K mainGlobals "_law_open_divisor" = some (some (.ref x__law_open_divisor)))
    (hl__law_open_divisor : K.lookup x__law_open_divisor = some ⟨oc__law_open_divisor, od__law_open_divisor, .func (PySem.W.fnOf "_law_open_divisor" "_law_open_divisor" (defArgs s__law_open_divisor) (defBody s__law_open_divisor) (defScope s__law_open_divisor) .none kV__law_open_divisor dc__law_open_divisor pm__law_open_divisor an__law_open_divisor cd__law_open_divisor ct__law_open_divisor), sl__law_open_divisor⟩)
    (hc__law_open_divisor : PySem.W.codeIn K cd__law_open_divisor "_law_open_divisor" = true)
    (hk__law_open_divisor : PySem.W.keepIn K (.ref x__law_open_divisor) = true)
    (ha__law_asked : PySem.W.nsIn K mainGlobals "_law_asked" = some (some (.ref x__law_asked)))
    (hl__law_asked : K.lookup x__law_asked = some ⟨oc__law_asked, od__law_asked, .func (PySem.W.fnOf "_law_asked" "_law_asked" (defArgs s__law_asked) (defBody s__law_asked) (defScope s__law_asked) .none kV__law_asked dc__law_asked pm__law_asked an__law_asked cd__law_asked ct__law_asked), sl__law_asked⟩)
    (hc__law_asked : PySem.W.codeIn K cd__law_asked "_law_asked" = true)
    (hk__law_asked : PySem.W.keepIn K (.ref x__law_asked) = true)
    (ha_law : PySem.W.nsIn K mainGlobals "law" = some (some (.ref x_law)))
    (hl_law : K.lookup x_law = some ⟨oc_law, od_law, .func (PySem.W.fnOf "law" "law" (defArgs s_law) (defBody s_law) (defScope s_law) .none kV_law dc_law pm_law an_law cd_law ct_law), sl_law⟩)
    (hc_law : PySem.W.codeIn K cd_law "law" = true)
    (hk_law : PySem.W.keepIn K (.ref x_law) = true)
    (hn_abs : PySem.W.nsIn K mainGlobals "abs" = some none)
    (hn_bool : PySem.W.nsIn K mainGlobals "bool" = some none)
    (hn_enumerate : PySem.W.nsIn K mainGlobals "enumerate" = some none)
    (hn_int : PySem.W.nsIn K mainGlobals "int" = some none)
    (hn_isinstance : PySem.W.nsIn K mainGlobals "isinstance" = some none)
    (hn_len : PySem.W.nsIn K mainGlobals "len" = some none)
    (hn_list : PySem.W.nsIn K mainGlobals "list" = some none)
    (hn_max : PySem.W.nsIn K mainGlobals "max" = some none)
    (hn_min : PySem.W.nsIn K mainGlobals "min" = some none)
    (hn_range : PySem.W.nsIn K mainGlobals "range" = some none)
    (hn_tuple : PySem.W.nsIn K mainGlobals "tuple" = some none)
    (hb_gcd : PySem.W.nsIn K mainGlobals "gcd" = some (some (.builtin "math.gcd"))) :
    ∃ fd : FuncData, (∀ (s : Shared) (v : Value), BindsTo s fd ⟨[v], []⟩ [("_law_script", v)]) ∧ ∀ base : Heap, K.In base → base.Ns mainGlobals mg → FnOk l.prog w K mg base CX0 9 fa fd ["_law_script"] (spLaw K) := by
  have e := hfa.symm.trans (PySem.W.mg_of X G ha_law)
  cases e
  have F_all_cycles := fun_mk (st := s_all_cycles) hl_all_cycles hc_all_cycles hk_all_cycles
  have b_all_cycles := F_all_cycles.binds (ps := ["least", "most"]) fun _ _ _ _ _ _ us hl => match us, hl with | [_, _], _ => rfl
  have F__demand := fun_mk (st := s__demand) hl__demand hc__demand hk__demand
  have b__demand := F__demand.binds (ps := ["sighting", "length"]) fun _ _ _ _ _ _ us hl => match us, hl with | [_, _], _ => rfl
  have F_remainder_row := fun_mk (st := s_remainder_row) hl_remainder_row hc_remainder_row hk_remainder_row
  have b_remainder_row := F_remainder_row.binds (ps := ["sightings", "length"]) fun _ _ _ _ _ _ us hl => match us, hl with | [_, _], _ => rfl
  have F_fitting_cycles := fun_mk (st := s_fitting_cycles) hl_fitting_cycles hc_fitting_cycles hk_fitting_cycles
  have b_fitting_cycles := F_fitting_cycles.binds (ps := ["sightings", "least", "most"]) fun _ _ _ _ _ _ us hl => match us, hl with | [_, _, _], _ => rfl
  have F_common_divisor := fun_mk (st := s_common_divisor) hl_common_divisor hc_common_divisor hk_common_divisor
  have b_common_divisor := F_common_divisor.binds (ps := ["sightings"]) fun _ _ _ _ _ _ us hl => match us, hl with | [_], _ => rfl
  have F__shut_by := fun_mk (st := s__shut_by) hl__shut_by hc__shut_by hk__shut_by
  have b__shut_by := F__shut_by.binds (ps := ["row"]) fun _ _ _ _ _ _ us hl => match us, hl with | [_], _ => rfl
  have F__law_box := fun_mk (st := s__law_box) hl__law_box hc__law_box hk__law_box
  have b__law_box := F__law_box.binds (ps := ["_law_script"]) fun _ _ _ _ _ _ us hl => match us, hl with | [_], _ => rfl
  have F__law_draw := fun_mk (st := s__law_draw) hl__law_draw hc__law_draw hk__law_draw
  have b__law_draw := F__law_draw.binds (ps := ["_law_box_here", "_law_size"]) fun _ _ _ _ _ _ us hl => match us, hl with | [_, _], _ => rfl
  have F__law_is_number := fun_mk (st := s__law_is_number) hl__law_is_number hc__law_is_number hk__law_is_number
  have b__law_is_number := F__law_is_number.binds (ps := ["_law_value"]) fun _ _ _ _ _ _ us hl => match us, hl with | [_], _ => rfl
  have F__law_gcd := fun_mk (st := s__law_gcd) hl__law_gcd hc__law_gcd hk__law_gcd
  have b__law_gcd := F__law_gcd.binds (ps := ["_law_first", "_law_second"]) fun _ _ _ _ _ _ us hl => match us, hl with | [_, _], _ => rfl
  have F__law_sightings := fun_mk (st := s__law_sightings) hl__law_sightings hc__law_sightings hk__law_sightings
  have b__law_sightings := F__law_sightings.binds (ps := ["_law_box_here", "_law_size"]) fun _ _ _ _ _ _ us hl => match us, hl with | [_, _], _ => rfl
  have F__law_bounds := fun_mk (st := s__law_bounds) hl__law_bounds hc__law_bounds hk__law_bounds
  have b__law_bounds := F__law_bounds.binds (ps := ["_law_box_here", "_law_size"]) fun _ _ _ _ _ _ us hl => match us, hl with | [_, _], _ => rfl
  have F__law_divisor := fun_mk (st := s__law_divisor) hl__law_divisor hc__law_divisor hk__law_divisor
  have b__law_divisor := F__law_divisor.binds (ps := ["_law_sightings_here"]) fun _ _ _ _ _ _ us hl => match us, hl with | [_], _ => rfl
  have F__law_demand := fun_mk (st := s__law_demand) hl__law_demand hc__law_demand hk__law_demand
  have b__law_demand := F__law_demand.binds (ps := ["_law_sighting", "_law_size"]) fun _ _ _ _ _ _ us hl => match us, hl with | [_, _], _ => rfl
  have F__law_meets := fun_mk (st := s__law_meets) hl__law_meets hc__law_meets hk__law_meets
  have b__law_meets := F__law_meets.binds (ps := ["_law_sightings_here", "_law_size", "_law_shift"]) fun _ _ _ _ _ _ us hl => match us, hl with | [_, _, _], _ => rfl
  have F__law_is_row := fun_mk (st := s__law_is_row) hl__law_is_row hc__law_is_row hk__law_is_row
  have b__law_is_row := F__law_is_row.binds (ps := ["_law_told", "_law_due"]) fun _ _ _ _ _ _ us hl => match us, hl with | [_, _], _ => rfl
  have F__law_is_list := fun_mk (st := s__law_is_list) hl__law_is_list hc__law_is_list hk__law_is_list
  have b__law_is_list := F__law_is_list.binds (ps := ["_law_told", "_law_due"]) fun _ _ _ _ _ _ us hl => match us, hl with | [_, _], _ => rfl
  have F__law_open_row := fun_mk (st := s__law_open_row) hl__law_open_row hc__law_open_row hk__law_open_row
  have b__law_open_row := F__law_open_row.binds (ps := ["_law_row"]) fun _ _ _ _ _ _ us hl => match us, hl with | [_], _ => rfl
  have F__law_open_divisor := fun_mk (st := s__law_open_divisor) hl__law_open_divisor hc__law_open_divisor hk__law_open_divisor
  have b__law_open_divisor := F__law_open_divisor.binds (ps := ["_law_sightings_here", "_law_size", "_law_divisor_here"]) fun _ _ _ _ _ _ us hl => match us, hl with | [_, _, _], _ => rfl
  have F__law_asked := fun_mk (st := s__law_asked) hl__law_asked hc__law_asked hk__law_asked
  have b__law_asked := F__law_asked.binds (ps := ["_law_given", "_law_sightings_here", "_law_bounds_here"]) fun _ _ _ _ _ _ us hl => match us, hl with | [_, _, _], _ => rfl
  have F_law := fun_mk (st := s_law) hl_law hc_law hk_law
  have b_law := F_law.binds (ps := ["_law_script"]) fun _ _ _ _ _ _ us hl => match us, hl with | [_], _ => rfl
  let D : Ad := {
    a_all_cycles := x_all_cycles, d_all_cycles := PySem.W.fnOf "all_cycles" "all_cycles" (defArgs s_all_cycles) (defBody s_all_cycles) (defScope s_all_cycles) .none kV_all_cycles dc_all_cycles pm_all_cycles an_all_cycles cd_all_cycles ct_all_cycles,
    a__demand := x__demand, d__demand := PySem.W.fnOf "_demand" "_demand" (defArgs s__demand) (defBody s__demand) (defScope s__demand) .none kV__demand dc__demand pm__demand an__demand cd__demand ct__demand,
    a_remainder_row := x_remainder_row, d_remainder_row := PySem.W.fnOf "remainder_row" "remainder_row" (defArgs s_remainder_row) (defBody s_remainder_row) (defScope s_remainder_row) .none kV_remainder_row dc_remainder_row pm_remainder_row an_remainder_row cd_remainder_row ct_remainder_row,
    a_fitting_cycles := x_fitting_cycles, d_fitting_cycles := PySem.W.fnOf "fitting_cycles" "fitting_cycles" (defArgs s_fitting_cycles) (defBody s_fitting_cycles) (defScope s_fitting_cycles) .none kV_fitting_cycles dc_fitting_cycles pm_fitting_cycles an_fitting_cycles cd_fitting_cycles ct_fitting_cycles,
    a_common_divisor := x_common_divisor, d_common_divisor := PySem.W.fnOf "common_divisor" "common_divisor" (defArgs s_common_divisor) (defBody s_common_divisor) (defScope s_common_divisor) .none kV_common_divisor dc_common_divisor pm_common_divisor an_common_divisor cd_common_divisor ct_common_divisor,
    a__shut_by := x__shut_by, d__shut_by := PySem.W.fnOf "_shut_by" "_shut_by" (defArgs s__shut_by) (defBody s__shut_by) (defScope s__shut_by) .none kV__shut_by dc__shut_by pm__shut_by an__shut_by cd__shut_by ct__shut_by,
    a__law_box := x__law_box, d__law_box := PySem.W.fnOf "_law_box" "_law_box" (defArgs s__law_box) (defBody s__law_box) (defScope s__law_box) .none kV__law_box dc__law_box pm__law_box an__law_box cd__law_box ct__law_box,
    a__law_draw := x__law_draw, d__law_draw := PySem.W.fnOf "_law_draw" "_law_draw" (defArgs s__law_draw) (defBody s__law_draw) (defScope s__law_draw) .none kV__law_draw dc__law_draw pm__law_draw an__law_draw cd__law_draw ct__law_draw,
    a__law_is_number := x__law_is_number, d__law_is_number := PySem.W.fnOf "_law_is_number" "_law_is_number" (defArgs s__law_is_number) (defBody s__law_is_number) (defScope s__law_is_number) .none kV__law_is_number dc__law_is_number pm__law_is_number an__law_is_number cd__law_is_number ct__law_is_number,
    a__law_gcd := x__law_gcd, d__law_gcd := PySem.W.fnOf "_law_gcd" "_law_gcd" (defArgs s__law_gcd) (defBody s__law_gcd) (defScope s__law_gcd) .none kV__law_gcd dc__law_gcd pm__law_gcd an__law_gcd cd__law_gcd ct__law_gcd,
    a__law_sightings := x__law_sightings, d__law_sightings := PySem.W.fnOf "_law_sightings" "_law_sightings" (defArgs s__law_sightings) (defBody s__law_sightings) (defScope s__law_sightings) .none kV__law_sightings dc__law_sightings pm__law_sightings an__law_sightings cd__law_sightings ct__law_sightings,
    a__law_bounds := x__law_bounds, d__law_bounds := PySem.W.fnOf "_law_bounds" "_law_bounds" (defArgs s__law_bounds) (defBody s__law_bounds) (defScope s__law_bounds) .none kV__law_bounds dc__law_bounds pm__law_bounds an__law_bounds cd__law_bounds ct__law_bounds,
    a__law_divisor := x__law_divisor, d__law_divisor := PySem.W.fnOf "_law_divisor" "_law_divisor" (defArgs s__law_divisor) (defBody s__law_divisor) (defScope s__law_divisor) .none kV__law_divisor dc__law_divisor pm__law_divisor an__law_divisor cd__law_divisor ct__law_divisor,
    a__law_demand := x__law_demand, d__law_demand := PySem.W.fnOf "_law_demand" "_law_demand" (defArgs s__law_demand) (defBody s__law_demand) (defScope s__law_demand) .none kV__law_demand dc__law_demand pm__law_demand an__law_demand cd__law_demand ct__law_demand,
    a__law_meets := x__law_meets, d__law_meets := PySem.W.fnOf "_law_meets" "_law_meets" (defArgs s__law_meets) (defBody s__law_meets) (defScope s__law_meets) .none kV__law_meets dc__law_meets pm__law_meets an__law_meets cd__law_meets ct__law_meets,
    a__law_is_row := x__law_is_row, d__law_is_row := PySem.W.fnOf "_law_is_row" "_law_is_row" (defArgs s__law_is_row) (defBody s__law_is_row) (defScope s__law_is_row) .none kV__law_is_row dc__law_is_row pm__law_is_row an__law_is_row cd__law_is_row ct__law_is_row,
    a__law_is_list := x__law_is_list, d__law_is_list := PySem.W.fnOf "_law_is_list" "_law_is_list" (defArgs s__law_is_list) (defBody s__law_is_list) (defScope s__law_is_list) .none kV__law_is_list dc__law_is_list pm__law_is_list an__law_is_list cd__law_is_list ct__law_is_list,
    a__law_open_row := x__law_open_row, d__law_open_row := PySem.W.fnOf "_law_open_row" "_law_open_row" (defArgs s__law_open_row) (defBody s__law_open_row) (defScope s__law_open_row) .none kV__law_open_row dc__law_open_row pm__law_open_row an__law_open_row cd__law_open_row ct__law_open_row,
    a__law_open_divisor := x__law_open_divisor, d__law_open_divisor := PySem.W.fnOf "_law_open_divisor" "_law_open_divisor" (defArgs s__law_open_divisor) (defBody s__law_open_divisor) (defScope s__law_open_divisor) .none kV__law_open_divisor dc__law_open_divisor pm__law_open_divisor an__law_open_divisor cd__law_open_divisor ct__law_open_divisor,
    a__law_asked := x__law_asked, d__law_asked := PySem.W.fnOf "_law_asked" "_law_asked" (defArgs s__law_asked) (defBody s__law_asked) (defScope s__law_asked) .none kV__law_asked dc__law_asked pm__law_asked an__law_asked cd__law_asked ct__law_asked,
    a_law := fa, d_law := PySem.W.fnOf "law" "law" (defArgs s_law) (defBody s_law) (defScope s_law) .none kV_law dc_law pm_law an_law cd_law ct_law }
  have T : Txt K mg D := { F_all_cycles := F_all_cycles, b_all_cycles := b_all_cycles, g_all_cycles := PySem.W.mg_of X G ha_all_cycles, F__demand := F__demand, b__demand := b__demand, g__demand := PySem.W.mg_of X G ha__demand, F_remainder_row := F_remainder_row, b_remainder_row := b_remainder_row, g_remainder_row := PySem.W.mg_of X G ha_remainder_row, F_fitting_cycles := F_fitting_cycles, b_fitting_cycles := b_fitting_cycles, g_fitting_cycles := PySem.W.mg_of X G ha_fitting_cycles, F_common_divisor := F_common_divisor, b_common_divisor := b_common_divisor, g_common_divisor := PySem.W.mg_of X G ha_common_divisor, F__shut_by := F__shut_by, b__shut_by := b__shut_by, g__shut_by := PySem.W.mg_of X G ha__shut_by, F__law_box := F__law_box, b__law_box := b__law_box, g__law_box := PySem.W.mg_of X G ha__law_box, F__law_draw := F__law_draw, b__law_draw := b__law_draw, g__law_draw := PySem.W.mg_of X G ha__law_draw, F__law_is_number := F__law_is_number, b__law_is_number := b__law_is_number, g__law_is_number := PySem.W.mg_of X G ha__law_is_number, F__law_gcd := F__law_gcd, b__law_gcd := b__law_gcd, g__law_gcd := PySem.W.mg_of X G ha__law_gcd, F__law_sightings := F__law_sightings, b__law_sightings := b__law_sightings, g__law_sightings := PySem.W.mg_of X G ha__law_sightings, F__law_bounds := F__law_bounds, b__law_bounds := b__law_bounds, g__law_bounds := PySem.W.mg_of X G ha__law_bounds, F__law_divisor := F__law_divisor, b__law_divisor := b__law_divisor, g__law_divisor := PySem.W.mg_of X G ha__law_divisor, F__law_demand := F__law_demand, b__law_demand := b__law_demand, g__law_demand := PySem.W.mg_of X G ha__law_demand, F__law_meets := F__law_meets, b__law_meets := b__law_meets, g__law_meets := PySem.W.mg_of X G ha__law_meets, F__law_is_row := F__law_is_row, b__law_is_row := b__law_is_row, g__law_is_row := PySem.W.mg_of X G ha__law_is_row, F__law_is_list := F__law_is_list, b__law_is_list := b__law_is_list, g__law_is_list := PySem.W.mg_of X G ha__law_is_list, F__law_open_row := F__law_open_row, b__law_open_row := b__law_open_row, g__law_open_row := PySem.W.mg_of X G ha__law_open_row, F__law_open_divisor := F__law_open_divisor, b__law_open_divisor := b__law_open_divisor, g__law_open_divisor := PySem.W.mg_of X G ha__law_open_divisor, F__law_asked := F__law_asked, b__law_asked := b__law_asked, g__law_asked := PySem.W.mg_of X G ha__law_asked, F_law := F_law, b_law := b_law, g_law := PySem.W.mg_of X G ha_law, g_gcd := PySem.W.mg_of X G hb_gcd, n_abs := PySem.W.mg_none_of X G hn_abs, n_bool := PySem.W.mg_none_of X G hn_bool, n_enumerate := PySem.W.mg_none_of X G hn_enumerate, n_int := PySem.W.mg_none_of X G hn_int, n_isinstance := PySem.W.mg_none_of X G hn_isinstance, n_len := PySem.W.mg_none_of X G hn_len, n_list := PySem.W.mg_none_of X G hn_list, n_max := PySem.W.mg_none_of X G hn_max, n_min := PySem.W.mg_none_of X G hn_min, n_range := PySem.W.mg_none_of X G hn_range, n_tuple := PySem.W.mg_none_of X G hn_tuple }
  exact ⟨D.d_law, fun s v => .of_eq rfl, fun base _ _ => ok_law (D := D) T⟩
end
theorem walk {l : PySem.W.OpenLaw} {q : Program} {loose : List Str} {XP : (Str → Option Value) → Heap → Prop} {YP : World → Heap → Prop} {d : DefRec} {K : Params → PySem.W.Frag} (hn : l.most = some 63) (hdf : d.params.defaults = [])
    (hY : ∀ (w : World) (h : Heap), YP w h → (K w.params).In h)
    (F : ∀ (w : World) (mg : Str → Option Value) (fa : Addr) (h : Heap), (K w.params).In h → h.Ns mainGlobals mg → mg d.name = some (.ref fa) →
      ∃ fd : FuncData, (∀ (s : Shared) (u : Value), BindsTo s fd ⟨[u], []⟩ [("_law_script", u)]) ∧ ∀ base : Heap, (K w.params).In base → base.Ns mainGlobals mg → FnOk l.prog w (K w.params) mg base CX0 9 fa fd ["_law_script"] (spLaw (K w.params))) :
    PySem.W.WalkO q loose XP YP l.row.toRowW d [] (fun f vs => PySem.call f vs) :=
  L2.walk_of (n := 63) (k := 9) (x := "_law_script") (CX := fun _ => CX0) (sp := fun w => spLaw (K w.params)) hn (by decide) hdf ⟨rfl, by decide, by decide⟩ hY F (fun _ _ a ns hl _ hS => ⟨a, ns, rfl, hS, hl, fun _ => rfl⟩) fun _ _ _ _ _ z => z
end Toy

open PySem PySem.W PyProof.Rows in
set_option maxRecDepth 100000 in
set_option maxHeartbeats 0 in
theorem PySem.Challenge.cw_fittingpasts_k05_whole_lengths_open_holds : PySem.Challenge.rw_fittingpasts_k05_whole_lengths_open.Holds := by
  w_on; o_law; k_head; (case hw => w_witness2)
  k_fill
  refine Toy.walk (l := PySem.Challenge.rw_fittingpasts_k05_whole_lengths_open) rfl rfl (fun w h Y => PySem.W.kIn_of Y) ?F
  case F =>
    intro w mg fa h KX G hmg
    refine' Toy.all_mk KX G hmg ?ha_all_cycles ?hl_all_cycles ?hc_all_cycles ?hk_all_cycles ?ha__demand ?hl__demand ?hc__demand ?hk__demand ?ha_remainder_row ?hl_remainder_row ?hc_remainder_row ?hk_remainder_row ?ha_fitting_cycles ?hl_fitting_cycles ?hc_fitting_cycles ?hk_fitting_cycles ?ha_common_divisor ?hl_common_divisor ?hc_common_divisor ?hk_common_divisor ?ha__shut_by ?hl__shut_by ?hc__shut_by ?hk__shut_by ?ha__law_box ?hl__law_box ?hc__law_box ?hk__law_box ?ha__law_draw ?hl__law_draw ?hc__law_draw ?hk__law_draw ?ha__law_is_number ?hl__law_is_number ?hc__law_is_number ?hk__law_is_number ?ha__law_gcd ?hl__law_gcd ?hc__law_gcd ?hk__law_gcd ?ha__law_sightings ?hl__law_sightings ?hc__law_sightings ?hk__law_sightings ?ha__law_bounds ?hl__law_bounds ?hc__law_bounds ?hk__law_bounds ?ha__law_divisor ?hl__law_divisor ?hc__law_divisor ?hk__law_divisor ?ha__law_demand ?hl__law_demand ?hc__law_demand ?hk__law_demand ?ha__law_meets ?hl__law_meets ?hc__law_meets ?hk__law_meets ?ha__law_is_row ?hl__law_is_row ?hc__law_is_row ?hk__law_is_row ?ha__law_is_list ?hl__law_is_list ?hc__law_is_list ?hk__law_is_list ?ha__law_open_row ?hl__law_open_row ?hc__law_open_row ?hk__law_open_row ?ha__law_open_divisor ?hl__law_open_divisor ?hc__law_open_divisor ?hk__law_open_divisor ?ha__law_asked ?hl__law_asked ?hc__law_asked ?hk__law_asked ?ha_law ?hl_law ?hc_law ?hk_law ?hn_abs ?hn_bool ?hn_enumerate ?hn_int ?hn_isinstance ?hn_len ?hn_list ?hn_max ?hn_min ?hn_range ?hn_tuple ?hb_gcd
    (case ha_all_cycles => first | k_is | rfl)
    (case hl_all_cycles => first | k_is | rfl)
    (case hc_all_cycles => first | k_is | rfl)
    (case hk_all_cycles => first | k_is | rfl)
    (case ha__demand => first | k_is | rfl)
    (case hl__demand => first | k_is | rfl)
    (case hc__demand => first | k_is | rfl)
    (case hk__demand => first | k_is | rfl)
    (case ha_remainder_row => first | k_is | rfl)
    (case hl_remainder_row => first | k_is | rfl)
    (case hc_remainder_row => first | k_is | rfl)
    (case hk_remainder_row => first | k_is | rfl)
    (case ha_fitting_cycles => first | k_is | rfl)
    (case hl_fitting_cycles => first | k_is | rfl)
    (case hc_fitting_cycles => first | k_is | rfl)
    (case hk_fitting_cycles => first | k_is | rfl)
    (case ha_common_divisor => first | k_is | rfl)
    (case hl_common_divisor => first | k_is | rfl)
    (case hc_common_divisor => first | k_is | rfl)
    (case hk_common_divisor => first | k_is | rfl)
    (case ha__shut_by => first | k_is | rfl)
    (case hl__shut_by => first | k_is | rfl)
    (case hc__shut_by => first | k_is | rfl)
    (case hk__shut_by => first | k_is | rfl)
    (case ha__law_box => first | k_is | rfl)
    (case hl__law_box => first | k_is | rfl)
    (case hc__law_box => first | k_is | rfl)
    (case hk__law_box => first | k_is | rfl)
    (case ha__law_draw => first | k_is | rfl)
    (case hl__law_draw => first | k_is | rfl)
    (case hc__law_draw => first | k_is | rfl)
    (case hk__law_draw => first | k_is | rfl)
    (case ha__law_is_number => first | k_is | rfl)
    (case hl__law_is_number => first | k_is | rfl)
    (case hc__law_is_number => first | k_is | rfl)
    (case hk__law_is_number => first | k_is | rfl)
    (case ha__law_gcd => first | k_is | rfl)
    (case hl__law_gcd => first | k_is | rfl)
    (case hc__law_gcd => first | k_is | rfl)
    (case hk__law_gcd => first | k_is | rfl)
    (case ha__law_sightings => first | k_is | rfl)
    (case hl__law_sightings => first | k_is | rfl)
    (case hc__law_sightings => first | k_is | rfl)
    (case hk__law_sightings => first | k_is | rfl)
    (case ha__law_bounds => first | k_is | rfl)
    (case hl__law_bounds => first | k_is | rfl)
    (case hc__law_bounds => first | k_is | rfl)
    (case hk__law_bounds => first | k_is | rfl)
    (case ha__law_divisor => first | k_is | rfl)
    (case hl__law_divisor => first | k_is | rfl)
    (case hc__law_divisor => first | k_is | rfl)
    (case hk__law_divisor => first | k_is | rfl)
    (case ha__law_demand => first | k_is | rfl)
    (case hl__law_demand => first | k_is | rfl)
    (case hc__law_demand => first | k_is | rfl)
    (case hk__law_demand => first | k_is | rfl)
    (case ha__law_meets => first | k_is | rfl)
    (case hl__law_meets => first | k_is | rfl)
    (case hc__law_meets => first | k_is | rfl)
    (case hk__law_meets => first | k_is | rfl)
    (case ha__law_is_row => first | k_is | rfl)
    (case hl__law_is_row => first | k_is | rfl)
    (case hc__law_is_row => first | k_is | rfl)
    (case hk__law_is_row => first | k_is | rfl)
    (case ha__law_is_list => first | k_is | rfl)
    (case hl__law_is_list => first | k_is | rfl)
    (case hc__law_is_list => first | k_is | rfl)
    (case hk__law_is_list => first | k_is | rfl)
    (case ha__law_open_row => first | k_is | rfl)
    (case hl__law_open_row => first | k_is | rfl)
    (case hc__law_open_row => first | k_is | rfl)
    (case hk__law_open_row => first | k_is | rfl)
    (case ha__law_open_divisor => first | k_is | rfl)
    (case hl__law_open_divisor => first | k_is | rfl)
    (case hc__law_open_divisor => first | k_is | rfl)
    (case hk__law_open_divisor => first | k_is | rfl)
    (case ha__law_asked => first | k_is | rfl)
    (case hl__law_asked => first | k_is | rfl)
    (case hc__law_asked => first | k_is | rfl)
    (case hk__law_asked => first | k_is | rfl)
    (case ha_law => first | k_is | rfl)
    (case hl_law => first | k_is | rfl)
    (case hc_law => first | k_is | rfl)
    (case hk_law => first | k_is | rfl)
    (case hn_abs => first | k_is | rfl)
    (case hn_bool => first | k_is | rfl)
    (case hn_enumerate => first | k_is | rfl)
    (case hn_int => first | k_is | rfl)
    (case hn_isinstance => first | k_is | rfl)
    (case hn_len => first | k_is | rfl)
    (case hn_list => first | k_is | rfl)
    (case hn_max => first | k_is | rfl)
    (case hn_min => first | k_is | rfl)
    (case hn_range => first | k_is | rfl)
    (case hn_tuple => first | k_is | rfl)
    (case hb_gcd => first | k_is | rfl)
