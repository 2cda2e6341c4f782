import PyProof.Rows.All
import Wide.All
import OpenK.AllK
import Wide.FinOn
import HandS.ForExc
import HandS.Comp
import HandS.Wide
import HandS.IsInst
import HandS.Property
import HandS.FStr
import HandS.MakeKw
import HandS.MakeKwOnly
import HandS.ExcInit
import HandS.ExcField
import HandS.ExcIs
import HandS.HotCalls
import HandS.OwnEq
import HandS.Evl
import KE.KCallOwn
import HandS.Gcd
import HandS.Walk
import KE.GoesMore
import KE.GoesEnum
import KE.GoesNew
import HandS.ExcOwn
import HandS.Dict
import HandS.Text
import HandS.List
import HandS.Conv
import PyProof.StrOps2
import HandS.Star
import HandS.Sort
import HandS.Style
import HandS.TupAny
import HandS.Deep
import HandS.Flow
import KE.GoesComp
import HandS.TryOnly
import HandS.TryMany
import HandS.Codes
import HandS.ClsMeth
import PySem.Challenge.RW_fittingpasts_k31_rule_texts
set_option Elab.async false
set_option linter.all false
set_option maxRecDepth 100000
set_option maxHeartbeats 4000000
/-! own rules: operators that a class of the program defines -/
namespace XR
open PySem PySem.Spec PyProof.Rows L2
section
variable {X : Cx} {CX : CXT} {k : Nat} {C f : Addr} {fd : FuncData} {ps : List Str} {sp : Sp} {E : XK}
/-- the callee runs, somewhere below the body -/
theorem run_at {A : Around} {pins : List (Addr × Obj)} {σ : L2.St} {H : Hp} {s : Shared} {Q : VK} {us : List Value} {vs : List V} (F : FnOk X.prog X.w X.K X.mg X.base CX k f fd ps sp) (hr : Room k A) (hA : A.frames = X.A.frames) (hb : Binds X.K fd ps []) (hx : PassesAt CX X σ E)
    (I : Inv X pins σ H s) (r : Vals vs us) (h : sp vs H Q E) : wpAny (model X.prog X.w) A (call (.ref f) us) (EP X pins σ Q) X.xe s := by
  have hl : us.length = ps.length := by rw [← r.length]; exact F.len _ _ _ _ h
  have e0 : Env0 X.prog X.w X.K X.mg X.base A X.stack s H := by
    have e := I.env0
    exact ⟨by rw [hA]; exact e.frames, e.mod, e.bs, e.bsz, e.funs, e.frf, e.hok, e.bare⟩
  have b := hb s us I.kIn (by rw [List.append_nil]; exact hl)
  rw [List.append_nil] at b
  refine wpAny_call (codeAny_mono (F.run A X.stack s H ⟨us, []⟩ us vs Q E hr e0 b r h) fun r s' hq => ?_)
  cases r with
  | error e => exact hx pins H s e s' I hq
  | ok fl =>
    cases fl with
    | ret u => exact I.after hq
    | next => exact False.elim hq
    | brk => exact False.elim hq
    | cont => exact False.elim hq
/-- an instance of the class at C -/
theorem inst_at {pins : List (Addr × Obj)} {σ : L2.St} {H : Hp} {s : Shared} {a dx : Addr} {fs : List (Str × V)} (I : Inv X pins σ H s) (ha : H a = some (.ins C dx fs)) : ∃ od, PySem.W.InstAt s.heap a (PySem.W.instObj C dx) C (some od) := by
  obtain ⟨mA, J, _⟩ := ins_get I.hok ha
  obtain ⟨od, J, _⟩ := J.look
  exact ⟨od, J⟩
theorem back_of {pins : List (Addr × Obj)} {σ : L2.St} {Q : VK} {v : Value} {s' : Shared} (h : EP X pins σ Q v s') : PySem.W.CmpBack (EP X pins σ Q) v s' := by
  obtain ⟨x, H', I', r, q⟩ := h
  have keep : EP X pins σ Q v s' := ⟨x, H', I', r, q⟩
  cases x with
  | non =>
    obtain rfl : v = Value.none := r
    exact keep
  | bl _ =>
    obtain rfl : v = Value.bool _ := r
    exact keep
  | int _ =>
    obtain ⟨t, rfl⟩ := r
    exact keep
  | str _ =>
    obtain ⟨t, rfl⟩ := r
    exact keep
  | byt _ =>
    obtain ⟨t, rfl⟩ := r
    exact keep
  | flt _ =>
    obtain ⟨t, rfl⟩ := r
    exact keep
  | ref _ =>
    obtain rfl : v = Value.ref _ := r
    exact keep
  | ty _ =>
    obtain rfl : v = Value.type _ := r
    exact keep

/-! ### a op b -/
structure OwnB (K : PySem.W.Frag) (C f : Addr) (op : Operator) : Prop where
  sf : PySem.W.selfFirst K C = true
  hs : PySem.W.findIn K (.ref C) (PySem.dunder op.info.2) = some (some (.ref f))
  hf : PySem.W.isFn K (.ref f) = true
  hr : PySem.W.findIn K (.ref C) (PySem.dunderR op.info.2) = some none
/-- .. an int on the right -/
structure OwnBI (K : PySem.W.Frag) (C : Addr) (op : Operator) : Prop where
  h1 : ∃ fo, PySem.W.findIn K (.type "int") (PySem.dunder op.info.2) = some fo
  h2 : ∃ ro, PySem.W.findIn K (.type "int") (PySem.dunderR op.info.2) = some ro
  sub : PySem.W.subIn K (.type "int") (.ref C) = some false
/-- by the left one's own method: an int or an instance of the same class on the right -/
def rOwnI (C : Addr) (sp : Sp) (E : XK) : R2 := fun x y H Q => ∃ a dx fs i, x = .ref a ∧ y = .int i ∧ H a = some (.ins C dx fs) ∧ sp [.ref a, .int i] H Q E
def rOwnC (C : Addr) (sp : Sp) (E : XK) : R2 := fun x y H Q => ∃ a b dx dy fs gs, x = .ref a ∧ y = .ref b ∧ H a = some (.ins C dx fs) ∧ H b = some (.ins C dy gs) ∧ sp [.ref a, .ref b] H Q E
theorem ownI {op : Operator} {pins : List (Addr × Obj)} {s : Shared} {σ : L2.St} {H : Hp} {x y : V} {v u : Value} {Q : VK} (O : OwnB X.K C f op) (OI : OwnBI X.K C op) (F : FnOk X.prog X.w X.K X.mg X.base CX k f fd ps sp) (hr : Room k X.A) (hb : Binds X.K fd ps []) (hx : PassesAt CX X σ E)
    (I : Inv X pins σ H s) (rx : RelV x v) (ry : RelV y u) (hq : rOwnI C sp E x y H Q) : wpAny (model X.prog X.w) X.A (binaryOp op v u) (EP X pins σ Q) X.xe s := by
  obtain ⟨a, dx, fs, i, rfl, rfl, ha, q⟩ := hq
  cases rx
  obtain ⟨t, rfl⟩ := ry
  obtain ⟨od, J⟩ := inst_at I ha
  obtain ⟨m, hF⟩ := I.fr
  obtain ⟨fo, h1⟩ := OI.h1
  obtain ⟨ro, h2⟩ := OI.h2
  exact PySem.W.ksp_binT (T := "int") hF I.ok.mod.kin J rfl O.sf O.hs O.hf O.hr (.inl rfl) h1 h2 OI.sub
    (thn (run_at (vs := [.ref a, .int i]) F hr rfl hb hx I (.cons rfl (.cons ⟨t, rfl⟩ .nil)) q) fun _ _ z => back_of z)
theorem ownC {op : Operator} {pins : List (Addr × Obj)} {s : Shared} {σ : L2.St} {H : Hp} {x y : V} {v u : Value} {Q : VK} (O : OwnB X.K C f op) (F : FnOk X.prog X.w X.K X.mg X.base CX k f fd ps sp) (hr : Room k X.A) (hb : Binds X.K fd ps []) (hx : PassesAt CX X σ E)
    (I : Inv X pins σ H s) (rx : RelV x v) (ry : RelV y u) (hq : rOwnC C sp E x y H Q) : wpAny (model X.prog X.w) X.A (binaryOp op v u) (EP X pins σ Q) X.xe s := by
  obtain ⟨a, b, dx, dy, fs, gs, rfl, rfl, ha, hb', q⟩ := hq
  cases rx
  cases ry
  obtain ⟨od, J⟩ := inst_at I ha
  obtain ⟨od', J'⟩ := inst_at I hb'
  obtain ⟨m, hF⟩ := I.fr
  exact PySem.W.binop_K hF I.ok.mod.kin J J'.type O.sf O.hs O.hf
    (thn (run_at (vs := [.ref a, .ref b]) F hr rfl hb hx I (.cons rfl (.cons rfl .nil)) q) fun _ _ z => back_of z)
theorem at_of_passes {σ : L2.St} (hx : Passes CX X E) : PassesAt CX X σ E := fun pins H s e s' I c => hx pins σ H s e s' I c
theorem op_ownI {op : Operator} (O : OwnB X.K C f op) (OI : OwnBI X.K C op) (F : FnOk X.prog X.w X.K X.mg X.base CX k f fd ps sp) (hr : Room k X.A) (hb : Binds X.K fd ps []) (hx : Passes CX X E) : OpR X (binaryOp op) (rOwnI C sp E) :=
  fun pins s σ H x y v u Q I rx ry hq => ownI O OI F hr hb (at_of_passes hx) I rx ry hq
theorem op_ownC {op : Operator} (O : OwnB X.K C f op) (F : FnOk X.prog X.w X.K X.mg X.base CX k f fd ps sp) (hr : Room k X.A) (hb : Binds X.K fd ps []) (hx : Passes CX X E) : OpR X (binaryOp op) (rOwnC C sp E) :=
  fun pins s σ H x y v u Q I rx ry hq => ownC O F hr hb (at_of_passes hx) I rx ry hq
/-- .. in a try's body -/
def tOpS (r : L2.St → R2) (ta tb : TE) : TE := fun σ H Q => ta σ H fun x H1 => tb σ H1 fun y H2 => r σ x y H2 Q
theorem pe_opCS {op : Operator} {a b : Expr} {pos : Pos} {ta tb : TE} {ES : L2.St → XK} (O : OwnB X.K C f op) (F : FnOk X.prog X.w X.K X.mg X.base CX k f fd ps sp) (hr : Room k X.A) (hb : Binds X.K fd ps []) (hx : ∀ σ, PassesAt CX X σ (ES σ)) (ha : PE X a ta) (hb2 : PE X b tb) :
    PE X (.BinOp a op b pos) (tOpS (fun σ => rOwnC C sp (ES σ)) ta tb) := by
  refine ⟨fun pins s σ H Q I h => ?_⟩
  exact (wpAny_BinOp (binT ha hb2 I (R := fun x y H2 => rOwnC C sp (ES σ) x y H2 Q) (by exact h) fun v u s1 x y H1 I1 r1 r2 q => ownC O F hr hb (hx σ) I1 r1 r2 q))
/-! ### x in o, x not in o -/
structure OwnM (K : PySem.W.Frag) (C f : Addr) (name : Str) : Prop where
  hs : PySem.W.findIn K (.ref C) name = some (some (.ref f))
  hf : PySem.W.isFn K (.ref f) = true
def rInOwn (C : Addr) (sp : Sp) (E : XK) (neg : Bool) : R2 := fun x y H Q => ∃ a dx fs, y = .ref a ∧ H a = some (.ins C dx fs) ∧ sp [.ref a, x] H (fun v H' => ∃ b, v = .bl b ∧ Q (.bl (if neg then !b else b)) H') E
theorem op_in_own (O : OwnM X.K C f "__contains__") (F : FnOk X.prog X.w X.K X.mg X.base CX k f fd ps sp) (hr : Room k X.A) (hb : Binds X.K fd ps []) (hx : Passes CX X E) : OpR X (compareOp .In) (rInOwn C sp E false) := by
  intro pins s σ H x y v u Q I rx ry hq
  obtain ⟨a, dx, fs, rfl, ha, q⟩ := hq
  cases ry
  obtain ⟨od, J⟩ := inst_at I ha
  obtain ⟨m, hF⟩ := I.fr
  refine PySem.W.in_K hF I.ok.mod.kin J O.hs O.hf (thn (run_at (vs := [.ref a, x]) F hr rfl hb (at_of_passes hx) I (.cons rfl (.cons rx .nil)) q) fun r s' z => ?_)
  obtain ⟨w', H', I', rw', b, rfl, q2⟩ := z
  cases rw'
  exact wpAny_truthy_bool ⟨.bl b, H', I', rfl, q2⟩
theorem op_notIn_own (O : OwnM X.K C f "__contains__") (F : FnOk X.prog X.w X.K X.mg X.base CX k f fd ps sp) (hr : Room k X.A) (hb : Binds X.K fd ps []) (hx : Passes CX X E) : OpR X (compareOp .NotIn) (rInOwn C sp E true) := by
  intro pins s σ H x y v u Q I rx ry hq
  obtain ⟨a, dx, fs, rfl, ha, q⟩ := hq
  cases ry
  obtain ⟨od, J⟩ := inst_at I ha
  obtain ⟨m, hF⟩ := I.fr
  refine PySem.W.notIn_K hF I.ok.mod.kin J O.hs O.hf (thn (run_at (vs := [.ref a, x]) F hr rfl hb (at_of_passes hx) I (.cons rfl (.cons rx .nil)) q) fun r s' z => ?_)
  obtain ⟨w', H', I', rw', b, rfl, q2⟩ := z
  cases rw'
  exact wpAny_truthy_bool ⟨.bl (!b), H', I', rfl, q2⟩
/-! ### a == b, a != b by the class's __eq__ (no __ne__ of its own) -/
structure OwnE (K : PySem.W.Frag) (C f : Addr) : Prop where
  hs : PySem.W.findIn K (.ref C) "__eq__" = some (some (.ref f))
  hf : PySem.W.isFn K (.ref f) = true
  hn : PySem.W.findIn K (.ref C) "__ne__" = some (some (.builtin "object.__ne__"))
  ob : PySem.W.mroIn K C (.type "object") = some true
def rEqOwn (C : Addr) (sp : Sp) (E : XK) (neg : Bool) : R2 := fun x y H Q => ∃ a b dx dy fs gs, x = .ref a ∧ y = .ref b ∧ H a = some (.ins C dx fs) ∧ H b = some (.ins C dy gs) ∧ sp [.ref a, .ref b] H (fun v H' => ∃ c, v = .bl c ∧ Q (.bl (if neg then !c else c)) H') E
theorem op_eq_own (O : OwnE X.K C f) (F : FnOk X.prog X.w X.K X.mg X.base CX k f fd ps sp) (hr : Room k X.A) (hb : Binds X.K fd ps []) (hx : Passes CX X E) : OpR X (compareOp .Eq) (rEqOwn C sp E false) := by
  intro pins s σ H x y v u Q I rx ry hq
  obtain ⟨a, b, dx, dy, fs, gs, rfl, rfl, ha, hb', q⟩ := hq
  cases rx
  cases ry
  obtain ⟨od, J⟩ := inst_at I ha
  obtain ⟨od', J'⟩ := inst_at I hb'
  obtain ⟨m, hF⟩ := I.fr
  refine PySem.W.cmp_K (op := .Eq) (tb := .ref C) hr.units0 hF I.ok.mod.kin J J'.type (by simp [PySem.W.notFirst]) O.hs O.hf ?_
  refine thn (run_at (vs := [.ref a, .ref b]) F hr rfl hb (at_of_passes hx) I (.cons rfl (.cons rfl .nil)) q) fun _ _ z => ?_
  obtain ⟨w', H', I', rw', c, rfl, q2⟩ := z
  cases rw'
  exact (⟨.bl c, H', I', rfl, q2⟩ : EP X pins σ Q (.bool c) _)
theorem objNe_entry {prog : Program} {w : World} {A : Around} {E : Value → Shared → Prop} {K : PySem.W.Frag} {x C f : Addr} {ox : Obj} {od : Option Obj} {b : Value} {s : Shared} {Q : PySem.Fin → Shared → Prop} (hu : A.units < cLine) (Xk : K.In s.heap) (I : PySem.W.InstAt s.heap x ox C od)
    (hs : PySem.W.findIn K (.ref C) "__eq__" = some (some (.ref f))) (hf : PySem.W.isFn K (.ref f) = true)
    (h : wpAny (model prog w) A (call (.ref f) [.ref x, b]) (fun v s' => ∃ c, v = .bool c ∧ Q (.done (.ret (.bool (!c)))) s') E s) :
    wpAny (model prog w) A (Builtin.«object.__ne__» ⟨[.ref x, b], []⟩) Q E s := by
  unfold Builtin.«object.__ne__»
  refine wpAny_bind (wpAny_of_eq (a := ((Value.ref x : Value), [b])) (by first | rfl | (simp only [Builtin.slotArgs]; rfl)) ?_)
  refine wpAny_bind (wpAny_cRoomFor hu ?_)
  refine wpAny_bind (PySem.W.ifBound_K Xk I hs hf (thn h fun v s' z => ?_))
  obtain ⟨c, rfl, q⟩ := z
  exact wpAny_bind (wpAny_truthy_bool (wpAny_pure q))
theorem cmp_ne {prog : Program} {w : World} {A : Around} {E : Value → Shared → Prop} {K : PySem.W.Frag} {x C f : Addr} {ox : Obj} {od : Option Obj} {b : Value} {s : Shared} {Q : Value → Shared → Prop} (hu : A.units + 1 < cLine) (Xk : K.In s.heap) (I : PySem.W.InstAt s.heap x ox C od)
    (hb : PySem.W.Looks (model prog w) s.heap (typeOf b) (.ref C)) (hn : PySem.W.findIn K (.ref C) "__ne__" = some (some (.builtin "object.__ne__"))) (ob : PySem.W.mroIn K C (.type "object") = some true)
    (hs : PySem.W.findIn K (.ref C) "__eq__" = some (some (.ref f))) (hf : PySem.W.isFn K (.ref f) = true)
    (h : wpAny (model prog w) A.in1 (call (.ref f) [.ref x, b]) (fun v s' => ∃ c, v = .bool c ∧ Q (.bool (!c)) s') E s) :
    wpAny (model prog w) A (richCompare .NotEq (.ref x) b) Q E s := by
  have sub : PySem.W.Looks (model prog w) s.heap (isInstance (.ref x) (.type "object")) true := I.type.andThen (PySem.W.looks_mroIn Xk ob)
  have callN : wpAny (model prog w) A (call (.builtin "object.__ne__") [.ref x, b]) (fun v s' => ∃ c, v = .bool c ∧ Q v s') E s := by
    refine wpAny_call (codeAny_call_builtin PySem.F.cmp_object.ne.plain PySem.F.cmpEntry_ne ?_)
    refine @PySem.W.check_slot (model prog w) _ _ s "object.__ne__" "object" "__ne__" (.ref x) [b] [] _ PySem.F.cmpKind_ne PySem.F.cmpSplit_ne sub (PySem.F.cmpArgs_ne _ _) ?_
    refine objNe_entry (A := A.in1) (by show A.units + 1 < cLine; exact hu) Xk I hs hf (thn h fun v s' z => ?_)
    obtain ⟨c, rfl, q⟩ := z
    exact ⟨c, rfl, ⟨!c, rfl, q⟩⟩
  have L1 := PySem.W.looks_findIn (M := model prog w) Xk hn
  have one : wpAny (model prog w) A (tryCompare (.ref x) "__ne__" b) (fun r s' => ∃ v, r = some v ∧ Q v s') E s := by
    unfold tryCompare
    refine wpAny_bind ?_
    simp only [callSpecialIfBound?, bindSpecialIfBound?]
    refine wpAny_holding (wpAny_bind (wpAny_bind (wpAny_bind (I.type.here (L1.here ?_)))))
    simp only [PySem.F.cmp_object.ne.bind]
    refine wpAny_bind (wpAny_askSetting (wpAny_ite ?_))
    have go : wpAny (model prog w) A (do
        let r ← call (.builtin "object.__ne__") ([.ref x] ++ [b])
        pure (some r)) (fun a s' => wpAny (model prog w) A (match a with
          | some Value.notImplemented => pure none
          | none => pure none
          | some v => pure (some v)) (fun r s' => ∃ v, r = some v ∧ Q v s') E s') E s := by
      refine wpAny_bind (thn callN fun v s' z => ?_)
      obtain ⟨c, rfl, q⟩ := z
      exact wpAny_pure (wpAny_pure ⟨_, rfl, q⟩)
    split
    · exact wpAny_bind (wpAny_pure (wpAny_pure (by exact go)))
    · refine wpAny_tryCatch ?_
      exact wpAny_bind (wpAny_pure (wpAny_pure (by exact go)))
  have hu0 : A.units < cLine := Nat.lt_of_succ_lt hu
  unfold richCompare
  simp only [oneThing_ref]
  refine wpAny_holding (wpAny_bind (wpAny_cRoomFor hu0 ?_))
  refine wpAny_bind (I.type.here (wpAny_bind (hb.here ?_)))
  split
  · rename_i q
    simp at q
  · refine wpAny_bind (wpAny_pure ?_)
    simp only [Bool.false_eq_true, if_false]
    refine wpAny_bind (wpAny_mono one (fun r s' z => ?_) fun _ _ e => e)
    obtain ⟨v, rfl, hq⟩ := z
    exact wpAny_pure hq
theorem op_ne_own (O : OwnE X.K C f) (F : FnOk X.prog X.w X.K X.mg X.base CX k f fd ps sp) (hr : Room (k + 1) X.A) (hb : Binds X.K fd ps []) (hx : Passes CX X E) : OpR X (compareOp .NotEq) (rEqOwn C sp E true) := by
  intro pins s σ H x y v u Q I rx ry hq
  obtain ⟨a, b, dx, dy, fs, gs, rfl, rfl, ha, hb', q⟩ := hq
  cases rx
  cases ry
  obtain ⟨od, J⟩ := inst_at I ha
  obtain ⟨od', J'⟩ := inst_at I hb'
  refine cmp_ne (by have := hr.units; omega) I.kIn J J'.type O.hn O.ob O.hs O.hf ?_
  refine thn (run_at (A := X.A.in1) (vs := [.ref a, .ref b]) F hr.in1 rfl hb (at_of_passes hx) I (.cons rfl (.cons rfl .nil)) q) fun _ _ z => ?_
  obtain ⟨w', H', I', rw', c, rfl, q2⟩ := z
  cases rw'
  exact ⟨c, rfl, (⟨.bl (!c), H', I', rfl, q2⟩ : EP X pins σ Q (.bool (!c)) _)⟩
/-! ### str(o) by the class's __str__ -/
def rStrOwn (C : Addr) (sp : Sp) (E : XK) : List V → Hp → VK → Prop := fun vs H Q => ∃ a dx fs, vs = [.ref a] ∧ H a = some (.ins C dx fs) ∧ sp [.ref a] H (fun v H' => ∃ z, v = .str z ∧ Q v H') E
theorem call_str_own (O : OwnM X.K C f "__str__") (F : FnOk X.prog X.w X.K X.mg X.base CX k f fd ps sp) (hr : Room (k + 2) X.A) (hb : Binds X.K fd ps []) (hx : Passes CX X E) : CallR X (.type "str") (rStrOwn C sp E) := by
  intro pins s σ H xs us Q I r hq
  obtain ⟨a, dx, fs, rfl, ha, q⟩ := hq
  cases r with
  | cons rx rr =>
    cases rr
    cases rx
    obtain ⟨od, J⟩ := inst_at I ha
    have hr2 : Room k X.A.in1.in1 := hr.in1.in1
    refine PySem.W.kso_call hr2.units0 I.kIn J O.hs O.hf ?_
    refine thn (run_at (A := X.A.in1.in1) (vs := [.ref a]) F hr2 rfl hb (at_of_passes hx) I (.cons rfl .nil) q) fun _ _ z => ?_
    obtain ⟨w', H', I', rw', z, rfl, q2⟩ := z
    obtain ⟨t, rfl⟩ := rw'
    exact (⟨.str z, H', I', ⟨t, rfl⟩, q2⟩ : EP X pins σ Q (.str z t) _)
/-! ### -o -/
def rNegOwn (C : Addr) (sp : Sp) (E : XK) : V → Hp → VK → Prop := fun x H Q => ∃ a dx fs, x = .ref a ∧ H a = some (.ins C dx fs) ∧ sp [.ref a] H Q E
theorem un_neg_own (O : OwnM X.K C f "__neg__") (F : FnOk X.prog X.w X.K X.mg X.base CX k f fd ps sp) (hr : Room k X.A) (hb : Binds X.K fd ps []) (hx : Passes CX X E) : UnR X (unaryOp .USub) (rNegOwn C sp E) := by
  intro pins s σ H x v Q I rx hq
  obtain ⟨a, dx, fs, rfl, ha, q⟩ := hq
  cases rx
  obtain ⟨od, J⟩ := inst_at I ha
  obtain ⟨m, hF⟩ := I.fr
  exact PySem.W.ksp_neg hF I.ok.mod.kin J O.hs O.hf (run_at (vs := [.ref a]) F hr rfl hb (at_of_passes hx) I (.cons rfl .nil) q)
end
end XR
/-! ### isinstance of a caught error that has a dict of its own -/
namespace XR
open PySem PySem.Spec PySem.Calls PyProof.Rows PySem.W
section
variable {prog : Program} {w : World} {A : Around} {E : Value → Shared → Prop} {s : Shared} {K : Frag} {x D : Addr} {ox od : Obj}
/-- what a class of errors must say, so that isinstance reads its instances rightly (L2.ExcC's facts) -/
abbrev Asks (K : Frag) (D : Addr) : Prop := L2.ExcC K D
theorem excD_class {Q : Option Value → Shared → Prop} (c : Asks K D) (X : K.In s.heap)
    (I : InstAt s.heap x ox D (some od)) (h : Q (some (.ref D)) { s with toks := s.toks + 1 }) :
    wpAny (model prog w) A (getAttr? (.ref x) "__class__") Q E s := by
  have isC : (clsIn K D).isSome = true := by
    obtain ⟨cd, hc, _⟩ := any_some c.hd
    rw [hc] <;> rfl
  have fnd := looks_find (M := model prog w) X I (findObj_data isC c.ha c.hn c.ht)
  obtain ⟨hp, g, d, t, os⟩ := s
  have lt := I.type (M := model prog w)
  have la := looks_findIn (M := model prog w) X c.hg
  have lb := looks_findIn (M := model prog w) X c.hk
  have isB : Looks (model prog w) hp (isInstance (.ref x) (.type "BaseException")) true :=
    lt.andThen (looks_subIn X c.hs)
  have z0 : (false && onTheHeap (Value.builtin "BaseException.__getattribute__")) = false := by
    rfl
  have z2 : (Value.builtin "BaseException.__getattribute__" ==
      Value.builtin "object.__getattribute__") = false := by decide +kernel
  have z1 : (onTheHeap (Value.ref D) && (Value.builtin "BaseException.__getattribute__" ==
      Value.builtin "object.__getattribute__")) = false := by rw [z2, Bool.and_false]
  unfold getAttr? getAttrBy? getAttrBy
  refine wpAny_bind (wpAny_mkText ?_)
  refine wpAny_bind (wpAny_attempt ?_)
  refine wpAny_holding (wpAny_bind (lt.at ?_))
  refine wpAny_bind (la.at ?_)
  show wpAny _ _ (if (onTheHeap (Value.ref D) && (Value.builtin "BaseException.__getattribute__" ==
    Value.builtin "object.__getattribute__")) = true then _ else _) _ _ _
  rw [z1, if_neg (by decide)]
  unfold getAttrByItsOwn hookBefore
  refine wpAny_bind ?_
  rw [if_pos (by rfl : onTheHeap (Value.ref D) = true)]
  refine lb.at (wpAny_bind (wpAny_attempt ?_))
  refine wpAny_holding ?_
  unfold callGetattribute
  rw [z0, if_neg (by decide)]
  unfold boundAndCalled
  rw [PySem.F.excAttr_ValueError.ga.bind]
  refine wpAny_bind (wpAny_pure ?_)
  show wpAny _ _ (call (.builtin "BaseException.__getattribute__")
    [.ref x, .str "__class__" t]) _ _ _
  refine wpAny_call (codeAny_call_builtin PySem.F.excAttr_ValueError.ga.plain
    PySem.F.entry_bexc_ga ?_)
  refine @check_slot (model prog w) _ _ ⟨hp, g, d, t + 1, os⟩ "BaseException.__getattribute__" "BaseException"
    "__getattribute__" (.ref x) [.str "__class__" t] [] _ (by decide +kernel) (by decide +kernel) isB
    (PySem.F.args_bexc_ga _ _) ?_
  unfold Builtin.«object.__getattribute__»
  refine wpAny_bind (wpAny_of_eq (a := ((Value.ref x : Value), [Value.str "__class__" t]))
    (by first | rfl | (simp only [Builtin.slotArgs] <;> rfl)) ?_)
  refine wpAny_bind (wpAny_pure ?_)
  refine wpAny_bind (lt.at (wpAny_bind (fnd.at ?_)))
  show wpAny _ _ (holding [Value.builtin "object.__class__"]
    (call (.builtin "getset_descriptor.__get__") [.builtin "object.__class__", .ref x, .ref D]) >>= ret) _ _ _
  refine wpAny_bind (wpAny_holding ?_)
  refine wpAny_call (class_get (s := ⟨hp, g, d, t + 1, os⟩) (ox := ox) (od := some od) X I c.hm ?_)
  refine wpAny_pure ?_
  show wpAny _ _ (handedOut (.ref D)) _ _ _
  rw [handedOut_of (v := .ref D) (by rfl)]
  first
    | exact wpAny_pure (wpAny_bind (wpAny_pure (wpAny_pure h)))
    | exact wpAny_pure (wpAny_pure h)
    | exact wpAny_pure h
theorem kit_excD (c : Asks K D) : KitX K (.ref x) (.ref D) (fun h => InstAt h x ox D (some od)) where
  ty := fun _ _ _ i => i.type
  it := fun m h X' i => by
    obtain ⟨cd, hc, _⟩ := any_some c.hd
    unfold clsIn at hc
    split at hc
    next c' d' cd' sl' ho =>
      intro A' Q' E' s' k q
      unfold isType loadHead
      refine wpAny_bind (wpAny_loadPart (k _ _ (X' _ _ ho)) ?_)
      exact wpAny_pure q
    next => cases hc
  ne := fun h tp dd its n sl X' htp => by
    obtain ⟨cd, hc, _⟩ := any_some c.hd
    refine Bool.eq_false_iff.mpr fun q => ?_
    obtain rfl : D = tp := Value.ref.inj (beq_iff_eq.mp q)
    unfold clsIn at hc
    split at hc
    next c' d' cd' sl' ho => cases (X' _ _ ho).symm.trans htp
    next => cases hc
  ca := fun X' i q => excD_class c X' i q
end
end XR
namespace XR
open PySem PySem.Spec PyProof.Rows L2
/-! ### a caught error, pinned: isinstance, fields -/
section
variable {X : Cx} {a : Addr} {oe : Obj} {cls : Value} {d : Option Addr}
theorem pinned_inst {pins : List (Addr × Obj)} {s : Shared} {σ : L2.St} {H : Hp} {D dd : Addr} {fs : List (Str × V)}
    (hp : (a, oe) ∈ X.pn) (hz : Zc (.ref D) (some dd) oe) (hf : ∃ vs, oe.data = .fields vs) (I : Inv X pins σ H s)
    (e : H dd = some (.xd fs)) : ∃ od, PySem.W.InstAt s.heap a oe D (some od) ∧ ∃ mA : Str → Option Value,
      (∀ n, PySem.W.lookIn n od = some (mA n)) ∧ ∀ n, RelO (fs.lookup n) (mA n) := by
  have at_ := (I.pin (a, oe) (List.mem_append_left _ hp)).1
  obtain ⟨vs, hv⟩ := hf
  have ok : ObjOk X.prog X.w H s.heap dd (.xd fs) := I.hok dd _ e
  obtain ⟨mA, hns, rel⟩ := ok
  obtain ⟨od, ho, hl⟩ := lookIn_ns hns
  refine ⟨od, ⟨at_, hz.1, ?_, ?_⟩, mA, hl, rel⟩
  · unfold PySem.W.notCls
    rw [hv] <;> rfl
  · rw [hz.2]
    exact ho
def rIsP (K : PySem.W.Frag) (cls : Value) (d : Option Addr) (a : Addr) : List V → Hp → VK → Prop := fun xs H Q =>
  ∃ (D dd : Addr) (fs : List (Str × V)) (c : V) (cv : Value) (b : Bool), cls = .ref D ∧ d = some dd ∧ H dd = some (.xd fs) ∧
    Asks K D ∧ xs = [.ref a, c] ∧ ClsV c cv ∧ PySem.W.kitOne K (.ref D) cv = some b ∧ Q (.bl b) H
def rIsPT (K : PySem.W.Frag) (cls : Value) (d : Option Addr) (a : Addr) : List V → Hp → VK → Prop := fun xs H Q =>
  ∃ (D dd tp : Addr) (fs : List (Str × V)) (cs : List V) (us : List Value) (b : Bool), cls = .ref D ∧ d = some dd ∧ H dd = some (.xd fs) ∧
    Asks K D ∧ xs = [.ref a, .ref tp] ∧ H tp = some (.tup cs) ∧ Paired ClsV cs us ∧ PySem.W.kitAny K (.ref D) us = some b ∧ Q (.bl b) H
theorem call_isP (hp : (a, oe) ∈ X.pn) (hz : Zc cls d oe) (hf : ∃ vs, oe.data = .fields vs) :
    CallR X (.builtin "isinstance") (rIsP X.K cls d a) := by
  intro pins s σ H xs us Q I r h
  obtain ⟨D, dd, fs, c, cv, b, rfl, rfl, e, as, rfl, kc, ek, q⟩ := h
  obtain ⟨u1, u2, rfl, r1, r2⟩ := vals2 r
  obtain rfl : u1 = Value.ref a := r1
  obtain rfl := kc.eq r2
  obtain ⟨od, J, _⟩ := pinned_inst hp hz hf I e
  exact PySem.W.kia_one (kit_excD as) I.kIn J ek (fun z => nomatch z) fun tk => ⟨.bl b, H, I.tok tk, rfl, q⟩
theorem call_isPT (hp : (a, oe) ∈ X.pn) (hz : Zc cls d oe) (hf : ∃ vs, oe.data = .fields vs) :
    CallR X (.builtin "isinstance") (rIsPT X.K cls d a) := by
  intro pins s σ H xs us Q I r h
  obtain ⟨D, dd, tp, fs, cs, ws, b, rfl, rfl, e, as, rfl, hT, kc, ek, q⟩ := h
  obtain ⟨u1, u2, rfl, r1, r2⟩ := vals2 r
  obtain rfl : u1 = Value.ref a := r1
  obtain rfl : u2 = Value.ref tp := r2
  obtain ⟨od, J, _⟩ := pinned_inst hp hz hf I e
  have okT : ObjOk X.prog X.w H s.heap tp (.tup cs) := I.hok tp _ hT
  obtain ⟨_, its, rv, ⟨oc, od2, dt, sl⟩, h1, h2, n, h3⟩ := okT
  dsimp only at h2 h3
  subst h2 h3
  obtain rfl := ClsV.all kc rv
  exact PySem.W.kia_tup (kit_excD as) I.kIn J h1 ek (fun z => nomatch z) fun tk => ⟨.bl b, H, I.tok tk, rfl, q⟩
/-- e.n, e the pinned error -/
def tPf (K : PySem.W.Frag) (a : Addr) (cls : Value) (d : Option Addr) (n : Str) (te : TE) : TE := fun σ H Q => te σ H fun x H1 =>
  ∃ (D dd : Addr) (fs : List (Str × V)) (v : V), x = .ref a ∧ cls = .ref D ∧ d = some dd ∧ H1 dd = some (.xd fs) ∧ XfC K D ∧
    PySem.W.findIn K (.ref D) n = some none ∧ fs.lookup n = some v ∧ Q v H1
theorem pe_pf {e : Expr} {te : TE} {pos : Pos} {n : Str} (hp : (a, oe) ∈ X.pn) (hz : Zc cls d oe) (hf : ∃ vs, oe.data = .fields vs) (he : PE X e te)
    (hb : attributeBase e n X.env (eval e X.env) = eval e X.env := by rfl) : PE X (.Attribute e n pos) (tPf X.K a cls d n te) := by
  refine ⟨fun pins s σ H Q I h => attr_of hb (thn (he.run pins s σ H _ I h) fun u s1 z => ?_)⟩
  obtain ⟨x, H1, I1, rx, D, dd, fs, v, rfl, rfl, rfl, ea, xf, hno, l, q⟩ := z
  obtain rfl : u = Value.ref a := rx
  obtain ⟨od, J, mA, hl, rel⟩ := pinned_inst hp hz hf I1 ea
  have rn := rel n
  rw [l] at rn
  obtain ⟨u, hu, ru⟩ := RelO.some_of rn
  refine HandSPX.exc_get I1.kIn J xf.ga xf.gg xf.exC (PySem.W.findObj_own xf.hdC hno rfl ?_) (handed_of ru) ⟨v, H1, I1.tok _, ru, q⟩
  rw [hl, hu]
end
/-! ### a def called while an error is handled: it raises nothing itself -/
abbrev SpQ := Addr × Obj → Sp
structure FnQ (P : Program) (w : World) (K : PySem.W.Frag) (mg : Str → Option Value) (base : Heap) (k : Nat) (f : Addr) (fd : FuncData) (ps : List Str) (sp : SpQ) : Prop where
  len : ∀ p vs H Q E, sp p vs H Q E → vs.length = ps.length
  run : ∀ (A : Around) (outer : List Env) (s : Shared) (H : Hp) (args : Args) (us : List Value) (vs : List V) (Q : VK) (p : Addr × Obj),
    L2H.RoomH k A → L2H.PinOk outer H s p → Env0 P w K mg base A outer s H → BindsTo s fd args (ps.zip us) → Vals vs us → sp p vs H Q E0 →
    codeAny (model P w) A (.call (.ref f) args) (CR CX0 outer P w H s Q E0) s
section
variable {P : Program} {w : World} {K : PySem.W.Frag} {mg : Str → Option Value} {base : Heap}
theorem okQ {x qual : Str} {st : Stmt} {f : Addr} {fd : FuncData} {N ps : List Str} {k : Nat} {sp : SpQ} (F : Fun K x qual st f fd) (S : FnScope N ps (defScope st))
    (len : ∀ p vs H Q E, sp p vs H Q E → vs.length = ps.length)
    (body : ∀ (cdv : Value) (A : Around) (outer : List Env) (s : Shared) (H : Hp) (vs : List V) (Q : VK) (p : Addr × Obj),
      L2H.RoomH k (A.deeper (envOfC qual (defScope st) s.heap.objs.size f cdv)) → sp p vs H Q E0 →
      ∃ t, PSs (L2H.cxH CX0 P w K mg base N qual (defScope st) f cdv A outer s H E0 p).nox (defBody st) t ∧
        t { nx := fun _ H' => Q .non H', rt := Q } (start N vs) H) : FnQ P w K mg base (k + 1) f fd ps sp := by
  obtain ⟨oc, od, kV, doc, pm, an, cdv, ct, osl, rfl, lk, hcd⟩ := F.ex
  refine ⟨len, fun A outer s H args us vs Q p hr pin e0 hb r hsp => ?_⟩
  have hl := len _ _ _ _ _ hsp
  have old : ∀ b o, base.get? b = some o → s.heap.get? b = some o := fun b o e => (e0.bs b o e).1
  have KX : K.In s.heap := e0.mod.kin.keeps old
  have lim : s.heap.NoLimit := e0.mod.nolimit.keeps old
  have kinds : ∀ y ∈ ps.zip us, (defScope st).names.lookup y.1 = some .local ∨
      ((defScope st).names.lookup y.1 = some .cell ∧ ((cellsFrom (s.heap.objs.size + 1) (defScope st).names []).lookup y.1).isSome = true) := by
    rintro ⟨n, v⟩ hy
    refine (S.par n (List.of_mem_zip hy).1).imp (fun q => q) fun q => ⟨q, ?_⟩
    exact PySem.W.cellsFrom_some _ _ _ (.inl q)
  refine codeAny_call_function hr.depth (KX _ _ lk) rfl S.co S.gen rfl (PySem.W.codeRec_of KX hcd) (hb _ _ _ _ ?_)
  refine wpAny_newFunctionEnv_cells S.kind kinds fun env he s1 x => ?_
  subst he
  refine ⟨lim.keeps x.toInCall.keep, codeAny_func ?_⟩
  obtain ⟨t, ht, hq⟩ := body cdv A outer s H vs Q p (hr.deeper _) hsp
  have I := L2H.inv_startH (CX := CX0) (E := E0) (cd := cdv) (qual := qual) S pin e0 hl r x
  have run := (PSs.nox ht).run [] s1 (start N vs) H _ I hq
  have out : ∀ {σ' : L2.St} {H' : Hp} {v : V} {u : Value} {s' : Shared},
      Inv (L2H.cxH CX0 P w K mg base N qual (defScope st) f cdv A outer s H E0 p) [] σ' H' s' → RelV v u → Q v H' → CE outer P w H s Q u s' :=
    fun J rv q => ⟨_, _, J.os, J.bare, J.base, J.hok, rv, q⟩
  refine wpAny_mono run (fun fl s' z => ?_) fun _ _ z => z
  cases fl with
  | next =>
    obtain ⟨σ', H', J, q⟩ := z
    exact out (v := V.non) (u := Value.none) J rfl q
  | ret u =>
    obtain ⟨v, σ', H', J, rv, q⟩ := z
    exact out J rv q
  | brk => exact z.elim fun _ y => y.elim fun _ y => y.2.elim
  | cont => exact z.elim fun _ y => y.elim fun _ y => y.2.elim
end
section
variable {X : Cx} {k : Nat} {f : Addr} {fd : FuncData} {ps : List Str} {sp : SpQ} {x : Str} {q pos : Pos} {e : Expr} {es : List Expr} {t : TA} {p : Addr × Obj}
def tCallQ (sp : Sp) (t : TA) : TE := fun σ H Q => t σ H fun vs H1 => sp vs H1 Q E0
theorem pe_callQ (F : FnQ X.prog X.w X.K X.mg X.base k f fd ps sp) (hr : L2H.RoomH k X.A) (hp : p ∈ X.pn) (hg : Gl X x) (hm : X.mg x = some (.ref f))
    (hk : PySem.W.keepIn X.K (.ref f) = true) (hb : Binds X.K fd ps []) (ha : PA X (e :: es) t) (hdb : (x == ("__debug__" : Str)) = false := by decide)
    (he : starEach (e :: es) X.env = (false, eval e X.env) :: starEach es X.env := by rfl) (hpl : (backTo pos (starEach es X.env)).any (·.1) = false := by rfl) :
    PE X (.Call (.Name x q) (e :: es) [] pos) (tCallQ (sp p) t) := by
  refine ⟨fun pins s σ H Q I h => wpAny_Call_Name_kw (ld_glob I hg hm ?_ hdb)⟩
  refine PySem.W.callWith_K (h₀ := X.base) I.ok.mod.kin hk (thn (ha.run pos pins s σ H _ I h) fun us s1 z => ?_) he hpl
  obtain ⟨vs, H1, I1, r, hsp⟩ := z
  refine ⟨I1.kIn, ?_⟩
  have hl : us.length = ps.length := r.length.symm.trans (F.len _ _ _ _ _ hsp)
  have b := hb s1 us I1.kIn (by rw [List.append_nil]; exact hl)
  rw [List.append_nil] at b
  obtain ⟨p1, p2, p3, p4, p5⟩ := I1.pin p (List.mem_append_left _ hp)
  have pin : L2H.PinOk X.stack H1 s1 p := ⟨p1, p2, fun hm => (List.mem_cons.mp (I1.stkSub p.1 hm)).elim p3 p4, p5⟩
  refine wpAny_call (codeAny_mono (F.run X.A X.stack s1 H1 ⟨us, []⟩ us vs Q p hr pin I1.env0 b r hsp) fun r s' z => ?_)
  cases r with
  | error e => exact z.elim
  | ok fl =>
    cases fl with
    | ret u => exact I1.after z
    | next => exact z.elim
    | brk => exact z.elim
    | cont => exact z.elim
end
end XR
namespace XR
open PySem PySem.Spec PyProof.Rows L2
/-! ### C(e, ..) where __init__ may raise, the wish told at the caller's slots -/
section
variable {X : Cx} {CX : CXT} {k : Nat} {C f : Addr} {fd : FuncData} {ps : List Str} {sp : Sp} {E : L2.St → XK} {x : Str} {p pos : Pos} {e : Expr} {es : List Expr} {t : TA}
def tMakeS (C : Addr) (sp : Sp) (E : L2.St → XK) (t : TA) : TE := fun σ H Q => t σ H fun vs H1 => ∀ x dx, H1 x = none → H1 dx = none → dx ≠ x →
  sp (.ref x :: vs) (upd (upd H1 dx (.own x)) x (.ins C dx [])) (fun v H2 => v = .non ∧ Q (.ref x) H2) (E σ)
theorem pe_makeS (M : Mk X.K C f) (F : FnOk X.prog X.w X.K X.mg X.base CX k f fd ps sp) (hr : Room (k + 1) X.A) (hg : Gl X x) (hm : X.mg x = some (.ref C)) (hb : Binds X.K fd ps [])
    (hx : ∀ σ, PassesAt CX X σ (E σ)) (ha : PA X (e :: es) t) (hdb : (x == ("__debug__" : Str)) = false := by decide)
    (he : starEach (e :: es) X.env = (false, eval e X.env) :: starEach es X.env := by rfl) (hpl : (backTo pos (starEach es X.env)).any (·.1) = false := by rfl) :
    PE X (.Call (.Name x p) (e :: es) [] pos) (tMakeS C sp E t) := by
  refine ⟨fun pins s σ H Q I h => wpAny_Call_Name_kw (ld_glob I hg hm ?_ hdb)⟩
  refine PySem.W.callWith_K (h₀ := X.base) I.ok.mod.kin M.kp (thn (ha.run pos pins s σ H _ I h) fun us s1 z => ?_) he hpl
  obtain ⟨vs, H1, I1, r, q⟩ := z
  refine ⟨I1.kIn, ?_⟩
  have fr := I1.hok.fresh (a := s1.heap.objs.size) (Nat.le_refl _)
  have fr1 := I1.hok.fresh (a := s1.heap.objs.size + 1) (Nat.le_add_right _ 1)
  have hsp := q (s1.heap.objs.size + 1) s1.heap.objs.size fr1 fr (Nat.ne_of_lt (Nat.lt_succ_self _))
  have I2 := Inv.made (C := C) I1
  have r2 : Vals (V.ref (s1.heap.objs.size + 1) :: vs) (Value.ref (s1.heap.objs.size + 1) :: us) := .cons rfl r
  have hl : (Value.ref (s1.heap.objs.size + 1) :: us).length = ps.length := r2.length.symm.trans (F.len _ _ _ _ hsp)
  have b := hb _ (Value.ref (s1.heap.objs.size + 1) :: us) I2.kIn (by rw [List.append_nil]; exact hl)
  rw [List.append_nil] at b
  have run := F.run _ X.stack _ _ ⟨Value.ref (s1.heap.objs.size + 1) :: us, []⟩ _ _ _ (E σ) (hr.make C us []) (I2.env0.make C us []) b r2 hsp
  refine wpAny_call (make_map (f := f) I1.kIn M.makes M.init (beq_iff_eq.mp M.fn) (codeAny_mono run fun r s' z => ?_))
  cases r with
  | error er => exact hx σ pins _ _ er s' I2 z
  | ok fl =>
    cases fl with
    | ret u =>
      obtain ⟨v, H', I3, rv, ev, q3⟩ := I2.after z
      subst ev
      exact ⟨rv, .ref (s1.heap.objs.size + 1), H', I3, rfl, q3⟩
    | next => exact z.elim
    | brk => exact z.elim
    | cont => exact z.elim
end
end XR
set_option Elab.async false
set_option linter.all false
set_option maxRecDepth 100000
set_option maxHeartbeats 4000000
/-! common lemmas: lists of ints, heaps with one object that changes, errors made and raised -/
namespace XR
open PySem PySem.Spec PyProof.Rows L2
theorem divw {i j : Int} (h : 0 < j) (h2 : j < 2 ^ 63) : CDivW i j := wide_div (b := 63) h (by omega) (by decide) (by decide)
theorem cmul_mod {i j : Int} (h : 0 < j ∧ j < 2 ^ 64) : -(2 ^ 64) < i % j ∧ i % j < 2 ^ 64 := ⟨by have := Int.emod_nonneg i (b := j) (by omega); omega, by have := Int.emod_lt_of_pos i h.1; omega⟩
theorem log_lt {i : Int} (h1 : -(10 ^ 40) < i) (h2 : i < 10 ^ 40) : i.natAbs.log2 < 1920 := by
  have h : i.natAbs < 10 ^ 40 := by omega
  have h3 : (10 : Nat) ^ 40 < 2 ^ 1920 := by decide +kernel
  by_cases z : i.natAbs = 0
  · rw [z]; decide
  · exact (Nat.log2_lt z).mpr (Nat.lt_trans h h3)
/-- a word at which the reading stops (two makers, so that no anonymous one fits) -/
inductive Stop (p : Prop) : Prop where
  | go (h : p)
  | too (h : p)
theorem Stop.out {p : Prop} : Stop p → p
  | .go h => h
  | .too h => h
/-- xs[:n] -/
theorem cutV_take (ns : List Int) (n : Nat) : cutV (ns.map V.int) none (some (n : Int)) = (ns.take n).map V.int := by
  unfold cutV
  have e0 : HT.sIx (ns.map V.int).length 0 none = 0 := rfl
  have e1 : HT.sIx (ns.map V.int).length (ns.map V.int).length (some (n : Int)) = min n (ns.map V.int).length := by
    unfold HT.sIx
    simp
    omega
  rw [e0, e1]
  simp [List.map_take]
theorem get_int {ms : List Int} {i : Nat} {x : V} (h : (ms.map V.int)[i]? = some x) : ∃ z, ms[i]? = some z ∧ x = .int z := by
  rw [List.getElem?_map] at h
  cases e : ms[i]? with
  | none => rw [e] at h; cases h
  | some z => rw [e] at h; exact ⟨z, rfl, (Option.some.inj h).symm⟩
theorem take_one {α : Type} {ms : List α} {i : Nat} {z : α} (h : ms[i]? = some z) : ms.take (i + 1) = ms.take i ++ [z] := by
  rw [List.take_succ, h] <;> rfl
theorem ne_fresh {H : Hp} {a b : Addr} {o : HO} (h : H b = none) (e : H a = some o) : a ≠ b := ne_of_none e h
theorem empty_app (x : Str) : Str.empty ++ x = x := by
  cases x with
  | mk a =>
    show (⟨#[] ++ a⟩ : Str) = ⟨a⟩
    simp
theorem max_if (a c : Int) : (if c > a then c else a) = max a c := by omega
theorem min_if (a c : Int) : (if c < a then c else a) = min a c := by omega
theorem at_ints {cs : List Int} {i : Int} (h0 : 0 ≤ i) (h : i < ((cs.map V.int).length : Nat)) : ∃ z, atI (cs.map V.int) i = some (.int z) := by
  have hl : i.toNat < cs.length := by rw [List.length_map] at h; omega
  refine ⟨cs[i.toNat], at_of (j := i.toNat) (by omega) ?_⟩
  rw [List.getElem?_map, List.getElem?_eq_getElem hl] <;> rfl
/-- the item at a drawn place of a written list -/
theorem at_lt {α : Type} {xs : List α} {i : Int} (h0 : 0 ≤ i) (h : i < (xs.length : Int)) : ∃ x, atI xs i = some x ∧ x ∈ xs := by
  have hl : i.toNat < xs.length := by omega
  refine ⟨xs[i.toNat], ?_, List.getElem_mem hl⟩
  have e := atI_nat (List.getElem?_eq_getElem hl)
  rw [show ((i.toNat : Nat) : Int) = i by omega] at e
  exact e
/-- all but b stands as it stood -/
def ExB (b : Addr) (H H' : Hp) : Prop := ∀ a o, a ≠ b → H a = some o → H' a = some o
theorem ExB.refl {b : Addr} {H : Hp} : ExB b H H := fun _ _ _ e => e
theorem ExB.trans {b : Addr} {H H1 H2 : Hp} (x : ExB b H H1) (y : ExB b H1 H2) : ExB b H H2 := fun a o n e => y a o n (x a o n e)
theorem ExB.same {b : Addr} {H H1 H2 : Hp} (x : ExB b H H1) (y : Same H1 H2) : ExB b H H2 := fun a o n e => y a o (x a o n e)
theorem ExB.of {b : Addr} {H H1 : Hp} (y : Same H H1) : ExB b H H1 := fun a o _ e => y a o e
theorem ExB.upd {b : Addr} {H H' : Hp} {o : HO} (x : ExB b H H') : ExB b H (upd H' b o) := fun a u ha e => by rw [upd_ne ha]; exact x a u ha e
theorem Same.new {H H' : Hp} {p : Addr} {o : HO} (x : Same H H') (h : H' p = none) : Same H (upd H' p o) := fun a u e => by
  have q := x a u e
  rw [upd_ne (ne_of_none q h)]
  exact q
theorem ExB.new {b : Addr} {H H' : Hp} {p : Addr} {o : HO} (x : ExB b H H') (h : H' p = none) : ExB b H (L2.upd H' p o) := fun a u n e => by
  have q := x a u n e
  rw [upd_ne (ne_of_none q h)]
  exact q
/-- nothing stands at p behind either -/
theorem none_back {H H' : Hp} {p : Addr} (x : Same H H') (h : H' p = none) : H p = none := Same.free x h
theorem none_backB {b : Addr} {H H' : Hp} {p : Addr} (x : ExB b H H') (n : p ≠ b) (h : H' p = none) : H p = none := by
  cases e : H p with
  | none => rfl
  | some o => rw [x p o n e] at h; cases h

theorem hot_of {A : Around} {k : Nat} {v : Option Value} (r : Room k A) : L2H.RoomH k (A.mark v) := ⟨r.dp, r.un⟩
/-! ### an error of the program with fields: made, raised -/
/-- what its __init__ leaves -/
def spEx (C : Addr) (fs : List V → Option (List (Str × V))) : Sp := fun vs H Q _ => ∃ (a : Addr) (ws : List V) (l : List (Str × V)), vs = .ref a :: ws ∧ fs ws = some l ∧
  H a = some (exo a C none) ∧ ∀ d H', H d = none → d ≠ a → H' a = some (exo a C (some d)) → H' d = some (exd d l) → (∀ q o, q ≠ a → H q = some o → H' q = some o) → Q .non H'
/-- the wish of what is raised: an error of the class at C with these fields, all else as it stood -/
def Wish (C : Addr) (l : List (Str × V)) (H : Hp) (E : Value → Option Addr → Hp → Prop) : Prop := ∀ d H', H' d = some (.xd l) → Same H H' → E (.ref C) (some d) H'
theorem mk_ex {C : Addr} {fs : List V → Option (List (Str × V))} {vs : List V} {l : List (Str × V)} {H : Hp} {E : XK} (hl : vs.length ≤ 1000) (hf : fs vs = some l) (k : Wish C l H E) :
    vs.length ≤ 1000 ∧ ∀ a, H a = none → spEx C fs (.ref a :: (vs ++ [])) (upd H a (exo a C none))
      (fun v H2 => v = .non ∧ ∃ (d : Addr) (g : List (Str × V)), H2 a = some (exo a C (some d)) ∧ H2 d = some (exd d g) ∧ H d = none ∧ E (.ref C) (some d) (upd (del H2 a) d (.xd g))) (fun _ _ _ => False) := by
  refine ⟨hl, fun a ha => ⟨a, vs, l, by rw [List.append_nil], hf, upd_same, fun d H' hd hda ea ed x => ⟨rfl, d, l, ea, ed, ?_, k d _ upd_same fun q o e => ?_⟩⟩⟩
  · rw [upd_ne hda] at hd
    exact hd
  · have hqa : q ≠ a := ne_of_none e ha
    have hqd : q ≠ d := fun z => by
      rw [upd_ne hda] at hd
      rw [z, hd] at e
      cases e
    rw [upd_ne hqd, del_ne hqa]
    refine x q o hqa ?_
    rw [upd_ne hqa]
    exact e
theorem init_ex1 {K : PySem.W.Frag} {C a : Addr} {f : Str} {v : V} {H : Hp} {Q : Hp → Prop} (oc : OexC K C) (hn : PySem.W.findIn K (.ref C) f = some none) (ha : H a = some (exo a C none))
    (k : ∀ d H', H d = none → d ≠ a → H' a = some (exo a C (some d)) → H' d = some (exd d [(f, v)]) → (∀ q o, q ≠ a → H q = some o → H' q = some o) → Q H') :
    ∃ a' C' : Addr, V.ref a = .ref a' ∧ OexC K C' ∧ PySem.W.findIn K (.ref C') f = some none ∧
      ((H a' = some (exo a' C' none) ∧ ∀ dx, H dx = none → dx ≠ a' → Q (upd (upd H dx (exd dx [(f, v)])) a' (exo a' C' (some dx)))) ∨
        ∃ (dx : Addr) (fs : List (Str × V)), H a' = some (exo a' C' (some dx)) ∧ H dx = some (exd dx fs) ∧ fs.length ≤ 900 ∧ Q (upd H dx (exd dx ((f, v) :: fs)))) := by
  refine ⟨a, C, rfl, oc, hn, .inl ⟨ha, fun dx hd hne => k dx _ hd hne upd_same (by rw [upd_ne hne]; exact upd_same) fun q o hq e => ?_⟩⟩
  rw [upd_ne hq, upd_ne (ne_of_none e hd)]
  exact e
theorem init_ex2 {K : PySem.W.Frag} {C a d : Addr} {f : Str} {v : V} {l : List (Str × V)} {H : Hp} {Q : Hp → Prop} (oc : OexC K C) (hn : PySem.W.findIn K (.ref C) f = some none) (hl : l.length ≤ 900)
    (ha : H a = some (exo a C (some d))) (hd : H d = some (exd d l)) (hda : d ≠ a)
    (k : ∀ H', H' a = some (exo a C (some d)) → H' d = some (exd d ((f, v) :: l)) → (∀ q o, q ≠ a → q ≠ d → H q = some o → H' q = some o) → Q H') :
    ∃ a' C' : Addr, V.ref a = .ref a' ∧ OexC K C' ∧ PySem.W.findIn K (.ref C') f = some none ∧
      ((H a' = some (exo a' C' none) ∧ ∀ dx, H dx = none → dx ≠ a' → Q (upd (upd H dx (exd dx [(f, v)])) a' (exo a' C' (some dx)))) ∨
        ∃ (dx : Addr) (fs : List (Str × V)), H a' = some (exo a' C' (some dx)) ∧ H dx = some (exd dx fs) ∧ fs.length ≤ 900 ∧ Q (upd H dx (exd dx ((f, v) :: fs)))) := by
  refine ⟨a, C, rfl, oc, hn, .inr ⟨d, l, ha, hd, hl, k _ (by rw [upd_ne hda.symm]; exact ha) upd_same fun q o _ hq e => by rw [upd_ne hq]; exact e⟩⟩
end XR
namespace XR
open PySem L2
theorem ifF {c : Bool} {P Q : Prop} (h : c = false) (k : Q) : if c = true then P else Q := by rw [h, if_neg (by decide)]; exact k
theorem ifT {c : Bool} {P Q : Prop} (h : c = true) (k : P) : if c = true then P else Q := by rw [if_pos h]; exact k
end XR
namespace XR
open PySem L2
section
variable {X : Cx} {a b : Addr} {oe : Obj} {cls : Value} {d : Option Addr} {pn : List (Addr × Obj)}
theorem call_isPs (hz : Zc cls d oe) (hf : ∃ vs, oe.data = .fields vs) : CallR (X.suite b ((a, oe) :: pn)) (.builtin "isinstance") (rIsP X.K cls d a) := call_isP List.mem_cons_self hz hf
theorem call_isPTs (hz : Zc cls d oe) (hf : ∃ vs, oe.data = .fields vs) : CallR (X.suite b ((a, oe) :: pn)) (.builtin "isinstance") (rIsPT X.K cls d a) := call_isPT List.mem_cons_self hz hf
theorem pe_pfs {e : Expr} {te : TE} {pos : Pos} {n : Str} (hz : Zc cls d oe) (hf : ∃ vs, oe.data = .fields vs) (he : PE (X.suite b ((a, oe) :: pn)) e te)
    (hb : attributeBase e n (X.suite b ((a, oe) :: pn)).env (eval e (X.suite b ((a, oe) :: pn)).env) = eval e (X.suite b ((a, oe) :: pn)).env := by rfl) : PE (X.suite b ((a, oe) :: pn)) (.Attribute e n pos) (tPf X.K a cls d n te) :=
  pe_pf List.mem_cons_self hz hf he hb
theorem pe_callQs {k : Nat} {f : Addr} {fd : FuncData} {ps : List Str} {sp : SpQ} {x : Str} {q pos : Pos} {e : Expr} {es : List Expr} {t : TA}
    (F : FnQ (X.suite b ((a, oe) :: pn)).prog (X.suite b ((a, oe) :: pn)).w (X.suite b ((a, oe) :: pn)).K (X.suite b ((a, oe) :: pn)).mg (X.suite b ((a, oe) :: pn)).base k f fd ps sp) (hr : L2H.RoomH k (X.suite b ((a, oe) :: pn)).A) (hg : Gl (X.suite b ((a, oe) :: pn)) x) (hm : (X.suite b ((a, oe) :: pn)).mg x = some (.ref f))
    (hk : PySem.W.keepIn (X.suite b ((a, oe) :: pn)).K (.ref f) = true) (hb : Binds (X.suite b ((a, oe) :: pn)).K fd ps []) (ha : PA (X.suite b ((a, oe) :: pn)) (e :: es) t) (hdb : (x == ("__debug__" : Str)) = false := by decide)
    (he : starEach (e :: es) (X.suite b ((a, oe) :: pn)).env = (false, eval e (X.suite b ((a, oe) :: pn)).env) :: starEach es (X.suite b ((a, oe) :: pn)).env := by rfl) (hpl : (backTo pos (starEach es (X.suite b ((a, oe) :: pn)).env)).any (·.1) = false := by rfl) :
    PE (X.suite b ((a, oe) :: pn)) (.Call (.Name x q) (e :: es) [] pos) (tCallQ (sp (a, oe)) t) := pe_callQ (p := (a, oe)) F hr List.mem_cons_self hg hm hk hb ha hdb he hpl
end
end XR
namespace XR
open PySem L2
theorem cong_ts {X : Cx} {ss : List Stmt} {t t' : TS} (h : PSs X ss t) (e : t = t') : PSs X ss t' := e ▸ h
end XR
namespace XR
open PySem L2
theorem kitAny_cons {K : PySem.W.Frag} {t c : Value} {r : List Value} (h : PySem.W.kitOne K t c = some false) (hr : PySem.W.kitAny K t r = some false) : PySem.W.kitAny K t (c :: r) = some false := by
  unfold PySem.W.kitAny
  rw [h]
  exact hr
theorem kitAny_4 {K : PySem.W.Frag} {t a b c d : Value} (h1 : PySem.W.kitOne K t a = some false) (h2 : PySem.W.kitOne K t b = some false) (h3 : PySem.W.kitOne K t c = some false) (h4 : PySem.W.kitOne K t d = some false) : PySem.W.kitAny K t [a, b, c, d] = some false :=
  kitAny_cons h1 (kitAny_cons h2 (kitAny_cons h3 (kitAny_cons h4 rfl)))
end XR
namespace XR
open PySem L2
/-- .. in a comprehension's block -/
theorem ix_listb {X : Cx} {s : Shared} {H : Hp} {sc : Scope} {ce : Env} {fp : List Addr} : IxR (X.blk s H sc ce fp) (rIxL X.K) := ix_list
theorem ix_tupb {X : Cx} {s : Shared} {H : Hp} {sc : Scope} {ce : Env} {fp : List Addr} : IxR (X.blk s H sc ce fp) (rIxT X.K) := ix_tup
end XR
namespace XR
open PySem PySem.Spec PyProof.Rows L2
structure CStat (K : PySem.W.Frag) (C p g : Addr) (m : Str) : Prop where
  rd : PySem.W.readsIn K C (.type "type") = true
  ga : PySem.W.specialIn K (.ref C) "__getattribute__" = some (some (.builtin "type.__getattribute__"))
  at_ : PySem.W.findCls K (.ref C) (.type "type") m = some (.get (.builtin "staticmethod.__get__") (.ref p) .none (.ref C))
  rc : ∃ rest, PySem.W.recIn K p "staticmethod" = some (.ref g :: rest)
section
variable {X : Cx} {pins : List (Addr × Obj)} {σ : L2.St} {H : Hp} {s : Shared} {C p g : Addr} {m : Str} {A : Around} {E : Value → Shared → Prop}
theorem getstat_ok {pl : Sem Bool} {Q : Value × List Value → Shared → Prop} (I : Inv X pins σ H s) (r : CStat X.K C p g m) (h : ∀ s', Inv X pins σ H s' → Q (.ref g, []) s') : wpAny (model X.prog X.w) A (getMethod (.ref C) m pl) Q E s := by
  obtain ⟨rest, hp⟩ := r.rc
  exact PySem.W.method_cls I.kIn r.ga (PySem.W.cls_bind I.kIn r.rd r.at_ (wpAny_call (PySem.W.sm_get (s := { s with toks := s.toks + 1 }) I.kIn hp (PySem.W.handed_on rfl (h _ (I.tok _))))))
end
/-- C.m(..), m a staticmethod; E told at the caller's slots -/
def tStat (C : Addr) (sp : Sp) (E : L2.St → XK) (ta : TE) (t : TA) : TE := fun σ H Q => ta σ H fun x H1 => x = .ref C ∧ t σ H1 fun vs H2 => sp vs H2 Q (E σ)
section
variable {X : Cx} {CX : CXT} {k : Nat} {C p g : Addr} {fd : FuncData} {ps : List Str} {sp : Sp} {ES : L2.St → XK} {o e : Expr} {es : List Expr} {m : Str} {pos apos : Pos} {ta : TE} {t : TA} {pl : Sem Bool}
theorem pe_stat (he : PE X o ta) (r : CStat X.K C p g m) (F : FnOk X.prog X.w X.K X.mg X.base CX k g fd ps sp) (hr : Room k X.A) (hk : PySem.W.keepIn X.K (.ref g) = true) (hb : Binds X.K fd ps []) (hx : ∀ σ, PassesAt CX X σ (ES σ)) (ha : PA X (e :: es) t)
    (hst : starEach (e :: es) X.env = (false, eval e X.env) :: starEach es X.env := by rfl) (hpl : (backTo pos (starEach es X.env)).any (·.1) = false := by rfl)
    (ht : eval (.Call (.Attribute o m apos) (e :: es) [] pos) X.env = (do
      let ov ← eval o X.env
      standAt apos.atName
      let (f, first) ← holding [ov] (getMethod ov m pl)
      callWith pos f first (backTo pos (starEach (e :: es) X.env)) (backToKw pos (keywordEach [] X.env))) := by rfl) :
    PE X (.Call (.Attribute o m apos) (e :: es) [] pos) (tStat C sp ES ta t) := by
  refine ⟨fun pins s σ H Q I h => ?_⟩
  refine PySem.W.methodCall_KW (pl := pl) (thn (he.run pins s σ H _ I h) fun u s1 ⟨x, H1, I1, rx, ex, q⟩ => ?_) ht
  subst ex
  obtain rfl : u = Value.ref C := rx
  refine getstat_ok I1 r fun s2 I2 => ?_
  refine PySem.W.callWith_K (h₀ := X.base) I.ok.mod.kin hk (thn (ha.run pos _ s2 σ H1 _ I2 q) fun us s3 ⟨vs, H2, I3, rv, q2⟩ => ⟨I3.kIn, ?_⟩) hst hpl
  exact run_at F hr rfl hb (hx σ) I3 rv q2
theorem pe_stat0 (he : PE X o ta) (r : CStat X.K C p g m) (F : FnOk X.prog X.w X.K X.mg X.base CX k g fd ps sp) (hr : Room k X.A) (hk : PySem.W.keepIn X.K (.ref g) = true) (hb : Binds X.K fd ps []) (hx : ∀ σ, PassesAt CX X σ (ES σ))
    (ht : eval (.Call (.Attribute o m apos) [] [] pos) X.env = (do
      let ov ← eval o X.env
      standAt apos.atName
      let (f, first) ← holding [ov] (getMethod ov m pl)
      callWith pos f first (backTo pos (starEach [] X.env)) (backToKw pos (keywordEach [] X.env))) := by rfl) :
    PE X (.Call (.Attribute o m apos) [] [] pos) (tStat C sp ES ta tNil) := by
  refine ⟨fun pins s σ H Q I h => ?_⟩
  refine PySem.W.methodCall_KW (pl := pl) (thn (he.run pins s σ H _ I h) fun u s1 ⟨x, H1, I1, rx, ex, q⟩ => ?_) ht
  subst ex
  obtain rfl : u = Value.ref C := rx
  refine getstat_ok I1 r fun s2 I2 => ?_
  exact PySem.W.callWith_K0 I2.kIn hk (run_at (us := []) F hr rfl hb (hx σ) I2 .nil q)
end
end XR
namespace XR
open PySem L2
/-- turns over a range, whatever a turn does -/
theorem turn_range {lo : Int} {n : Nat} {H0 : Hp} {Qd : Hp → Prop} {Body : V → Hp → (Hp → Prop) → Prop} (Pv : Nat → Hp → Prop) (h0 : Pv 0 H0) (hs : ∀ i H, i < n → Pv i H → Body (.int (lo + i)) H (Pv (i + 1))) (hd : ∀ H, Pv n H → Qd H) :
    ∃ W : Nat → Nat → Hp → Prop, (∃ m, W 0 m H0) ∧ ∀ i m H, W i m H →
      ((Itr lo n).stop i H ∧ Qd H) ∨ ((Itr lo n).go i H ∧ ∃ Nx : Hp → Prop, (∀ H', Nx H' → ∃ m', m' < m ∧ W (i + 1) m' H') ∧ ∀ x H', (Itr lo n).yld i H x H' → Body x H' Nx) := by
  refine ⟨fun i m H => m = n - i ∧ i ≤ n ∧ Pv i H, ⟨n, by simp, Nat.zero_le _, h0⟩, ?_⟩
  rintro i m H ⟨rfl, hi, p⟩
  by_cases hlt : i < n
  · refine .inr ⟨hlt, Pv (i + 1), fun H' p' => ⟨n - (i + 1), by omega, rfl, hlt, p'⟩, fun x H' y => ?_⟩
    obtain ⟨e, y⟩ := y
    subst e y
    exact hs i _ hlt p
  · have e : i = n := by omega
    subst e
    exact .inl ⟨Nat.le_refl _, hd H p⟩
end XR
set_option Elab.async false
set_option linter.all false
set_option maxRecDepth 100000
set_option maxHeartbeats 4000000
/-! views: what is settled (G) within the heap (H); data by PyData -/
namespace XR
open PySem PySem.Spec PyProof.Rows L2
theorem SqL.same {K : PySem.W.Frag} {G H : Hp} {a : Addr} {xs : List V} (h : SqL K G a xs) (v : Same G H) : SqL K H a xs := Same.seq v h
theorem SqT.same {K : PySem.W.Frag} {G H : Hp} {a : Addr} {xs : List V} (h : SqT K G a xs) (v : Same G H) : SqT K H a xs := by
  rcases h with h | h
  · rcases h with h | ⟨o, h⟩
    · exact .inl (.inl (v _ _ h))
    · exact .inl (.inr ⟨o, v _ _ h⟩)
  · exact .inr h
mutual
theorem Dp.same {K : PySem.W.Frag} {G H : Hp} (v : Same G H) : ∀ {x : V} {d : PyData}, Dp K G x d → Dp K H x d
  | _, _, .non => .non
  | _, _, .bl b => .bl b
  | _, _, .int i => .int i
  | _, _, .str i => .str i
  | _, _, .lst s a => .lst (SqL.same s v) (DpAll.same v a)
  | _, _, .tup s a => .tup (SqT.same s v) (DpAll.same v a)
theorem DpAll.same {K : PySem.W.Frag} {G H : Hp} (v : Same G H) : ∀ {xs : List V} {ds : List PyData}, DpAll K G xs ds → DpAll K H xs ds
  | _, _, .nil => .nil
  | _, _, .cons a b => .cons (Dp.same v a) (DpAll.same v b)
end
theorem Dp.int_inv {K : PySem.W.Frag} {G : Hp} {x : V} {z : Int} (h : Dp K G x (.int z)) : x = .int z := by cases h; rfl
theorem Dp.bl_inv {K : PySem.W.Frag} {G : Hp} {x : V} {z : Bool} (h : Dp K G x (.bool z)) : x = .bl z := by cases h; rfl
theorem Dp.str_inv {K : PySem.W.Frag} {G : Hp} {x : V} {z : Str} (h : Dp K G x (.str z)) : x = .str z := by cases h; rfl
theorem Dp.non_inv {K : PySem.W.Frag} {G : Hp} {x : V} (h : Dp K G x .none) : x = .non := by cases h; rfl
theorem Dp.lst_inv {K : PySem.W.Frag} {G : Hp} {x : V} {ds : List PyData} (h : Dp K G x (.list ds)) : ∃ p xs, x = .ref p ∧ SqL K G p xs ∧ DpAll K G xs ds := by
  cases h with | lst s a => exact ⟨_, _, rfl, s, a⟩
theorem Dp.tup_inv {K : PySem.W.Frag} {G : Hp} {x : V} {ds : List PyData} (h : Dp K G x (.tuple ds)) : ∃ p xs, x = .ref p ∧ SqT K G p xs ∧ DpAll K G xs ds := by
  cases h with | tup s a => exact ⟨_, _, rfl, s, a⟩
theorem DpAll.length {K : PySem.W.Frag} {G : Hp} : ∀ {xs : List V} {ds : List PyData}, DpAll K G xs ds → xs.length = ds.length
  | _, _, .nil => rfl
  | _, _, .cons _ b => congrArg (· + 1) (DpAll.length b)
theorem DpAll.get {K : PySem.W.Frag} {G : Hp} : ∀ {xs : List V} {ds : List PyData} {i : Nat} {x : V}, DpAll K G xs ds → xs[i]? = some x → ∃ d, ds[i]? = some d ∧ Dp K G x d
  | _, _, _, _, .nil, e => by cases e
  | _, _, 0, _, .cons a _, e => by cases e; exact ⟨_, rfl, a⟩
  | _, _, i + 1, _, .cons _ b, e => DpAll.get (i := i) b e
theorem DpAll.get' {K : PySem.W.Frag} {G : Hp} : ∀ {xs : List V} {ds : List PyData} {i : Nat} {d : PyData}, DpAll K G xs ds → ds[i]? = some d → ∃ x, xs[i]? = some x ∧ Dp K G x d
  | _, _, _, _, .nil, e => by cases e
  | _, _, 0, _, .cons a _, e => by cases e; exact ⟨_, rfl, a⟩
  | _, _, i + 1, _, .cons _ b, e => DpAll.get' (i := i) b e
theorem DpAll.append {K : PySem.W.Frag} {G : Hp} {ys : List V} {es : List PyData} (q : DpAll K G ys es) : ∀ {xs : List V} {ds : List PyData}, DpAll K G xs ds → DpAll K G (xs ++ ys) (ds ++ es)
  | _, _, .nil => q
  | _, _, .cons a b => .cons a (DpAll.append q b)
theorem DpAll.snoc {K : PySem.W.Frag} {G : Hp} {xs : List V} {ds : List PyData} {y : V} {e : PyData} (p : DpAll K G xs ds) (q : Dp K G y e) : DpAll K G (xs ++ [y]) (ds ++ [e]) := DpAll.append (.cons q .nil) p
theorem DpAll.ints {K : PySem.W.Frag} {G : Hp} : ∀ {xs : List V} {ns : List Int}, DpAll K G xs (ns.map PyData.int) → xs = ns.map V.int
  | _, [], .nil => rfl
  | _, _ :: _, .cons a b => by rw [Dp.int_inv a, DpAll.ints b]; rfl
theorem DpAll.of_ints {K : PySem.W.Frag} {G : Hp} : ∀ (ns : List Int), DpAll K G (ns.map V.int) (ns.map PyData.int)
  | [] => .nil
  | n :: r => .cons (.int n) (DpAll.of_ints r)
/-- a pair of ints -/
abbrev pD : Int × Int → PyData := fun c => .tuple [.int c.1, .int c.2]
abbrev pDs (cs : List (Int × Int)) : List PyData := cs.map pD
theorem Dp.pair {K : PySem.W.Frag} {G : Hp} {x : V} {c : Int × Int} (h : Dp K G x (pD c)) : ∃ p, x = .ref p ∧ SqT K G p [.int c.1, .int c.2] := by
  obtain ⟨p, xs, rfl, s, a⟩ := Dp.tup_inv h
  cases a with | cons a1 a2 =>
  cases a2 with | cons b1 b2 =>
  cases b2
  rw [Dp.int_inv a1, Dp.int_inv b1] at s
  exact ⟨p, rfl, s⟩
theorem Dp.mk_pair {K : PySem.W.Frag} {G : Hp} {p : Addr} {a b : Int} (h : SqT K G p [.int a, .int b]) : Dp K G (.ref p) (pD (a, b)) := .tup h (.cons (.int a) (.cons (.int b) .nil))
theorem pairs_get {K : PySem.W.Frag} {G : Hp} {xs : List V} {cs : List (Int × Int)} {i : Nat} {x : V} (h : DpAll K G xs (pDs cs)) (e : xs[i]? = some x) : ∃ c p, cs[i]? = some c ∧ x = .ref p ∧ SqT K G p [.int c.1, .int c.2] ∧ Dp K G (.ref p) (pD c) := by
  obtain ⟨d, hd, q⟩ := DpAll.get h e
  rw [List.getElem?_map] at hd
  cases ec : cs[i]? with
  | none => rw [ec] at hd; cases hd
  | some c =>
    rw [ec] at hd
    cases hd
    obtain ⟨p, rfl, s⟩ := Dp.pair q
    exact ⟨c, p, rfl, rfl, s, q⟩
theorem pairs_at {K : PySem.W.Frag} {G : Hp} {xs : List V} {cs : List (Int × Int)} {i : Nat} {c : Int × Int} (h : DpAll K G xs (pDs cs)) (e : cs[i]? = some c) : ∃ p, xs[i]? = some (.ref p) ∧ SqT K G p [.int c.1, .int c.2] ∧ Dp K G (.ref p) (pD c) := by
  obtain ⟨x, hx, q⟩ := DpAll.get' (i := i) (d := pD c) h (by rw [List.getElem?_map, e]; rfl)
  obtain ⟨p, rfl, s⟩ := Dp.pair q
  exact ⟨p, hx, s, q⟩
/-! ### steps -/
/-- from (G, H) to (G', H'): nothing changes, what is new in the view is new -/
structure Step (G H G' H' : Hp) : Prop where
  vw : Same G' H'
  gg : Same G G'
  hh : Same H H'
  fr : ∀ a, H a ≠ none → G a = none → G' a = none
theorem Step.refl {G H : Hp} (v : Same G H) : Step G H G H := ⟨v, Same.refl _, Same.refl _, fun _ _ e => e⟩
theorem Same.some {H H' : Hp} {a : Addr} (x : Same H H') (h : H a ≠ none) : H' a ≠ none := fun e => h (Same.free x e)
theorem Step.trans {G H G1 H1 G2 H2 : Hp} (a : Step G H G1 H1) (b : Step G1 H1 G2 H2) : Step G H G2 H2 :=
  ⟨b.vw, a.gg.trans b.gg, a.hh.trans b.hh, fun p h e => b.fr p (Same.some a.hh h) (a.fr p h e)⟩
theorem Step.same {G H H' : Hp} (v : Same G H) (x : Same H H') : Step G H G H' := ⟨v.trans x, Same.refl _, x, fun _ _ e => e⟩
theorem Step.more {G H G1 H1 H2 : Hp} (a : Step G H G1 H1) (x : Same H1 H2) : Step G H G1 H2 := a.trans (Step.same a.vw x)
theorem Same.upd2 {G H : Hp} {p : Addr} {o : HO} (v : Same G H) : Same (upd G p o) (upd H p o) := fun q u e => by
  by_cases z : q = p
  · subst z
    rw [upd_same] at e
    rw [upd_same]
    exact e
  · rw [upd_ne z] at e
    rw [upd_ne z]
    exact v _ _ e
theorem Same.add {H : Hp} {p : Addr} {o : HO} (h : H p = none) : Same H (upd H p o) := fun q u e => by rw [upd_ne (ne_of_none e h)]; exact e
theorem fr_add {G H : Hp} {p : Addr} {o : HO} (h : H p = none) : ∀ a, H a ≠ none → G a = none → (upd G p o) a = none := fun a ha e => by
  rw [upd_ne (fun z => ha (by rw [z]; exact h))]
  exact e
/-- a new settled object -/
theorem Step.new {G H : Hp} {p : Addr} {o : HO} (v : Same G H) (h : H p = none) : Step G H (upd G p o) (upd H p o) :=
  ⟨Same.upd2 v, Same.add (Same.free v h), Same.add h, fr_add h⟩
/-- .. made by a callee -/
theorem Step.lift {G H H' : Hp} {p : Addr} {o : HO} (v : Same G H) (h : H p = none) (x : Same H H') (e : H' p = some o) : Step G H (upd G p o) H' :=
  ⟨fun q u z => by
    by_cases n : q = p
    · subst n
      rw [upd_same] at z
      exact e.trans z
    · rw [upd_ne n] at z
      exact x _ _ (v _ _ z), Same.add (Same.free v h), x, fr_add h⟩
/-- a new object that may still change -/
theorem Step.mut {G H : Hp} {p : Addr} {o : HO} (v : Same G H) (h : H p = none) : Step G H G (upd H p o) := Step.same v (Same.add h)
/-- .. changed -/
theorem Step.upd {G H G' H' : Hp} {l : Addr} {o : HO} (s : Step G H G' H') (h : H l = none) (g : G' l = none) : Step G H G' (upd H' l o) :=
  ⟨fun q u e => by rw [upd_ne (ne_of_none e g)]; exact s.vw _ _ e, s.gg, fun q u e => by rw [upd_ne (ne_of_none e h)]; exact s.hh _ _ e, s.fr⟩
/-- .. settled -/
theorem Step.freeze {G H G' H' : Hp} {l : Addr} {o : HO} (s : Step G H G' H') (h : H l = none) (g : G' l = none) (e : H' l = some o) : Step G H (L2.upd G' l o) H' :=
  ⟨fun q u z => by
    by_cases n : q = l
    · subst n
      rw [L2.upd_same] at z
      exact e.trans z
    · rw [upd_ne n] at z
      exact s.vw _ _ z, s.gg.trans (Same.add g), s.hh, fun a ha ea => by rw [upd_ne (fun z => ha (by rw [z]; exact h))]; exact s.fr a ha ea⟩
/-- a list that grows -/
structure Grow (K : PySem.W.Frag) (G H : Hp) (l : Addr) (out : List PyData) (G' H' : Hp) (acc : List V) : Prop where
  st : XR.Step G H G' H'
  nl : H l = none
  gl : G' l = none
  el : H' l = some (.lst acc)
  ds : DpAll K G' acc out
/-- .. somehow -/
def LcI (K : PySem.W.Frag) (G H : Hp) (l : Addr) (out : List PyData) (H' : Hp) : Prop := ∃ G' acc, Grow K G H l out G' H' acc
section
variable {K : PySem.W.Frag} {G H G' H' G1 H1 : Hp} {l : Addr} {out : List PyData} {acc : List V}
theorem Grow.start (v : Same G H) (h : H l = none) : Grow K G H l [] G (upd H l (.lst [])) [] := ⟨Step.mut v h, h, Same.free v h, upd_same, .nil⟩
theorem LcI.start (v : Same G H) (h : H l = none) : LcI K G H l [] (upd H l (.lst [])) := ⟨_, _, Grow.start v h⟩
theorem Grow.len (g : Grow K G H l out G' H' acc) : acc.length = out.length := XR.DpAll.length g.ds
theorem Grow.step (g : Grow K G H l out G' H' acc) (s : Step G' H' G1 H1) : Grow K G H l out G1 H1 acc :=
  ⟨g.st.trans s, g.nl, s.fr _ (by rw [g.el]; exact fun z => by cases z) g.gl, s.hh _ _ g.el, DpAll.same s.gg g.ds⟩
theorem Grow.add (g : Grow K G H l out G' H' acc) {v : V} {d : PyData} (q : Dp K G' v d) : Grow K G H l (out ++ [d]) G' (upd H' l (.lst (acc ++ [v]))) (acc ++ [v]) :=
  ⟨g.st.upd g.nl g.gl, g.nl, g.gl, upd_same, DpAll.snoc g.ds q⟩
/-- a comprehension's turn that adds -/
theorem Grow.push (g : Grow K G H l out G' H' acc) {v : V} {d : PyData} (q : Dp K G' v d) (hl : out.length < sizeLine) :
    ∃ acc, H' l = some (.lst acc) ∧ acc.length < sizeLine ∧ LcI K G H l (out ++ [d]) (upd H' l (.lst (acc ++ [v]))) :=
  ⟨acc, g.el, by rw [g.len]; exact hl, _, _, g.add q⟩
/-- the list is settled -/
theorem Grow.freeze (g : Grow K G H l out G' H' acc) : Step G H (upd G' l (.lst acc)) H' ∧ Dp K (upd G' l (.lst acc)) (.ref l) (.list out) :=
  ⟨g.st.freeze g.nl g.gl g.el, .lst (SqL.of upd_same) (DpAll.same (Same.add g.gl) g.ds)⟩
end
/-! ### steps with one object b that changes (a law's box) -/
structure StB (b : Addr) (G H G' H' : Hp) : Prop where
  vw : Same G' H'
  gg : Same G G'
  gb : G' b = none
  hh : ExB b H H'
section
variable {K : PySem.W.Frag} {b p l : Addr} {G H G1 H1 G2 H2 : Hp} {o : HO} {out : List PyData} {acc : List V}
theorem StB.refl (v : Same G H) (g : G b = none) : StB b G H G H := ⟨v, Same.refl _, g, ExB.refl⟩
theorem StB.trans (s : StB b G H G1 H1) (t : StB b G1 H1 G2 H2) : StB b G H G2 H2 := ⟨t.vw, s.gg.trans t.gg, t.gb, s.hh.trans t.hh⟩
theorem StB.draw (s : StB b G H G1 H1) (x : ExB b H1 H2) : StB b G H G1 H2 :=
  ⟨fun a u e => x a u (fun z => by rw [z, s.gb] at e; cases e) (s.vw a u e), s.gg, s.gb, s.hh.trans x⟩
theorem StB.new (s : StB b G H G1 H1) (h : H1 p = none) (n : p ≠ b) : StB b G H (upd G1 p o) (upd H1 p o) :=
  ⟨Same.upd2 s.vw, s.gg.trans (Same.add (Same.free s.vw h)), by rw [upd_ne n.symm]; exact s.gb, s.hh.new h⟩
theorem StB.mut (s : StB b G H G1 H1) (h : H1 p = none) : StB b G H G1 (upd H1 p o) := ⟨s.vw.trans (Same.add h), s.gg, s.gb, s.hh.new h⟩
theorem StB.upd (s : StB b G H G1 H1) (h : H p = none) (g : G1 p = none) : StB b G H G1 (L2.upd H1 p o) :=
  ⟨fun q u e => by rw [upd_ne (ne_of_none e g)]; exact s.vw _ _ e, s.gg, s.gb, fun q u n e => by rw [upd_ne (ne_of_none e h)]; exact s.hh _ _ n e⟩
theorem StB.step (s : StB b G H G1 H1) (hb : H1 b ≠ none) (t : Step G1 H1 G2 H2) : StB b G H G2 H2 := ⟨t.vw, s.gg.trans t.gg, t.fr _ hb s.gb, s.hh.same t.hh⟩
theorem StB.same (s : StB b G H G1 H1) (t : Same H1 H2) : StB b G H G1 H2 := ⟨s.vw.trans t, s.gg, s.gb, s.hh.same t⟩
theorem StB.freeze (s : StB b G H G1 H1) (n : p ≠ b) (g : G1 p = none) (e : H1 p = some o) : StB b G H (L2.upd G1 p o) H1 :=
  ⟨fun q u z => by
    by_cases n : q = p
    · subst n
      rw [upd_same] at z
      exact e.trans z
    · rw [upd_ne n] at z
      exact s.vw _ _ z, s.gg.trans (Same.add g), by rw [upd_ne n.symm]; exact s.gb, s.hh⟩
/-- a list that grows between the draws -/
structure GrowB (K : PySem.W.Frag) (b : Addr) (G H : Hp) (l : Addr) (out : List PyData) (G' H' : Hp) (acc : List V) : Prop where
  st : StB b G H G' H'
  nl : H l = none
  lb : l ≠ b
  gl : G' l = none
  el : H' l = some (.lst acc)
  ds : DpAll K G' acc out
theorem GrowB.start (s : StB b G H G H) (h : H p = none) (n : p ≠ b) : GrowB K b G H p [] G (L2.upd H p (.lst [])) [] := ⟨s.mut h, h, n, Same.free s.vw h, upd_same, .nil⟩
theorem GrowB.draw (g : GrowB K b G H l out G1 H1 acc) (x : ExB b H1 H2) : GrowB K b G H l out G1 H2 acc := ⟨g.st.draw x, g.nl, g.lb, g.gl, x _ _ g.lb g.el, g.ds⟩
theorem GrowB.new (g : GrowB K b G H l out G1 H1 acc) (h : H1 p = none) (n : p ≠ b) : GrowB K b G H l out (L2.upd G1 p o) (L2.upd H1 p o) acc :=
  have np : l ≠ p := ne_of_none g.el h
  ⟨g.st.new h n, g.nl, g.lb, by rw [upd_ne np]; exact g.gl, by rw [upd_ne np]; exact g.el, DpAll.same (Same.add (Same.free g.st.vw h)) g.ds⟩
theorem GrowB.mut (g : GrowB K b G H l out G1 H1 acc) (h : H1 p = none) : GrowB K b G H l out G1 (L2.upd H1 p o) acc :=
  have np : l ≠ p := ne_of_none g.el h
  ⟨g.st.mut h, g.nl, g.lb, g.gl, by rw [upd_ne np]; exact g.el, g.ds⟩
theorem GrowB.step (g : GrowB K b G H l out G1 H1 acc) (hb : H1 b ≠ none) (t : XR.Step G1 H1 G2 H2) : GrowB K b G H l out G2 H2 acc :=
  ⟨g.st.step hb t, g.nl, g.lb, t.fr _ (by rw [g.el]; exact fun z => by cases z) g.gl, t.hh _ _ g.el, DpAll.same t.gg g.ds⟩
theorem GrowB.add (g : GrowB K b G H l out G1 H1 acc) {v : V} {d : PyData} (q : Dp K G1 v d) : GrowB K b G H l (out ++ [d]) G1 (L2.upd H1 l (.lst (acc ++ [v]))) (acc ++ [v]) :=
  ⟨g.st.upd g.nl g.gl, g.nl, g.lb, g.gl, upd_same, DpAll.snoc g.ds q⟩
theorem GrowB.len (g : GrowB K b G H l out G1 H1 acc) : acc.length = out.length := XR.DpAll.length g.ds
theorem GrowB.freeze (g : GrowB K b G H l out G1 H1 acc) : StB b G H (L2.upd G1 l (.lst acc)) H1 ∧ Dp K (L2.upd G1 l (.lst acc)) (.ref l) (.list out) :=
  ⟨g.st.freeze g.lb g.gl g.el, .lst (SqL.of upd_same) (DpAll.same (Same.add g.gl) g.ds)⟩
end
/-! ### options -/
def oV : Option Int → V
  | none => .non
  | some z => .int z
def oD : Option Int → PyData
  | none => .none
  | some z => .int z
theorem DpAll.opts {K : PySem.W.Frag} {G : Hp} : ∀ (ns : List (Option Int)), DpAll K G (ns.map oV) (ns.map oD)
  | [] => .nil
  | none :: r => .cons .non (DpAll.opts r)
  | some n :: r => .cons (.int n) (DpAll.opts r)
theorem DpAll.opts_inv {K : PySem.W.Frag} {G : Hp} : ∀ {xs : List V} {ns : List (Option Int)}, DpAll K G xs (ns.map oD) → xs = ns.map oV
  | _, [], .nil => rfl
  | _, none :: _, .cons a b => by rw [Dp.non_inv a, DpAll.opts_inv b]; rfl
  | _, some _ :: _, .cons a b => by rw [Dp.int_inv a, DpAll.opts_inv b]; rfl
section
variable {K : PySem.W.Frag} {G H G' H' : Hp} {l : Addr} {acc : List V} {out : List PyData} {α : Type} {cs : List α} {i : Nat} {c : α} {v : V} {d : PyData}
theorem LcI.vw (h : LcI K G H l out H') : Same G H' := let ⟨_, _, g⟩ := h; g.st.gg.trans g.st.vw
theorem LcI.hh (h : LcI K G H l out H') : Same H H' := let ⟨_, _, g⟩ := h; g.st.hh
theorem Grow.vv (g : Grow K G H l out G' H' acc) : Same G H' := g.st.gg.trans g.st.vw
theorem LcI.start_map {f : α → PyData} (v : Same G H) (h : H l = none) : LcI K G H l ((cs.take 0).map f) (upd H l (.lst [])) := LcI.start v h
theorem LcI.start_fm {f : α → Option PyData} (v : Same G H) (h : H l = none) : LcI K G H l ((cs.take 0).filterMap f) (upd H l (.lst [])) := LcI.start v h
theorem Grow.push_map {f : α → PyData} (g : Grow K G H l ((cs.take i).map f) G' H' acc) (hc : cs[i]? = some c) (q : Dp K G' v (f c)) (hl : cs.length ≤ 1000000) :
    ∃ acc, H' l = some (.lst acc) ∧ acc.length < sizeLine ∧ LcI K G H l ((cs.take (i + 1)).map f) (upd H' l (.lst (acc ++ [v]))) := by
  rw [take_one hc, List.map_append]
  refine g.push q ?_
  rw [List.length_map, List.length_take, sizeLine_eq]
  omega
theorem Grow.push_some {f : α → Option PyData} (g : Grow K G H l ((cs.take i).filterMap f) G' H' acc) (hc : cs[i]? = some c) (e : f c = some d) (q : Dp K G' v d) (hl : cs.length ≤ 1000000) :
    ∃ acc, H' l = some (.lst acc) ∧ acc.length < sizeLine ∧ LcI K G H l ((cs.take (i + 1)).filterMap f) (upd H' l (.lst (acc ++ [v]))) := by
  have e2 : (cs.take (i + 1)).filterMap f = (cs.take i).filterMap f ++ [d] := by rw [take_one hc, List.filterMap_append]; simp [e]
  rw [e2]
  refine g.push q ?_
  have := List.length_filterMap_le f (cs.take i)
  rw [List.length_take] at this
  rw [sizeLine_eq]
  omega
theorem Grow.push_none {f : α → Option PyData} (g : Grow K G H l ((cs.take i).filterMap f) G' H' acc) (hc : cs[i]? = some c) (e : f c = none) : LcI K G H l ((cs.take (i + 1)).filterMap f) H' := by
  have e2 : (cs.take (i + 1)).filterMap f = (cs.take i).filterMap f := by rw [take_one hc, List.filterMap_append]; simp [e]
  rw [e2]
  exact ⟨_, _, g⟩
theorem LcI.all_map {f : α → PyData} {n : Nat} (h : LcI K G H l ((cs.take n).map f) H') (e : cs.length ≤ n) : ∃ G' acc, Grow K G H l (cs.map f) G' H' acc := by
  rw [List.take_of_length_le e] at h
  exact h
theorem LcI.all_fm {f : α → Option PyData} {n : Nat} (h : LcI K G H l ((cs.take n).filterMap f) H') (e : cs.length ≤ n) : ∃ G' acc, Grow K G H l (cs.filterMap f) G' H' acc := by
  rw [List.take_of_length_le e] at h
  exact h
end
theorem at0 {α : Type} {x : α} {xs : List α} : atI (x :: xs) 0 = some x := atI_nat (j := 0) rfl
theorem at1 {α : Type} {x y : α} {xs : List α} : atI (x :: y :: xs) 1 = some y := atI_nat (j := 1) rfl
theorem ix_seqb {X : Cx} {s : Shared} {H : Hp} {sc : Scope} {ce : Env} {fp : List Addr} : IxR (X.blk s H sc ce fp) (rIx X.K) := ix_seq
theorem ints_at {P : Int → Prop} (ns : List Int) {i : Int} (h0 : 0 ≤ i) (h : i < (ns.length : Int)) (p : ∀ n ∈ ns, P n) : ∃ z, atI (ns.map V.int) i = some (.int z) ∧ P z := by
  have hl : i.toNat < ns.length := by omega
  refine ⟨ns[i.toNat], at_of (j := i.toNat) (by omega) ?_, p _ (List.getElem_mem hl)⟩
  rw [List.getElem?_map, List.getElem?_eq_getElem hl] <;> rfl
theorem GrowB.base {K : PySem.W.Frag} {b l : Addr} {G0 H0 G H G1 H1 : Hp} {out : List PyData} {acc : List V} (s : StB b G0 H0 G H) (g : GrowB K b G H l out G1 H1 acc) : GrowB K b G0 H0 l out G1 H1 acc :=
  ⟨s.trans g.st, none_backB s.hh g.lb g.nl, g.lb, g.gl, g.el, g.ds⟩
theorem tyT {K : PySem.W.Frag} {H : Hp} {a : Addr} {xs : List V} (h : SqT K H a xs) : TyX K H (.ref a) (.type "tuple") := by
  rcases h with (h | ⟨o, h⟩) | ⟨o, its, n, e, c, _⟩
  · exact .base (.tup h)
  · exact .fTuple h
  · exact .kTuple e c
theorem tyL {K : PySem.W.Frag} {H : Hp} {a : Addr} {xs : List V} (h : SqL K H a xs) : TyX K H (.ref a) (.type "list") := by
  rcases h with (h | ⟨o, h⟩) | ⟨o, its, n, e, c, _⟩
  · exact .base (.lst h)
  · exact .base (.frz h)
  · exact .kList e c
theorem pairs_can : ∀ cs : List (Int × Int), PyData.canLayAll0 (pDs cs) = true
  | [] => rfl
  | _ :: r => by
    show (PyData.canLay0 _ && PyData.canLayAll0 (pDs r)) = true
    rw [pairs_can r]
    rfl
theorem pairs_eqv : ∀ cs : List (Int × Int), PyData.eqvAll (pDs cs) (pDs cs) = true
  | [] => rfl
  | c :: r => by
    show (PyData.eqv (pD c) (pD c) && PyData.eqvAll (pDs r) (pDs r)) = true
    rw [pairs_eqv r]
    simp [PyData.eqv, PyData.eqvAll]
theorem pairs_depth : ∀ cs : List (Int × Int), PyData.depthAll (pDs cs) ≤ 8
  | [] => by decide
  | c :: r => by
    have := pairs_depth r
    show max (PyData.depth (pD c)) (PyData.depthAll (pDs r)) ≤ 8
    have h : PyData.depth (pD c) ≤ 8 := by simp [PyData.depth, PyData.depthAll]
    omega
theorem shaped_pDs (cs : List (Int × Int)) : SeqAt.shaped (.list (pDs cs)) = true := by
  show (PyData.canLayAll0 (pDs cs) && decide (PyData.depthAll (pDs cs) + 1 ≤ 64)) = true
  rw [pairs_can]
  have := pairs_depth cs
  simp
  omega
theorem eqv_pDs (cs : List (Int × Int)) : PyData.eqv (.list (pDs cs)) (.list (pDs cs)) = true := pairs_eqv cs
theorem eqv_nil (cs : List (Int × Int)) : PyData.eqv (.list (pDs cs)) (.list []) = decide (cs = []) := by
  cases cs with
  | nil => rfl
  | cons c r => rfl
theorem same_nil {H : Hp} : Same (fun _ => none) H := fun _ _ e => by cases e
theorem snoc_inj {α : Type} {I J : List α} {x y : α} (h : I ++ [x] = J ++ [y]) : I = J ∧ x = y := by
  have := List.append_inj' h rfl
  exact ⟨this.1, by simpa using this.2⟩
theorem DpAll.snoc_inv {K : PySem.W.Frag} {G : Hp} {d : PyData} : ∀ {ds : List PyData} {xs : List V}, DpAll K G xs (ds ++ [d]) → ∃ ys y, xs = ys ++ [y] ∧ DpAll K G ys ds ∧ Dp K G y d
  | [], _, .cons a .nil => ⟨[], _, rfl, .nil, a⟩
  | _ :: r, _, .cons a b => by
    obtain ⟨ys, y, rfl, q, z⟩ := DpAll.snoc_inv (ds := r) b
    exact ⟨_ :: ys, y, rfl, .cons a q, z⟩
theorem ixN_last {α : Type} (xs : List α) (v : α) : ixN (xs ++ [v]).length (-1) = some xs.length := by
  unfold ixN
  rw [if_neg (by decide), if_pos (by rw [List.length_append]; simp; omega), List.length_append]
  congr 1
  simp
  omega
theorem set_last {α : Type} (xs : List α) (v w : α) : (xs ++ [v]).set xs.length w = xs ++ [w] := by
  rw [List.set_append_right _ _ (Nat.le_refl _), Nat.sub_self]
  rfl
section
variable {K : PySem.W.Frag} {G H G' H' : Hp} {l : Addr} {out : List PyData} {acc : List V} {d e : PyData} {v : V}
/-- the list's last item is set -/
theorem Grow.setLast (g : Grow K G H l (out ++ [d]) G' H' acc) (q : Dp K G' v e) : ∃ j, ixN acc.length (-1) = some j ∧ Grow K G H l (out ++ [e]) G' (L2.upd H' l (.lst (acc.set j v))) (acc.set j v) := by
  obtain ⟨ys, y, rfl, a, b⟩ := DpAll.snoc_inv g.ds
  refine ⟨ys.length, ixN_last _ _, ?_⟩
  rw [set_last]
  exact ⟨g.st.upd g.nl g.gl, g.nl, g.gl, upd_same, DpAll.snoc a q⟩
end
theorem op_in_seqb {X : Cx} {s : Shared} {H : Hp} {sc : Scope} {ce : Env} {fp : List Addr} : OpR (X.blk s H sc ce fp) (compareOp .In) (rIn X.K false) := op_in_seq
theorem op_notIn_seqb {X : Cx} {s : Shared} {H : Hp} {sc : Scope} {ce : Env} {fp : List Addr} : OpR (X.blk s H sc ce fp) (compareOp .NotIn) (rIn X.K true) := op_notIn_seq
theorem inV_ints (z : Int) : ∀ ns : List Int, inV (.int z) (ns.map V.int) = decide (z ∈ ns)
  | [] => rfl
  | n :: r => by
    have ih := inV_ints z r
    unfold inV at *
    rw [List.map_cons, List.any_cons, ih, Bool.eq_iff_iff]
    have e : eqV (.int n) (.int z) = decide (n = z) := by
      show (n == z) = decide (n = z)
      rw [Bool.eq_iff_iff]
      simp
    rw [e]
    simp only [Bool.or_eq_true, decide_eq_true_eq, List.mem_cons]
    exact or_congr_left ⟨Eq.symm, Eq.symm⟩
theorem flat_ints : ∀ ns : List Int, (ns.map V.int).all flatV = true
  | [] => rfl
  | _ :: r => by
    rw [List.map_cons, List.all_cons, flat_ints r]
    rfl
theorem ints_can : ∀ ns : List Int, PyData.canLayAll0 (ns.map PyData.int) = true
  | [] => rfl
  | _ :: r => by
    show (PyData.canLay0 _ && PyData.canLayAll0 (r.map PyData.int)) = true
    rw [ints_can r]
    rfl
theorem ints_depth : ∀ ns : List Int, PyData.depthAll (ns.map PyData.int) ≤ 8
  | [] => by decide
  | c :: r => by
    have := ints_depth r
    show max (PyData.depth (.int c)) (PyData.depthAll (r.map PyData.int)) ≤ 8
    have h : PyData.depth (.int c) ≤ 8 := by simp [PyData.depth]
    omega
theorem shaped_ints (ns : List Int) : SeqAt.shaped (.list (ns.map PyData.int)) = true := by
  show (PyData.canLayAll0 (ns.map PyData.int) && decide (PyData.depthAll (ns.map PyData.int) + 1 ≤ 64)) = true
  rw [ints_can]
  have := ints_depth ns
  simp
  omega
theorem eqv_ints : ∀ ns : List Int, PyData.eqv (.list (ns.map PyData.int)) (.list (ns.map PyData.int)) = true := by
  have h : ∀ ns : List Int, PyData.eqvAll (ns.map PyData.int) (ns.map PyData.int) = true := fun ns => by
    induction ns with
    | nil => rfl
    | cons c r ih =>
      show (PyData.eqv (.int c) (.int c) && PyData.eqvAll (r.map PyData.int) (r.map PyData.int)) = true
      rw [ih]
      simp [PyData.eqv]
  exact h
theorem eqv_empty (ds : List PyData) : PyData.eqv (.list ds) (.list []) = ds.isEmpty := by
  cases ds <;> rfl
end XR
set_option Elab.async false
set_option linter.all false
set_option maxRecDepth 100000
set_option maxHeartbeats 4000000
/-! walks over a list or a tuple, also in enumerate and zip -/
namespace XR
open PySem PySem.Spec PyProof.Rows L2
/-- a list (k) or a tuple -/
def SqK (K : PySem.W.Frag) (k : Bool) (H : Hp) (a : Addr) (xs : List V) : Prop := if k then SqL K H a xs else SqT K H a xs
def IsSq (k : Bool) (h : Heap) (a : Addr) (items : Array Value) : Prop := if k then h.IsList a items else h.IsTuple a items
def IsSqIter (k : Bool) (h : Heap) (it a : Addr) (i : Nat) : Prop := if k then h.IsListIter it a i else h.IsTupleIter it a i
def sqObj (k : Bool) (a : Addr) : Obj := if k then { cls := .type "list_iterator", data := .fields #[.ref a, .int 0 0] } else { cls := .type "tuple_iterator", data := .fields #[.ref a, .int 0 0] }
theorem SqK.same {K : PySem.W.Frag} {k : Bool} {G H : Hp} {a : Addr} {xs : List V} (h : SqK K k G a xs) (v : Same G H) : SqK K k H a xs := by
  cases k
  · exact SqT.same h v
  · exact SqL.same h v
theorem draws_sq {prog : Program} {w : World} {A : Around} (hh : A.handled = none) (k : Bool) (it a : Addr) (hne : a ≠ it) (items : Array Value) :
    Draws prog w A it [it, a] items.size (fun i v => items[i]? = some v) (fun i h => IsSqIter k h it a i ∧ IsSq k h a items) := by
  cases k
  · exact Draws.tuple hh it a hne items
  · exact Draws.list hh it a hne items
theorem begins_sq (k : Bool) (a : Addr) (items : Array Value) : Begins (.ref a) (sqObj k a) fun h => IsSq k h a items := by
  cases k
  · exact begins_tuple a items
  · exact begins_list a items
theorem iter_at {k : Bool} {h : Heap} {it a : Addr} {i : Nat} (st : IsSqIter k h it a i) : ∃ (o : Obj) (fs : Array Value), h.get? it = some o ∧ o.data = .fields fs := by
  cases k <;> exact (let ⟨o, e, _, d⟩ := st; ⟨o, _, e, d⟩)
theorem iter_keep {k : Bool} {h h' : Heap} {it a : Addr} {i : Nat} (st : IsSqIter k h it a i) (c : ∀ o, h.get? it = some o → h'.get? it = some o) : IsSqIter k h' it a i := by
  cases k <;> exact (let ⟨o, e, r⟩ := st; ⟨o, c o e, r⟩)
theorem iter_new {k : Bool} {h : Heap} {it a : Addr} (e : h.get? it = some (sqObj k a)) : IsSqIter k h it a 0 := by
  cases k <;> exact ⟨_, e, rfl, rfl⟩
theorem sq_at {k : Bool} {h : Heap} {a : Addr} {items : Array Value} (st : IsSq k h a items) : ∃ (o : Obj) (n : Nat), h.get? a = some o ∧ o.data = .seq items n := by
  cases k <;> exact (let ⟨o, e, _, n, d⟩ := st; ⟨o, n, e, d⟩)
theorem sq_ne {k k' : Bool} {h : Heap} {it a b : Addr} {i : Nat} {items : Array Value} (q : IsSq k h a items) (st : IsSqIter k' h it b i) : a ≠ it := fun z => by
  obtain ⟨o, n, e, d⟩ := sq_at q
  obtain ⟨o', fs, e', d'⟩ := iter_at st
  rw [z, e'] at e
  cases e
  rw [d] at d'
  cases d'
theorem inv_sq {X : Cx} {pins : List (Addr × Obj)} {σ : L2.St} {H : Hp} {s : Shared} {k : Bool} {a : Addr} {xs : List V} (I : Inv X pins σ H s) (h : SqK X.K k H a xs) : ∃ its : List Value, Vals xs its ∧ IsSq k s.heap a its.toArray ∧ a < s.heap.objs.size := by
  cases k
  · obtain ⟨its, r, p, _⟩ := I.tuple h
    have p' : s.heap.IsTuple a its.toArray := p
    exact ⟨its, r, p', (let ⟨o, e, _⟩ := p'; Heap.lt_size e)⟩
  · obtain ⟨its, r, p, _⟩ := I.list h
    exact ⟨its, r, p.isList, p.lt⟩
theorem inv_inj {X : Cx} {pins : List (Addr × Obj)} {σ : L2.St} {H : Hp} {s : Shared} {k : Bool} {a : Addr} {xs ys : List V} (I : Inv X pins σ H s) (h : SqK X.K k H a xs) (h' : SqK X.K k H a ys) : xs = ys := by
  cases k
  · exact I.tuple_inj h h'
  · exact I.list_inj h h'
/-! ### enumerate -/
set_option maxHeartbeats 1000000 in
theorem meets_enum1 {v : Value} {o : Obj} {H : Heap → Prop} (B : Begins v o H) :
    Meets (Builtin.«enumerate.__new__» ⟨[.type "enumerate", v], []⟩) (fun _ R s => H s.heap ∧
      R (.ok (.ret (.ref (s.heap.push o).objs.size))) { s with heap := (s.heap.push o).push { cls := .type "enumerate", data := .fields #[.none, .bool false, .ref s.heap.objs.size, rawInt 0, .none, .none] } }) :=
  .of_wp fun prog w A R s h => by
    obtain ⟨hp, g, d, tk, os⟩ := s; obtain ⟨h1, h⟩ := h
    have hsub := sub_enumerate
    have q1 : ∀ {A' : Around} {E : Value → Shared → Prop} {Q : Value → Shared → Prop}, Q (.ref hp.objs.size) ⟨hp.push o, g, d, tk, os⟩ → wpAny (model prog w) A' (pyIter v) Q E ⟨hp, g, d, tk, os⟩ :=
      fun q => B.iter prog w _ _ ⟨hp, g, d, tk, os⟩ _ h1 q
    wp_walk using q1
    refine wpAny_stack_any fun st => wpAny_pure ?_
    split
    · rename_i c _ _ _ _ _
      cases (c == Value.type "enumerate")
      · wp_walk using q1
        exact ⟨_, rfl, h⟩
      · wp_walk using q1
        exact ⟨_, rfl, h⟩
    · wp_walk using q1
      exact ⟨_, rfl, h⟩
theorem call_enum1 {prog : Program} {w : World} {A : Around} {E : Value → Shared → Prop} {s : Shared} {v : Value} {o : Obj} {H : Heap → Prop} {Q : Value → Shared → Prop} (B : Begins v o H) (h1 : H s.heap)
    (h : ∀ h', IsEnum h' (s.heap.objs.size + 1) s.heap.objs.size 0 .none → h'.get? s.heap.objs.size = some o → h'.objs.size = s.heap.objs.size + 2 →
      (∀ b o, s.heap.get? b = some o → h'.get? b = some o) → Q (.ref (s.heap.objs.size + 1)) { s with heap := h' }) :
    wpAny (model prog w) A (call (.type "enumerate") [v]) Q E s := by
  refine callType_new F.called_enumerate (by decide) (F.typeCall_enumerate_1 _) (F.newCall_enumerate_1 _) (fun obj => F.args_object_init_2 obj _) F.entry_enumerate_new
    (meets_enum1 B) ⟨h1, ?_⟩
  have hz : (s.heap.push o).objs.size = s.heap.objs.size + 1 := Heap.size_push ..
  show _ ∧ _
  rw [hz]
  have he : IsEnum ((s.heap.push o).push { cls := .type "enumerate", data := .fields #[.none, .bool false, .ref s.heap.objs.size, rawInt 0, .none, .none] }) (s.heap.objs.size + 1) s.heap.objs.size 0 .none := by
    have := Heap.get?_push_size (s.heap.push o) (o := { cls := .type "enumerate", data := .fields #[.none, .bool false, .ref s.heap.objs.size, rawInt 0, .none, .none] }) rfl
    rw [hz] at this; exact this
  refine ⟨⟨_, he, rfl⟩, h _ he (Heap.get?_push_of_some _ (Heap.get?_push_size _ B.free)) (by rw [Heap.size_push, hz]) fun b o x => Heap.get?_push_of_some _ (Heap.get?_push_of_some _ x)⟩
theorem wpAny_pyNext_enum_endDK {prog : Program} {w : World} {A : Around} {E : Value → Shared → Prop} {s : Shared} {e it l : Addr} {i : Nat} {c : Int} {items : Array Value} {old : Value} {Q : Option Value → Shared → Prop} (hh : A.handled = none)
    (he : IsEnum s.heap e it c old) (hit : s.heap.IsTupleIter it l i) (hl : s.heap.IsTuple l items) (hx : items[i]? = none)
    (hQ : ∀ h', Heap.ExtBut it s.heap h' → Q none { s with heap := h' }) : wpAny (model prog w) A (pyNext (.ref e)) Q E s := by
  have hT : s.TypeIs (.ref e) "enumerate" := ⟨_, he, rfl⟩
  unfold pyNext
  refine wpAny_bind (wpAny_attempt (wpAny_callSpecial?_slot (name := Str.ofString "__next__") hT F.slot_enumerate_next
    (wpAny_call_entry F.slot_enumerate_next hT F.entry_enumerate_next ?_ (F.args_enumerate_next_1 _))))
  show wpAny _ _ (field (.ref e) 2 >>= _) _ _ _
  refine wpAny_bind (wpAny_field he rfl (x := .ref it) rfl ?_)
  refine wpAny_bind (wpAny_nextOf_tuple_end hh hit hl hx fun h' x he' hx' => ?_)
  obtain ⟨o, ho, hc⟩ := hx'
  refine wpAny_bind (wpAny_isInstance (T := "StopIteration") (b := true) ⟨o, ho, hc⟩ isSubtype_stop ?_)
  exact wpAny_pure (hQ _ he')
/-- a new pair at a turn -/
def ItK2 (go : Nat → Hp → Prop) (at_ : Nat → Hp → V → V → Prop) (stop : Nat → Hp → Prop) : It :=
  ⟨go, fun i H v H' => ∃ T x y, v = .ref T ∧ H T = none ∧ H' = upd H T (.tup [x, y]) ∧ at_ i H x y, stop⟩
def IteK (K : PySem.W.Frag) (k : Bool) (a : Addr) : It :=
  ItK2 (fun i H => ∃ (xs : List V) (x : V), SqK K k H a xs ∧ xs[i]? = some x) (fun i H x y => x = .int (i : Nat) ∧ ∀ xs, SqK K k H a xs → xs[i]? = some y) (fun i H => ∃ xs : List V, SqK K k H a xs ∧ xs.length ≤ i)
theorem enum_ne {h : Heap} {e it : Addr} {i : Int} {old : Value} {k : Bool} {a : Addr} {items : Array Value} (he : IsEnum h e it i old) (q : IsSq k h a items) : e ≠ a := fun z => by
  obtain ⟨o, n, e', d⟩ := sq_at q
  have he' : h.get? e = some _ := he
  rw [← z, he'] at e'
  cases e'
  cases d
theorem turn_enumK {P : Program} {w : World} {K : PySem.W.Frag} {elts : List Expr} {kk : Nat} {tpos : Pos} (k : Bool) (a e it : Addr) :
    Turn P w K (.Tuple elts kk tpos) (IteK K k a) [e, it] e (fun i h => (∃ old, IsEnum h e it ((i : Nat) : Int) old) ∧ IsSqIter k h it a i ∧ e ≠ it) where
  mem := by simp
  obj := fun i h st b hb => by
    obtain ⟨⟨old, he⟩, hi, _⟩ := st
    obtain ⟨o, fs, ho, hd⟩ := iter_at hi
    have e' : b = e ∨ b = it := by simpa using hb
    rcases e' with z | z
    · rw [z]; exact ⟨_, he, fun v q => nomatch q⟩
    · rw [z]; exact ⟨o, ho, fun v q => by rw [hd] at q; cases q⟩
  keep := fun i h h' st c => let ⟨⟨old, he⟩, hi, hne⟩ := st; ⟨⟨old, c e (by simp) _ he⟩, iter_keep hi fun o q => c it (by simp) o q, hne⟩
  item := by
    intro X hP hw hK hc i pins s σ H E I hf st hg
    subst hP hw hK
    obtain ⟨⟨old, he⟩, hit, hne⟩ := st
    obtain ⟨xs, x, hq, hx⟩ := hg
    obtain ⟨its, rv, p, hlt⟩ := inv_sq I hq
    obtain ⟨u, hu, ru⟩ := rv.get hx
    have hel : e < s.heap.objs.size := Heap.lt_size (show s.heap.get? e = some _ from he)
    have hil : it < s.heap.objs.size := by obtain ⟨_, _, q, _⟩ := iter_at hit; exact Heap.lt_size q
    have Gs := GoesN.enumFrom (elts := elts) (x1 := kk) (pos := tpos) 0 (draws_sq (prog := X.prog) (w := X.w) (A := X.A.in1) (show X.A.in1.handled = none from I.ok.hd hc) k it a (sq_ne p hit) its.toArray) e hne (by
      intro hm
      rcases List.mem_cons.mp hm with z | z
      · exact hne z
      · exact enum_ne he p (List.mem_singleton.mp z)) (by simp)
    have hil2 : i < its.toArray.size := by
      have := (List.getElem?_eq_some_iff.mp hu).1
      simpa using this
    refine Gs.goes i s _ E hil2 ⟨⟨old, by rw [Int.zero_add]; exact he⟩, hit, p⟩ fun v h' tk Y st' hk htk => ?_
    obtain ⟨T, t, y, rfl, hTn, hy, hT⟩ := Y
    obtain ⟨⟨old', he'⟩, hit', _⟩ := st'
    have ey : y = u := by
      have h3 : its.toArray[i]? = some u := by simpa using hu
      rw [hy] at h3
      exact Option.some.inj h3
    subst ey
    have new : ObjOk X.prog X.w (upd H T (.tup [.int (i : Nat), x])) h' T (.tup [.int (i : Nat), x]) :=
      ⟨by show 2 ≤ sizeLine; decide, [.int (0 + (i : Int)) t, y], .cons ⟨t, by rw [Int.zero_add]⟩ (.cons ru .nil), hT⟩
    have I1 : Inv X pins σ (upd H T (.tup [.int (i : Nat), x])) { s with heap := h', toks := tk } := I.turnedNew (ch := [e, it]) hk hf hTn new
    refine ⟨.ref T, _, I1, rfl, ⟨T, _, x, rfl, I.hok.fresh hTn, rfl, rfl, fun ys hy => by rw [inv_inj I hy hq]; exact hx⟩, ⟨⟨old', ?_⟩, hit', hne⟩, fun b hb => ?_⟩
    · rw [Int.zero_add] at he'
      exact he'
    · have hb' : b < s.heap.objs.size := by
        have e' : b = e ∨ b = it := by simpa using hb
        rcases e' with z | z
        · rw [z]; exact hel
        · rw [z]; exact hil
      rw [upd_ne (Nat.ne_of_lt (Nat.lt_of_lt_of_le hb' hTn))]
      exact (hf b hb).1
  done := by
    intro X hP hw hK hc i pins s σ H E I hf st hg
    subst hP hw hK
    obtain ⟨⟨old, he⟩, hit, hne⟩ := st
    obtain ⟨xs, hq, hx⟩ := hg
    obtain ⟨its, rv, p, hlt⟩ := inv_sq I hq
    have hl := rv.length
    cases k
    · refine wpAny_pyNext_enum_endDK (I.ok.hd hc) he hit p (by simp; omega) fun h' eb => ⟨rfl, ?_⟩
      obtain ⟨f0, f1, f2, f3, f4, f5⟩ := hf it (by simp)
      exact I.turned (t' := s.toks) (fun b o hb q => eb b o hb q) f0 f1 f3 f4 f5
    · refine wpAny_pyNext_enum_end (I.ok.hd hc) he hit p (by simp; omega) fun h' eb => ⟨rfl, ?_⟩
      obtain ⟨f0, f1, f2, f3, f4, f5⟩ := hf it (by simp)
      exact I.turned (t' := s.toks) (fun b o hb q => eb b o hb q) f0 f1 f3 f4 f5
  self := fun A i s Q E st h => let ⟨⟨_, he⟩, _⟩ := st; wpAny_pyIter_enum he h
/-! ### what is walked -/
def SqA (K : PySem.W.Frag) (H : Hp) (a : Addr) (xs : List V) : Prop := SqL K H a xs ∨ SqT K H a xs
theorem SqA.same {K : PySem.W.Frag} {G H : Hp} {a : Addr} {xs : List V} (h : SqA K G a xs) (v : Same G H) : SqA K H a xs := h.imp (fun z => SqL.same z v) (fun z => SqT.same z v)
theorem SqA.k {K : PySem.W.Frag} {H : Hp} {a : Addr} {xs : List V} (h : SqA K H a xs) : ∃ k, SqK K k H a xs := by
  rcases h with h | h
  · exact ⟨true, h⟩
  · exact ⟨false, h⟩
def iSq (K : PySem.W.Frag) (tl : TE) : TI := fun σ H R => tl σ H fun x H1 => ∃ a xs G, x = .ref a ∧ SqA K G a xs ∧ Same G H1 ∧ ∀ J, Walk J xs.length (Same G) (YAt xs) → R J H1
theorem pi_sq {X : Cx} {tg : Expr} {l : Expr} {tl : TE} (hl : PE X l tl) : PI X tg l (iSq X.K tl) := by
  refine ⟨fun pins s σ H R I h => ?_⟩
  refine thn (hl.run pins s σ H _ I h) fun v s1 ⟨x, H1, I1, r1, q1⟩ => ?_
  obtain ⟨a, xs, G, e, hq, hv, q⟩ := q1
  subst e
  cases r1
  rcases hq with hq | hq
  · obtain ⟨its, rv, p, hz⟩ := I1.list (SqL.same hq hv)
    refine wpAny_pyIter_list p.isList ?_
    refine ⟨s1.heap.objs.size, [s1.heap.objs.size], _, _, H1, rfl, I1.kept (t' := s1.toks) fun b o e => Heap.get?_push_of_some _ e, turn_list a _, ⟨_, Heap.get?_push_size _ rfl, rfl, rfl⟩, fun b hb => ?_, q _ (walk_list.mono (fun H x => SqL.same hq x) fun _ _ _ _ _ _ y => y)⟩
    have e : b = s1.heap.objs.size := by simpa using hb
    subst e
    exact I1.fpOk (Nat.le_refl _) (I1.hok.fresh (Nat.le_refl _))
  · obtain ⟨its, rv, p, hz⟩ := I1.tuple (SqT.same hq hv)
    refine wpAny_pyIter_tuple (show s1.heap.IsTuple a its.toArray from p) ?_
    refine ⟨s1.heap.objs.size, [s1.heap.objs.size], _, _, H1, rfl, I1.kept (t' := s1.toks) fun b o e => Heap.get?_push_of_some _ e, turn_tuple a _, ⟨_, Heap.get?_push_size _ rfl, rfl, rfl⟩, fun b hb => ?_, q _ (walk_tup.mono (fun H x => SqT.same hq x) fun _ _ _ _ _ _ y => y)⟩
    have e : b = s1.heap.objs.size := by simpa using hb
    subst e
    exact I1.fpOk (Nat.le_refl _) (I1.hok.fresh (Nat.le_refl _))
theorem walk_enumK {K : PySem.W.Frag} {k : Bool} {a : Addr} {xs : List V} : Walk (IteK K k a) xs.length (fun H => SqK K k H a xs) (YPair (fun i => some (.int (i : Nat))) (fun i => xs[i]?)) := by
  refine ⟨fun i _ hi q => ⟨xs, xs[i], q, by simp [hi]⟩, fun _ q => ⟨xs, q, Nat.le_refl _⟩, fun i H v H' _ q y => ?_⟩
  obtain ⟨T, x, y, h1, h2, h3, h4, h5⟩ := y
  exact ⟨T, x, y, h1, h2, h3, by rw [h4], h5 xs q⟩
def iEnumQ (K : PySem.W.Frag) (ta : TA) : TI := fun σ H R => ta σ H fun vs H1 => ∃ a xs G, vs = [.ref a] ∧ SqA K G a xs ∧ Same G H1 ∧ ∀ J, Walk J xs.length (Same G) (YPair (fun i => some (.int (i : Nat))) (fun i => xs[i]?)) → R J H1
theorem pi_enumQ {X : Cx} {e : Expr} {ta : TA} {p pos tpos : Pos} {elts : List Expr} {kk : Nat} (hg : Gl X "enumerate") (hm : X.mg "enumerate" = none) (ha : PA X [e] ta) (hs : starEach [e] X.env = [(false, eval e X.env)] := by rfl) :
    PI X (.Tuple elts kk tpos) (.Call (.Name "enumerate" p) [e] [] pos) (iEnumQ X.K ta) := by
  refine ⟨fun pins s σ H R I h => ?_⟩
  refine Call_ (ld_blt I hg hm boot_enumerate (PyProof.Rows.callWith_type1 (thn (ha.run pos pins s σ H _ I h) fun us s1 ⟨vs, H1, I1, r1, q1⟩ => ?_) hs rfl))
  obtain ⟨a, xs, G, ex, hq, hv, q⟩ := q1
  subst ex
  cases r1 with
  | cons r rr =>
    cases rr
    cases r
    obtain ⟨k, hk⟩ := hq.k
    obtain ⟨its, rv, p', hz⟩ := inv_sq I1 (SqK.same hk hv)
    refine call_enum1 (begins_sq k a its.toArray) p' fun h' he hit hsz hk' => wpAny_pyIter_enum he ?_
    have I2 : Inv X pins σ H1 { s1 with heap := h' } := I1.kept (t' := s1.toks) hk'
    refine ⟨s1.heap.objs.size + 1, [s1.heap.objs.size + 1, s1.heap.objs.size], _, _, H1, rfl, I2, turn_enumK k a (s1.heap.objs.size + 1) s1.heap.objs.size, ⟨⟨.none, he⟩, iter_new hit, Nat.succ_ne_self _⟩, fun b hb => ?_, q _ (walk_enumK.mono (fun H x => SqK.same hk x) fun _ _ _ _ _ _ y => y)⟩
    have e' : b = s1.heap.objs.size + 1 ∨ b = s1.heap.objs.size := by simpa using hb
    have hle : s1.heap.objs.size ≤ b := by
      rcases e' with z | z
      · rw [z]; exact Nat.le_add_right _ _
      · rw [z]; exact Nat.le_refl _
    exact I1.fpOk hle (I1.hok.fresh hle)
/-! ### zip of two -/
def ItzK (K : PySem.W.Frag) (k l : Bool) (a b : Addr) : It :=
  ItK2 (fun i H => ∃ (xs ys : List V) (x y : V), SqK K k H a xs ∧ SqK K l H b ys ∧ xs[i]? = some x ∧ ys[i]? = some y) (fun i H x y => (∀ xs, SqK K k H a xs → xs[i]? = some x) ∧ ∀ ys, SqK K l H b ys → ys[i]? = some y)
    (fun i H => ∃ xs ys : List V, SqK K k H a xs ∧ SqK K l H b ys ∧ i = min xs.length ys.length)
structure ZA (z TI TO i1 i2 : Addr) : Prop where
  a1 : TI ≠ z
  a2 : TO ≠ z
  a3 : TI ≠ TO
  a4 : TI ≠ i1
  a5 : TI ≠ i2
  a6 : z ≠ i1
  a7 : z ≠ i2
  a8 : TO ≠ i1
  a9 : TO ≠ i2
  aa : i1 ≠ i2
theorem zip_ne {h : Heap} {z TI TO x : Addr} {o : Option Obj} {k : Bool} {a : Addr} {items : Array Value} {w : Value} (he : IsZip h z TI TO w) (q : IsSq k h a items) : z ≠ a := fun y => by
  obtain ⟨o, n, e', d⟩ := sq_at q
  have he' : h.get? z = some _ := he
  rw [← y, he'] at e'
  cases e'
  cases d
theorem zsep {h : Heap} {z TI TO i1 i2 a b : Addr} {i : Nat} {k l : Bool} {it1 it2 : Array Value} {w x y : Value} (Z : ZA z TI TO i1 i2) (hz : IsZip h z TI TO w) (hTO : IsTupOf2 h TO x y) (h1 : IsSqIter k h i1 a i) (h2 : IsSqIter l h i2 b i) (q1 : IsSq k h a it1) (q2 : IsSq l h b it2) (na : TO ≠ a) (nb : TO ≠ b) :
    ZipSep2 z TI TO i1 i2 [i1, a] [i2, b] := by
  have z1 := zip_ne (x := a) (o := none) hz q1
  have z2 := zip_ne (x := a) (o := none) hz q2
  have n1 := sq_ne q1 h1
  have n2 := sq_ne q1 h2
  have n3 := sq_ne q2 h1
  have n4 := sq_ne q2 h2
  refine { TIz := Z.a1, TOz := Z.a2, TITO := Z.a3, TIi1 := Z.a4, mem1 := by simp, zf1 := ?_, Tf1 := ?_, TIi2 := Z.a5, mem2 := by simp, zf2 := ?_, Tf2 := ?_, sep1_2 := ?_, sep2_1 := ?_ }
  · simp [Z.a6, z1]
  · simp [Z.a8, na]
  · simp [Z.a7, z2]
  · simp [Z.a9, nb]
  · simp [Z.aa, n3.symm]
  · simp [Z.aa.symm, n2.symm]
theorem turn_zipK {P : Program} {w : World} {K : PySem.W.Frag} {elts : List Expr} {kk : Nat} {tpos : Pos} (k l : Bool) (a b z TI TO i1 i2 : Addr) (Z : ZA z TI TO i1 i2) (na : TO ≠ a) (nb : TO ≠ b) :
    Turn P w K (.Tuple elts kk tpos) (ItzK K k l a b) [z, TI, TO, i1, i2] z (fun i h => IsZip h z TI TO .none ∧ IsTupOf2 h TI (.ref i1) (.ref i2) ∧ (∃ x y, IsTupOf2 h TO x y) ∧ IsSqIter k h i1 a i ∧ IsSqIter l h i2 b i) where
  mem := by simp
  obj := fun i h st c hc => by
    obtain ⟨hz, hTI, ⟨x, y, hTO⟩, h1, h2⟩ := st
    obtain ⟨o1, f1, e1, d1⟩ := iter_at h1
    obtain ⟨o2, f2, e2, d2⟩ := iter_at h2
    have e' : c = z ∨ c = TI ∨ c = TO ∨ c = i1 ∨ c = i2 := by simpa using hc
    rcases e' with q | q | q | q | q
    · rw [q]; exact ⟨_, hz, fun v q => nomatch q⟩
    · rw [q]; exact ⟨_, hTI, fun v q => nomatch q⟩
    · rw [q]; exact ⟨_, hTO, fun v q => nomatch q⟩
    · rw [q]; exact ⟨o1, e1, fun v q => by rw [d1] at q; cases q⟩
    · rw [q]; exact ⟨o2, e2, fun v q => by rw [d2] at q; cases q⟩
  keep := fun i h h' st c => by
    obtain ⟨hz, hTI, ⟨x, y, hTO⟩, h1, h2⟩ := st
    exact ⟨c z (by simp) _ hz, c TI (by simp) _ hTI, ⟨x, y, c TO (by simp) _ hTO⟩, iter_keep h1 fun o q => c i1 (by simp) o q, iter_keep h2 fun o q => c i2 (by simp) o q⟩
  item := by
    intro X hP hw hK hc i pins s σ H E I hf st hg
    subst hP hw hK
    obtain ⟨hz, hTI, ⟨x0, y0, hTO⟩, h1, h2⟩ := st
    obtain ⟨xs, ys, x, y, hqx, hqy, hx, hy⟩ := hg
    obtain ⟨its, rv, p, _⟩ := inv_sq I hqx
    obtain ⟨its2, rv2, p2, _⟩ := inv_sq I hqy
    obtain ⟨u, hu, ru⟩ := rv.get hx
    obtain ⟨u2, hu2, ru2⟩ := rv2.get hy
    have hh : X.A.in1.handled = none := I.ok.hd hc
    have Gs := GoesN.zip2 (A := X.A) (elts := elts) (x1 := kk) (pos := tpos) (zsep Z hz hTO h1 h2 p p2 na nb) (draws_sq (prog := X.prog) (w := X.w) hh k i1 a (sq_ne p h1) its.toArray) (draws_sq (prog := X.prog) (w := X.w) hh l i2 b (sq_ne p2 h2) its2.toArray)
    have hi1 : i < its.toArray.size := by have := (List.getElem?_eq_some_iff.mp hu).1; simpa using this
    have hi2 : i < its2.toArray.size := by have := (List.getElem?_eq_some_iff.mp hu2).1; simpa using this
    refine Gs.goes i s _ E (by omega) ⟨hz, hTI, ⟨x0, y0, hTO⟩, ⟨h1, p⟩, ⟨h2, p2⟩⟩ fun v h' tk Y st' hk htk => ?_
    obtain ⟨T, v1, v2, rfl, hTn, e1, e2, hT⟩ := Y
    obtain ⟨hz', hTI', hTO', ⟨h1', _⟩, ⟨h2', _⟩⟩ := st'
    have q1 : v1 = u := by
      have h3 : its.toArray[i]? = some u := by simpa using hu
      rw [e1] at h3
      exact Option.some.inj h3
    have q2 : v2 = u2 := by
      have h3 : its2.toArray[i]? = some u2 := by simpa using hu2
      rw [e2] at h3
      exact Option.some.inj h3
    subst q1 q2
    have new : ObjOk X.prog X.w (upd H T (.tup [x, y])) h' T (.tup [x, y]) := ⟨by show 2 ≤ sizeLine; decide, [v1, v2], .cons ru (.cons ru2 .nil), hT⟩
    have I1 : Inv X pins σ (upd H T (.tup [x, y])) { s with heap := h', toks := tk } := I.turnedNew (ch := [z, TI, TO, i1, i2]) (fun c o hb q => hk c o (fun m => hb (by
      have e' : c = z ∨ c = TO ∨ c = i1 ∨ c = i2 := by simpa using m
      rcases e' with q | q | q | q <;> simp [q])) q) hf hTn new
    refine ⟨.ref T, _, I1, rfl, ⟨T, x, y, rfl, I.hok.fresh hTn, rfl, fun ys hy => by rw [inv_inj I hy hqx]; exact hx, fun zs hz => by rw [inv_inj I hz hqy]; exact hy⟩, ⟨hz', hTI', hTO', h1', h2'⟩, fun c hcm => ?_⟩
    have hlt : c < s.heap.objs.size := by
      have e' : c = z ∨ c = TI ∨ c = TO ∨ c = i1 ∨ c = i2 := by simpa using hcm
      rcases e' with q | q | q | q | q
      · rw [q]; exact Heap.lt_size (show s.heap.get? z = some _ from hz)
      · rw [q]; exact Heap.lt_size hTI
      · rw [q]; exact Heap.lt_size hTO
      · rw [q]; obtain ⟨_, _, e1, _⟩ := iter_at h1; exact Heap.lt_size e1
      · rw [q]; obtain ⟨_, _, e2, _⟩ := iter_at h2; exact Heap.lt_size e2
    rw [upd_ne (Nat.ne_of_lt (Nat.lt_of_lt_of_le hlt hTn))]
    exact (hf c hcm).1
  done := by
    intro X hP hw hK hc i pins s σ H E I hf st hg
    subst hP hw hK
    obtain ⟨hz, hTI, ⟨x0, y0, hTO⟩, h1, h2⟩ := st
    obtain ⟨xs, ys, hqx, hqy, hend⟩ := hg
    obtain ⟨its, rv, p, _⟩ := inv_sq I hqx
    obtain ⟨its2, rv2, p2, _⟩ := inv_sq I hqy
    have l1 := rv.length
    have l2 := rv2.length
    have hh : X.A.in1.handled = none := I.ok.hd hc
    have Gs := GoesN.zip2 (A := X.A) (elts := elts) (x1 := kk) (pos := tpos) (zsep Z hz hTO h1 h2 p p2 na nb) (draws_sq (prog := X.prog) (w := X.w) hh k i1 a (sq_ne p h1) its.toArray) (draws_sq (prog := X.prog) (w := X.w) hh l i2 b (sq_ne p2 h2) its2.toArray)
    have ei : min its.toArray.size its2.toArray.size = i := by simp; omega
    rw [ei] at Gs
    refine wpAny_mono (Gs.stops s (fun s1 => Inv X pins σ H s1) E ⟨hz, hTI, ⟨x0, y0, hTO⟩, ⟨h1, p⟩, ⟨h2, p2⟩⟩ fun h' tk hk htk => I.turnedL (ch := [z, TI, TO, i1, i2]) (fun c o hb q => hk c o (fun m => hb (by
      have e' : c = z ∨ c = TO ∨ c = i1 ∨ c = i2 := by simpa using m
      rcases e' with q | q | q | q <;> simp [q])) q) hf) (fun _ _ z => z) fun _ _ z => z
  self := fun A i s Q E st h => wpAny_pyIter_zip st.1 h
theorem walk_zipK {K : PySem.W.Frag} {k l : Bool} {a b : Addr} {xs ys : List V} : Walk (ItzK K k l a b) (min xs.length ys.length) (fun H => SqK K k H a xs ∧ SqK K l H b ys) (YPair (fun i => xs[i]?) (fun i => ys[i]?)) := by
  refine ⟨fun i _ hi q => ?_, fun _ q => ⟨xs, ys, q.1, q.2, rfl⟩, fun i H v H' _ q y => ?_⟩
  · have h1 : i < xs.length := by omega
    have h2 : i < ys.length := by omega
    exact ⟨xs, ys, xs[i], ys[i], q.1, q.2, by simp [h1], by simp [h2]⟩
  · obtain ⟨T, x, y, h1, h2, h3, h4, h5⟩ := y
    exact ⟨T, x, y, h1, h2, h3, h4 xs q.1, h5 ys q.2⟩
def iZipQ (K : PySem.W.Frag) (ta : TA) : TI := fun σ H R => ta σ H fun vs H1 => ∃ a b xs ys G, vs = [.ref a, .ref b] ∧ SqA K G a xs ∧ SqA K G b ys ∧ Same G H1 ∧ ∀ J, Walk J (min xs.length ys.length) (Same G) (YPair (fun i => xs[i]?) (fun i => ys[i]?)) → R J H1
theorem pi_zipQ {X : Cx} {e e2 : Expr} {ta : TA} {p pos tpos : Pos} {elts : List Expr} {kk : Nat} (hg : Gl X "zip") (hm : X.mg "zip" = none) (ha : PA X [e, e2] ta)
    (hs : starEach [e, e2] X.env = (false, eval e X.env) :: starEach [e2] X.env := by rfl) (hpl : (backTo pos (starEach [e2] X.env)).any (·.1) = false := by rfl) :
    PI X (.Tuple elts kk tpos) (.Call (.Name "zip" p) [e, e2] [] pos) (iZipQ X.K ta) := by
  refine ⟨fun pins s σ H R I h => ?_⟩
  refine Call_ (ld_blt I hg hm PyProof.Rows.boot_zip (PyProof.Rows.callWith_type1 (thn (ha.run pos pins s σ H _ I h) fun us s1 ⟨vs, H1, I1, r1, q1⟩ => ?_) hs hpl))
  obtain ⟨a, b, xs, ys, G, ex, hqx, hqy, hv, q⟩ := q1
  subst ex
  cases r1 with
  | cons r rr =>
    cases rr with
    | cons r' rr =>
      cases rr
      cases r
      cases r'
      obtain ⟨k, hk⟩ := hqx.k
      obtain ⟨l, hl⟩ := hqy.k
      obtain ⟨its, rv, p1, la⟩ := inv_sq I1 (SqK.same hk hv)
      obtain ⟨its2, rv2, p2, lb⟩ := inv_sq I1 (SqK.same hl hv)
      refine zip_begins2 (begins_sq k a its.toArray) (begins_sq l b its2.toArray) p1 p2 fun h' hz hTI hTO h1 h2 hsz hk' => wpAny_pyIter_zip hz ?_
      have I2 : Inv X pins σ H1 { s1 with heap := h' } := I1.kept (t' := s1.toks) hk'
      have la' : (a : Nat) < s1.heap.objs.size := la
      have lb' : (b : Nat) < s1.heap.objs.size := lb
      refine ⟨s1.heap.objs.size + 4, [s1.heap.objs.size + 4, s1.heap.objs.size + 2, s1.heap.objs.size + 3, s1.heap.objs.size, s1.heap.objs.size + 1], _, _, H1, rfl, I2,
        turn_zipK k l a b (s1.heap.objs.size + 4) (s1.heap.objs.size + 2) (s1.heap.objs.size + 3) s1.heap.objs.size (s1.heap.objs.size + 1)
          ⟨show (s1.heap.objs.size + 2 : Nat) ≠ s1.heap.objs.size + 4 by omega, show (s1.heap.objs.size + 3 : Nat) ≠ s1.heap.objs.size + 4 by omega, show (s1.heap.objs.size + 2 : Nat) ≠ s1.heap.objs.size + 3 by omega, show (s1.heap.objs.size + 2 : Nat) ≠ s1.heap.objs.size by omega,
            show (s1.heap.objs.size + 2 : Nat) ≠ s1.heap.objs.size + 1 by omega, show (s1.heap.objs.size + 4 : Nat) ≠ s1.heap.objs.size by omega, show (s1.heap.objs.size + 4 : Nat) ≠ s1.heap.objs.size + 1 by omega, show (s1.heap.objs.size + 3 : Nat) ≠ s1.heap.objs.size by omega,
            show (s1.heap.objs.size + 3 : Nat) ≠ s1.heap.objs.size + 1 by omega, show (s1.heap.objs.size : Nat) ≠ s1.heap.objs.size + 1 by omega⟩ (Nat.ne_of_gt (Nat.lt_of_lt_of_le la (Nat.le_add_right _ 3))) (Nat.ne_of_gt (Nat.lt_of_lt_of_le lb (Nat.le_add_right _ 3))),
        ⟨hz, hTI, ⟨_, _, hTO⟩, iter_new h1, iter_new h2⟩, fun c hcm => ?_, q _ (walk_zipK.mono (fun H x => ⟨SqK.same hk x, SqK.same hl x⟩) fun _ _ _ _ _ _ y => y)⟩
      have e' : c = s1.heap.objs.size + 4 ∨ c = s1.heap.objs.size + 2 ∨ c = s1.heap.objs.size + 3 ∨ c = s1.heap.objs.size ∨ c = s1.heap.objs.size + 1 := by simpa using hcm
      have hle : s1.heap.objs.size ≤ c := by
        rcases e' with z | z | z | z | z
        · rw [z]; exact Nat.le_add_right _ _
        · rw [z]; exact Nat.le_add_right _ _
        · rw [z]; exact Nat.le_add_right _ _
        · rw [z]; exact Nat.le_refl _
        · rw [z]; exact Nat.le_add_right _ _
      exact I1.fpOk hle (I1.hok.fresh hle)
end XR
set_option Elab.async false
set_option linter.all false
set_option maxRecDepth 100000
set_option maxHeartbeats 4000000
/-! errors of own classes without fields: made by X(), asked when caught -/
namespace XR
open PySem PySem.Spec PyProof.Rows L2
section
variable {X : Cx} {C : Addr} {bmB : List Value} {B newId initId : String}
theorem pmk_own0 {x : Str} {p pos : Pos} (F : ExcBaseFacts B newId initId bmB) (q : PySem.W.excIn X.K C bmB newId = true) (gC : X.mg x = some (.ref C)) (kC : PySem.W.keepIn X.K (.ref C) = true) (r : Raises X (.ref C)) (hg : Gl X x)
    (hdb : (x == ("__debug__" : Str)) = false := by decide) : PMk X (.Call (.Name x p) [] [] pos) (fun _ H Q => Q (.ref C) none H) := by
  intro pins s σ H Q I h
  refine wpAny_Call_Name_kw (ld_glob I hg gC ?_ hdb)
  refine PySem.W.callWith_K0 I.kIn kC ?_
  show wpAny _ _ (call (.ref C) []) _ _ _
  obtain ⟨bm, N, nm, qn, bs, hdct, sn, sub, ab, col, dd, k0, k1, k2, k3, k5, mN, hC, hN, hni, T⟩ := exc_obj I.kIn q
  refine wpAny_call_exc_subT F T hC hN hni (fun h' e hm => ?_) (by show 0 ≤ sizeLine; exact Nat.zero_le _)
  exact mk_of I hm r h (I.hok.gone hm.new)
end
section
variable {X : Cx} {a : Addr} {oe : Obj} {cls : Value} {d : Option Addr}
theorem pinned_none {pins : List (Addr × Obj)} {s : Shared} {σ : L2.St} {H : Hp} {D : Addr}
    (hp : (a, oe) ∈ X.pn) (hz : Zc (.ref D) none oe) (hf : ∃ vs, oe.data = .fields vs) (I : Inv X pins σ H s) : PySem.W.InstAt s.heap a oe D none := by
  have at_ := (I.pin (a, oe) (List.mem_append_left _ hp)).1
  obtain ⟨vs, hv⟩ := hf
  obtain ⟨oc, od, oda, osl⟩ := oe
  obtain ⟨h1, h2⟩ := hz
  dsimp only at h1 h2 hv
  subst h1 h2 hv
  exact ⟨at_, rfl, rfl, trivial⟩
def rIsN (K : PySem.W.Frag) (cls : Value) (d : Option Addr) (a : Addr) : List V → Hp → VK → Prop := fun xs H Q =>
  ∃ (D : Addr) (c : V) (cv : Value) (b : Bool), cls = .ref D ∧ d = none ∧ Asks K D ∧ xs = [.ref a, c] ∧ ClsV c cv ∧ PySem.W.kitOne K (.ref D) cv = some b ∧ Q (.bl b) H
def rIsNT (K : PySem.W.Frag) (cls : Value) (d : Option Addr) (a : Addr) : List V → Hp → VK → Prop := fun xs H Q =>
  ∃ (D tp : Addr) (cs : List V) (us : List Value) (b : Bool), cls = .ref D ∧ d = none ∧ Asks K D ∧ xs = [.ref a, .ref tp] ∧ H tp = some (.tup cs) ∧ Paired ClsV cs us ∧ PySem.W.kitAny K (.ref D) us = some b ∧ Q (.bl b) H
theorem call_isN (hp : (a, oe) ∈ X.pn) (hz : Zc cls d oe) (hf : ∃ vs, oe.data = .fields vs) : CallR X (.builtin "isinstance") (rIsN X.K cls d a) := by
  intro pins s σ H xs us Q I r h
  obtain ⟨D, c, cv, b, rfl, rfl, as, rfl, kc, ek, q⟩ := h
  obtain ⟨u1, u2, rfl, r1, r2⟩ := vals2 r
  obtain rfl : u1 = Value.ref a := r1
  obtain rfl := kc.eq r2
  have J := pinned_none hp hz hf I
  exact PySem.W.kia_one (PySem.W.handS_kitx_exc as.hg as.hk as.hs as.hd as.ha as.hn as.ht as.hm) I.kIn J ek (fun z => nomatch z) fun tk => ⟨.bl b, H, I.tok tk, rfl, q⟩
theorem call_isNT (hp : (a, oe) ∈ X.pn) (hz : Zc cls d oe) (hf : ∃ vs, oe.data = .fields vs) : CallR X (.builtin "isinstance") (rIsNT X.K cls d a) := by
  intro pins s σ H xs us Q I r h
  obtain ⟨D, tp, cs, ws, b, rfl, rfl, as, rfl, hT, kc, ek, q⟩ := h
  obtain ⟨u1, u2, rfl, r1, r2⟩ := vals2 r
  obtain rfl : u1 = Value.ref a := r1
  obtain rfl : u2 = Value.ref tp := r2
  have J := pinned_none hp hz hf I
  have okT : ObjOk X.prog X.w H s.heap tp (.tup cs) := I.hok tp _ hT
  obtain ⟨_, its, rv, ⟨oc, od2, dt, sl⟩, h1, h2, n, h3⟩ := okT
  dsimp only at h2 h3
  subst h2 h3
  obtain rfl := ClsV.all kc rv
  exact PySem.W.kia_tup (PySem.W.handS_kitx_exc as.hg as.hk as.hs as.hd as.ha as.hn as.ht as.hm) I.kIn J h1 ek (fun z => nomatch z) fun tk => ⟨.bl b, H, I.tok tk, rfl, q⟩
/-- with fields or without -/
def rIsA (K : PySem.W.Frag) (cls : Value) (d : Option Addr) (a : Addr) : List V → Hp → VK → Prop := fun xs H Q => rIsP K cls d a xs H Q ∨ rIsN K cls d a xs H Q
def rIsAT (K : PySem.W.Frag) (cls : Value) (d : Option Addr) (a : Addr) : List V → Hp → VK → Prop := fun xs H Q => rIsPT K cls d a xs H Q ∨ rIsNT K cls d a xs H Q
theorem call_isA (hp : (a, oe) ∈ X.pn) (hz : Zc cls d oe) (hf : ∃ vs, oe.data = .fields vs) : CallR X (.builtin "isinstance") (rIsA X.K cls d a) := by
  intro pins s σ H xs us Q I r h
  rcases h with h | h
  · exact call_isP hp hz hf pins s σ H xs us Q I r h
  · exact call_isN hp hz hf pins s σ H xs us Q I r h
theorem call_isAT (hp : (a, oe) ∈ X.pn) (hz : Zc cls d oe) (hf : ∃ vs, oe.data = .fields vs) : CallR X (.builtin "isinstance") (rIsAT X.K cls d a) := by
  intro pins s σ H xs us Q I r h
  rcases h with h | h
  · exact call_isPT hp hz hf pins s σ H xs us Q I r h
  · exact call_isNT hp hz hf pins s σ H xs us Q I r h
end
section
variable {X : Cx} {a b : Addr} {oe : Obj} {cls : Value} {d : Option Addr} {pn : List (Addr × Obj)}
theorem call_isAs (hz : Zc cls d oe) (hf : ∃ vs, oe.data = .fields vs) : CallR (X.suite b ((a, oe) :: pn)) (.builtin "isinstance") (rIsA X.K cls d a) := call_isA List.mem_cons_self hz hf
theorem call_isATs (hz : Zc cls d oe) (hf : ∃ vs, oe.data = .fields vs) : CallR (X.suite b ((a, oe) :: pn)) (.builtin "isinstance") (rIsAT X.K cls d a) := call_isAT List.mem_cons_self hz hf
end
/-! ### min and max of a list or a tuple of ints -/
section
variable {prog : Program} {w : World} {A : Around} {E : Value → Shared → Prop} {s : Shared} {l : Addr} {xs : Array (Int × Tok)}
theorem iter_intTup {Q : Value → Shared → Prop} (hl : s.heap.IsTuple l (intItems xs))
    (h : ∀ s₂ : Shared, s₂ = { s with heap := s.heap.push { cls := .type "tuple_iterator", data := .fields #[.ref l, .int 0 0] } } →
      (s₂.heap.IsTupleIter s.heap.objs.size l 0 ∧ s₂.heap.IsTuple l (intItems xs)) → (∀ b ∈ [s.heap.objs.size, l], b < s₂.heap.objs.size) → l ≠ s.heap.objs.size → Q (.ref s.heap.objs.size) s₂) :
    wpAny (model prog w) A (pyIter (.ref l)) Q E s := by
  have hlt : l < s.heap.objs.size := by obtain ⟨_, e, _⟩ := hl; exact Heap.lt_size e
  refine wpAny_pyIter_tuple hl (h _ rfl ⟨⟨_, Heap.get?_push_size _ rfl, rfl, rfl⟩, ?_⟩ (fun b hb => ?_) (Nat.ne_of_lt hlt))
  · obtain ⟨o, e, r⟩ := hl
    exact ⟨o, Heap.get?_push_of_some _ e, r⟩
  · show b < (s.heap.push _).objs.size
    rw [Heap.size_push]
    rcases List.mem_cons.mp hb with rfl | hb
    · exact Nat.lt_succ_self _
    · rcases List.mem_cons.mp hb with rfl | hb
      · exact Nat.lt_succ_of_lt hlt
      · cases hb
theorem old_keptT {h' : Heap} (hk : ∀ b o, b ∉ [s.heap.objs.size] → (s.heap.push { cls := .type "tuple_iterator", data := .fields #[.ref l, .int 0 0] }).get? b = some o → h'.get? b = some o) :
    ∀ b o, s.heap.get? b = some o → h'.get? b = some o := fun b o e => by
  refine hk b o (fun hm => ?_) (Heap.get?_push_of_some _ e)
  rcases List.mem_cons.mp hm with e1 | hm
  · exact absurd (e1 ▸ Heap.lt_size e) (Nat.lt_irrefl _)
  · cases hm
theorem max_intTup {Q : Value → Shared → Prop} (hh : A.handled = none) (hl : s.heap.IsTuple l (intItems xs)) (hne : 0 < xs.size)
    (h : ∀ v h' tk, (intItems xs)[argBest (fun i j => decide (numAt xs i > numAt xs j)) (xs.size - 1)]? = some v → (∀ b o, s.heap.get? b = some o → h'.get? b = some o) → Q v { s with heap := h', toks := tk }) :
    wpAny (model prog w) A (call (.builtin "max") [.ref l]) Q E s := by
  refine call_max_walk (iter_intTup hl fun s₂ e st hfp hlI => ?_)
  subst e
  refine ⟨_, _, _, _, _, _, _, rfl, Walks.tuple (A := A.in1) hh _ l hlI (intItems xs), st, hfp, by simpa [intItems] using hne, CmpOf.ints_gt (numAt xs) (fun _ _ => intItems_at), fun v h' tk hP hk => ?_⟩
  exact h v h' tk (by simpa [intItems] using hP) (old_keptT hk)
theorem min_intTup {Q : Value → Shared → Prop} (hh : A.handled = none) (hl : s.heap.IsTuple l (intItems xs)) (hne : 0 < xs.size)
    (h : ∀ v h' tk, (intItems xs)[argBest (fun i j => decide (numAt xs i < numAt xs j)) (xs.size - 1)]? = some v → (∀ b o, s.heap.get? b = some o → h'.get? b = some o) → Q v { s with heap := h', toks := tk }) :
    wpAny (model prog w) A (call (.builtin "min") [.ref l]) Q E s := by
  refine call_min_walk (iter_intTup hl fun s₂ e st hfp hlI => ?_)
  subst e
  refine ⟨_, _, _, _, _, _, _, rfl, Walks.tuple (A := A.in1) hh _ l hlI (intItems xs), st, hfp, by simpa [intItems] using hne, CmpOf.ints_lt (numAt xs) (fun _ _ => intItems_at), fun v h' tk hP hk => ?_⟩
  exact h v h' tk (by simpa [intItems] using hP) (old_keptT hk)
end
section
variable {prog : Program} {w : World} {A : Around} {E : Value → Shared → Prop} {s : Shared} {l : Addr} {its : List Value} {ns : List Int} {Q : Value → Shared → Prop}
theorem max_rawT (hh : A.handled = none) (hl : s.heap.IsTuple l its.toArray) (hi : IntsAre its ns) (hne : 0 < ns.length)
    (h : ∀ h' tk M t', (∀ b o, s.heap.get? b = some o → h'.get? b = some o) → M ∈ ns → (∀ a, a ∈ ns → a ≤ M) → Q (.int M t') { s with heap := h', toks := tk }) : wpAny (model prog w) A (call (.builtin "max") [.ref l]) Q E s := by
  obtain ⟨xs, e⟩ := hi.allInts.items
  have hn : numsOf (intItems xs).toList = ns := by rw [← e]; exact hi.numsOf
  rw [nums_intItems] at hn
  subst hn
  rw [e] at hl
  have hsz : 0 < xs.size := by simpa using hne
  refine max_intTup hh hl hsz fun v h' tk hv hk => ?_
  obtain ⟨t, rfl⟩ := intItems_at hv
  obtain ⟨h1, h2⟩ := argBest_gt (numAt xs) (xs.size - 1)
  refine h h' tk _ t hk ?_ fun a ha => ?_
  · rw [numAt_eq]; exact PySem.getD_mem (by rw [List.length_map, Array.length_toList]; omega)
  · obtain ⟨j, hj, rfl⟩ := mem_getD ha
    rw [List.length_map, Array.length_toList] at hj
    rw [← numAt_eq]; exact h2 j (by omega)
theorem min_rawT (hh : A.handled = none) (hl : s.heap.IsTuple l its.toArray) (hi : IntsAre its ns) (hne : 0 < ns.length)
    (h : ∀ h' tk M t', (∀ b o, s.heap.get? b = some o → h'.get? b = some o) → M ∈ ns → (∀ a, a ∈ ns → M ≤ a) → Q (.int M t') { s with heap := h', toks := tk }) : wpAny (model prog w) A (call (.builtin "min") [.ref l]) Q E s := by
  obtain ⟨xs, e⟩ := hi.allInts.items
  have hn : numsOf (intItems xs).toList = ns := by rw [← e]; exact hi.numsOf
  rw [nums_intItems] at hn
  subst hn
  rw [e] at hl
  have hsz : 0 < xs.size := by simpa using hne
  refine min_intTup hh hl hsz fun v h' tk hv hk => ?_
  obtain ⟨t, rfl⟩ := intItems_at hv
  obtain ⟨h1, h2⟩ := argBest_lt (numAt xs) (xs.size - 1)
  refine h h' tk _ t hk ?_ fun a ha => ?_
  · rw [numAt_eq]; exact PySem.getD_mem (by rw [List.length_map, Array.length_toList]; omega)
  · obtain ⟨j, hj, rfl⟩ := mem_getD ha
    rw [List.length_map, Array.length_toList] at hj
    rw [← numAt_eq]; exact h2 j (by omega)
end
section
variable {X : Cx}
def rMaxQ (K : PySem.W.Frag) : List V → Hp → VK → Prop := fun vs H Q => ∃ (a : Addr) (ns : List Int), vs = [V.ref a] ∧ SqA K H a (ns.map V.int) ∧ 0 < ns.length ∧ ∀ m, m ∈ ns → (∀ y, y ∈ ns → y ≤ m) → Q (.int m) H
def rMinQ (K : PySem.W.Frag) : List V → Hp → VK → Prop := fun vs H Q => ∃ (a : Addr) (ns : List Int), vs = [V.ref a] ∧ SqA K H a (ns.map V.int) ∧ 0 < ns.length ∧ ∀ m, m ∈ ns → (∀ y, y ∈ ns → m ≤ y) → Q (.int m) H
theorem cr_maxQ (hc : X.calm = true) : CallR X (.builtin "max") (rMaxQ X.K) := by
  intro pins s σ H vs us Q I r h
  obtain ⟨a, ns, rfl, hs, hne, q⟩ := h
  rw [Vals.ref1 r]
  rcases hs with hs | hs
  · obtain ⟨its, rv, hl, _⟩ := I.list hs
    exact max_raw (I.ok.hd hc) hl.isList rv.ints hne fun h' tk m t' hk h1 h2 => ⟨.int _, H, I.kept hk, ⟨_, rfl⟩, q m h1 h2⟩
  · obtain ⟨its, rv, hl, _⟩ := I.tuple hs
    exact max_rawT (I.ok.hd hc) (show s.heap.IsTuple a its.toArray from hl) rv.ints hne fun h' tk m t' hk h1 h2 => ⟨.int _, H, I.kept hk, ⟨_, rfl⟩, q m h1 h2⟩
theorem cr_minQ (hc : X.calm = true) : CallR X (.builtin "min") (rMinQ X.K) := by
  intro pins s σ H vs us Q I r h
  obtain ⟨a, ns, rfl, hs, hne, q⟩ := h
  rw [Vals.ref1 r]
  rcases hs with hs | hs
  · obtain ⟨its, rv, hl, _⟩ := I.list hs
    exact min_raw (I.ok.hd hc) hl.isList rv.ints hne fun h' tk m t' hk h1 h2 => ⟨.int _, H, I.kept hk, ⟨_, rfl⟩, q m h1 h2⟩
  · obtain ⟨its, rv, hl, _⟩ := I.tuple hs
    exact min_rawT (I.ok.hd hc) (show s.heap.IsTuple a its.toArray from hl) rv.ints hne fun h' tk m t' hk h1 h2 => ⟨.int _, H, I.kept hk, ⟨_, rfl⟩, q m h1 h2⟩
end
end XR
set_option Elab.async false
set_option linter.all false
set_option maxRecDepth 100000
set_option maxHeartbeats 4000000
/-! texts: times, pairs of texts, lists of them -/
namespace XR
open PySem PySem.Spec PyProof.Rows L2
theorem fold_size (c : Array Nat) : ∀ (n : Nat) (acc : Array Nat), ((List.replicate n c).foldl (· ++ ·) acc).size = acc.size + n * c.size
  | 0, acc => by simp
  | n + 1, acc => by
    rw [List.replicate_succ, List.foldl_cons, fold_size c n, Array.size_append, Nat.succ_mul]
    omega
theorem fold_all (p : Nat → Bool) (c : Array Nat) (hc : c.all p = true) : ∀ (n : Nat) (acc : Array Nat), acc.all p = true → ((List.replicate n c).foldl (· ++ ·) acc).all p = true
  | 0, acc, h => by simpa using h
  | n + 1, acc, h => by
    rw [List.replicate_succ, List.foldl_cons]
    exact fold_all p c hc n _ (by rw [Array.all_append, h, hc]; rfl)
def mulS (z : Str) (n : Int) : Str := if n < 1 then Str.empty else if (n == 1 || z.length == 0) = true then z else ⟨(List.replicate n.toNat z.cps).foldl (· ++ ·) #[]⟩
def rMulS : R2 := fun x y H Q => ∃ z n, x = .str z ∧ y = .int n ∧ 1 ≤ n ∧ n ≤ 30 ∧ z.length ≤ 30 ∧ Q (.str (mulS z n)) H
theorem op_mul_str {X : Cx} : OpR X (binaryOp .Mult) rMulS := by
  intro pins s σ H x y v u Q I rx ry h
  obtain ⟨z, n, rfl, rfl, h1, h2, h3, q⟩ := h
  obtain ⟨t, rfl⟩ := rx
  obtain ⟨t', rfl⟩ := ry
  have hn : ¬ n < 1 := by omega
  refine PySem.P.mul_str (by
    rw [decide_eq_false (show ¬ n < -(2 ^ 63 : Int) by omega), decide_eq_false (show ¬ n ≥ 2 ^ 63 by omega)]; rfl) (fun _ _ => ?_) (fun _ _ => ?_) ?_
  · have : (30 : Int) ≤ (2 ^ 63 - 1) / n := Int.le_ediv_of_mul_le (by omega) (by omega)
    omega
  · have : z.length * n.toNat ≤ 30 * 30 := Nat.mul_le_mul h3 (by omega)
    exact decide_eq_false (by rw [sizeLine_eq]; omega)
  · unfold mulS at q
    rw [if_neg hn] at q ⊢
    by_cases e : (n == 1 || z.length == 0) = true
    · rw [if_pos e] at q ⊢
      exact ⟨.str z, H, I, ⟨_, rfl⟩, q⟩
    · rw [if_neg e] at q ⊢
      refine ⟨?_, ⟨.str _, H, I.tok _, ⟨_, rfl⟩, q⟩⟩
      show (Array.size _) ≤ sizeLine
      rw [fold_size, sizeLine_eq]
      have : n.toNat * z.cps.size ≤ 30 * 30 := Nat.mul_le_mul (by omega) h3
      show (0 : Nat) + _ ≤ _
      omega
/-! ### texts that may stand in data -/
def okS (n : Nat) (s : Str) : Prop := PyData.strOk s = true ∧ s.length ≤ n
theorem okS.mono {n m : Nat} {s : Str} (h : okS n s) (e : n ≤ m) : okS m s := ⟨h.1, Nat.le_trans h.2 e⟩
theorem okS.add {n m : Nat} {a b : Str} (h : okS n a) (k : okS m b) : okS (n + m) (a ++ b) := by
  have e : (a ++ b).cps = a.cps ++ b.cps := rfl
  refine ⟨?_, ?_⟩
  · show (a ++ b).cps.all _ = true
    rw [e, Array.all_append]
    show ((a.cps.all _) && (b.cps.all _)) = true
    rw [show a.cps.all _ = true from h.1, show b.cps.all _ = true from k.1]
    rfl
  · show (a ++ b).cps.size ≤ n + m
    rw [e, Array.size_append]
    have h1 : a.cps.size ≤ n := h.2
    have h2 : b.cps.size ≤ m := k.2
    omega
theorem okS.cut {n : Nat} {a : Str} (h : okS n a) (lo hi : Option Int) : okS n (cutS a lo hi) := by
  have ha : a.cps.all (· < 0x110000) = true := h.1
  have hn : a.cps.size ≤ n := h.2
  unfold cutS
  refine ⟨?_, ?_⟩
  · show (List.toArray _).all (· < 0x110000) = true
    rw [List.all_toArray, List.all_eq_true]
    intro c hc
    have := List.mem_of_mem_drop (List.mem_of_mem_take hc)
    rw [Array.all_eq_true_iff_forall_mem] at ha
    exact ha c (Array.mem_toList_iff.mp this)
  · show (List.toArray _).size ≤ n
    rw [List.size_toArray, List.length_take, List.length_drop, Array.length_toList]
    omega
theorem okS.mul {a : Str} (h : okS 1 a) {n : Int} (h1 : 1 ≤ n) (h2 : n ≤ 30) : okS 30 (mulS a n) := by
  unfold mulS
  rw [if_neg (by omega)]
  by_cases e : (n == 1 || a.length == 0) = true
  · rw [if_pos e]
    exact h.mono (by decide)
  · rw [if_neg e]
    refine ⟨fold_all _ _ h.1 _ _ (by simp), ?_⟩
    show Array.size _ ≤ 30
    rw [fold_size]
    have : n.toNat * a.cps.size ≤ n.toNat * 1 := Nat.mul_le_mul (Nat.le_refl _) h.2
    show 0 + _ ≤ _
    omega
theorem okS.at {n : Nat} {z : Str} (h : okS n z) {i : Int} (h0 : 0 ≤ i) (h1 : i < (z.length : Int)) : ∃ c, atI z.cps.toList i = some c ∧ okS 1 (⟨#[c]⟩ : Str) := by
  have e : z.length = z.cps.toList.length := by simp [Str.length]
  have hl : i.toNat < z.cps.toList.length := by omega
  refine ⟨z.cps.toList[i.toNat], ?_, ?_, Nat.le_refl _⟩
  · have h3 := atI_nat (xs := z.cps.toList) (j := i.toNat) (List.getElem?_eq_getElem hl)
    rwa [show ((i.toNat : Nat) : Int) = i by omega] at h3
  have ha : z.cps.all (· < 0x110000) = true := h.1
  rw [Array.all_eq_true_iff_forall_mem] at ha
  have := ha _ (Array.mem_toList_iff.mp (List.getElem_mem hl))
  show (#[_] : Array Nat).all _ = true
  simpa using this
theorem okS_int (i : Int) (h0 : 0 ≤ i) (h1 : i < 128) : okS 3 (Str.ofString (toString i)) := by
  have h : ∀ n : Fin 128, PyData.strOk (Str.ofString (toString (n.val : Int))) = true ∧ (Str.ofString (toString (n.val : Int))).length ≤ 3 := by decide +kernel
  have := h ⟨i.toNat, by omega⟩
  rw [show ((⟨i.toNat, by omega⟩ : Fin 128).val : Int) = i by simp; omega] at this
  exact this
theorem okS.room {n m : Nat} {a b : Str} (h : okS n a) (k : okS m b) (e : n + m ≤ 1000) : a.length + b.length ≤ sizeLine := by
  have h1 := h.2
  have h2 := k.2
  rw [sizeLine_eq]
  omega
theorem seq_ix {i : Int} {n : Nat} (h0 : 0 ≤ i) (h1 : i < (n : Int)) : seqIndex? i n = some i.toNat := by
  simp [seqIndex?, show ¬ i < 0 by omega, h0, h1]
theorem isE_map {α β : Type} (f : α → β) (xs : List α) : (xs.map f).isEmpty = xs.isEmpty := by cases xs <;> rfl
theorem strs_at {n : Nat} (ss : List Str) {i : Int} (h0 : 0 ≤ i) (h : i < (ss.length : Int)) (p : ∀ s ∈ ss, okS n s) : ∃ s, atI (ss.map V.str) i = some (.str s) ∧ okS n s ∧ s ∈ ss := by
  have hl : i.toNat < ss.length := by omega
  refine ⟨ss[i.toNat], at_of (j := i.toNat) (by omega) ?_, p _ (List.getElem_mem hl), List.getElem_mem hl⟩
  rw [List.getElem?_map, List.getElem?_eq_getElem hl] <;> rfl
theorem DpAll.strs {K : PySem.W.Frag} {G : Hp} : ∀ {xs : List V} {ns : List Str}, DpAll K G xs (ns.map PyData.str) → xs = ns.map V.str
  | _, [], .nil => rfl
  | _, _ :: _, .cons a b => by rw [Dp.str_inv a, DpAll.strs b]; rfl
theorem DpAll.of_strs {K : PySem.W.Frag} {G : Hp} : ∀ (ns : List Str), DpAll K G (ns.map V.str) (ns.map PyData.str)
  | [] => .nil
  | n :: r => .cons (.str n) (DpAll.of_strs r)
abbrev sD : Str × Str → PyData := fun c => .tuple [.str c.1, .str c.2]
abbrev sDs (cs : List (Str × Str)) : List PyData := cs.map sD
theorem Dp.spair {K : PySem.W.Frag} {G : Hp} {x : V} {c : Str × Str} (h : Dp K G x (sD c)) : ∃ p, x = .ref p ∧ SqT K G p [.str c.1, .str c.2] := by
  obtain ⟨p, xs, rfl, s, a⟩ := Dp.tup_inv h
  cases a with | cons a1 a2 =>
  cases a2 with | cons b1 b2 =>
  cases b2
  rw [Dp.str_inv a1, Dp.str_inv b1] at s
  exact ⟨p, rfl, s⟩
theorem Dp.mk_spair {K : PySem.W.Frag} {G : Hp} {p : Addr} {a b : Str} (h : SqT K G p [.str a, .str b]) : Dp K G (.ref p) (sD (a, b)) := .tup h (.cons (.str a) (.cons (.str b) .nil))
def okP (n : Nat) (c : Str × Str) : Prop := okS n c.1 ∧ okS n c.2
theorem strs_can {n : Nat} : ∀ ss : List Str, (∀ s ∈ ss, okS n s) → PyData.canLayAll0 (ss.map PyData.str) = true
  | [], _ => rfl
  | s :: r, h => by
    show (PyData.canLay0 (.str s) && PyData.canLayAll0 (r.map PyData.str)) = true
    rw [strs_can r fun x hx => h x (List.mem_cons_of_mem _ hx)]
    have := (h s List.mem_cons_self).1
    simpa [PyData.canLay0] using this
theorem strs_depth : ∀ ns : List Str, PyData.depthAll (ns.map PyData.str) ≤ 8
  | [] => by decide
  | c :: r => by
    have := strs_depth r
    show max (PyData.depth (.str c)) (PyData.depthAll (r.map PyData.str)) ≤ 8
    have h : PyData.depth (.str c) ≤ 8 := by simp [PyData.depth]
    omega
theorem strs_eqv : ∀ ns : List Str, PyData.eqvAll (ns.map PyData.str) (ns.map PyData.str) = true
  | [] => rfl
  | c :: r => by
    show (PyData.eqv (.str c) (.str c) && PyData.eqvAll (r.map PyData.str) (r.map PyData.str)) = true
    rw [strs_eqv r]
    simp [PyData.eqv]
theorem shaped_strs {n : Nat} (ss : List Str) (h : ∀ s ∈ ss, okS n s) : SeqAt.shaped (.list (ss.map PyData.str)) = true ∧ SeqAt.shaped (.tuple (ss.map PyData.str)) = true := by
  have hc := strs_can ss h
  have hd := strs_depth ss
  constructor
  · show (PyData.canLayAll0 (ss.map PyData.str) && decide (PyData.depthAll (ss.map PyData.str) + 1 ≤ 64)) = true
    rw [hc]; simp; omega
  · show (PyData.canLayAll0 (ss.map PyData.str) && decide (PyData.depthAll (ss.map PyData.str) + 1 ≤ 64)) = true
    rw [hc]; simp; omega
theorem sDs_can {n : Nat} : ∀ ss : List (Str × Str), (∀ s ∈ ss, okP n s) → PyData.canLayAll0 (sDs ss) = true
  | [], _ => rfl
  | s :: r, h => by
    show (PyData.canLay0 (sD s) && PyData.canLayAll0 (sDs r)) = true
    rw [sDs_can r fun x hx => h x (List.mem_cons_of_mem _ hx)]
    have h1 := (h s List.mem_cons_self).1.1
    have h2 := (h s List.mem_cons_self).2.1
    simp [PyData.canLay0, PyData.canLayAll0, h1, h2]
theorem sDs_depth : ∀ cs : List (Str × Str), PyData.depthAll (sDs cs) ≤ 8
  | [] => by decide
  | c :: r => by
    have := sDs_depth r
    show max (PyData.depth (sD c)) (PyData.depthAll (sDs r)) ≤ 8
    have h : PyData.depth (sD c) ≤ 8 := by simp [PyData.depth, PyData.depthAll]
    omega
theorem sDs_eqv : ∀ cs : List (Str × Str), PyData.eqvAll (sDs cs) (sDs cs) = true
  | [] => rfl
  | c :: r => by
    show (PyData.eqv (sD c) (sD c) && PyData.eqvAll (sDs r) (sDs r)) = true
    rw [sDs_eqv r]
    simp [PyData.eqv, PyData.eqvAll]
theorem shaped_sDs {n : Nat} (ss : List (Str × Str)) (h : ∀ s ∈ ss, okP n s) : SeqAt.shaped (.list (sDs ss)) = true := by
  have hc := sDs_can ss h
  have hd := sDs_depth ss
  show (PyData.canLayAll0 (sDs ss) && decide (PyData.depthAll (sDs ss) + 1 ≤ 64)) = true
  rw [hc]; simp; omega
theorem call_len_seqb {X : Cx} {s : Shared} {H : Hp} {sc : Scope} {ce : Env} {fp : List Addr} : CallR (X.blk s H sc ce fp) (.builtin "len") (fun xs H Q => ∃ p ys, xs = [V.ref p] ∧ (SqL X.K H p ys ∨ SqT X.K H p ys) ∧ Q (V.int (ys.length : Int)) H) := call_len_seq
end XR
set_option Elab.async false
set_option linter.all false
set_option maxRecDepth 100000
set_option maxHeartbeats 4000000
/-! defs with a star parameter, called at their class -/
namespace XR
open PySem PySem.Spec PyProof.Rows L2
section
variable {X : Cx} {CX : CXT} {k : Nat} {C f p g : Addr} {sp : Sp} {E : XK} {m : Str} {o : Expr} {apos pos : Pos} {pl : Sem Bool} {es : List Expr} {e : Expr} {ta : TE} {t : TA} {ES : L2.St → XK}
/-- the callee with a star runs, somewhere below the body -/
theorem run_atR {A : Around} {pins : List (Addr × Obj)} {σ : L2.St} {H : Hp} {s : Shared} {Q : VK} {us : List Value} {vs : List V} (F : FnR X.prog X.w X.K X.mg X.base CX k f sp) (hr : Room k A) (hA : A.frames = X.A.frames) (hx : PassesAt CX X σ E)
    (I : Inv X pins σ H s) (r : Vals vs us) (h : sp vs H Q E) : wpAny (model X.prog X.w) A (call (.ref f) us) (EP X pins σ Q) X.xe s := by
  have e0 : Env0 X.prog X.w X.K X.mg X.base A X.stack s H := by
    have e := I.env0
    exact ⟨by rw [hA]; exact e.frames, e.mod, e.bs, e.bsz, e.funs, e.frf, e.hok, e.bare⟩
  refine wpAny_call (codeAny_mono (F A X.stack s H us vs Q E hr e0 r h) fun r s' hq => ?_)
  cases r with
  | error e => exact hx pins H s e s' I hq
  | ok fl =>
    cases fl with
    | ret u => exact I.after hq
    | next => exact False.elim hq
    | brk => exact False.elim hq
    | cont => exact False.elim hq
theorem pe_statR (he : PE X o ta) (r : CStat X.K C p g m) (F : FnR X.prog X.w X.K X.mg X.base CX k g sp) (hr : Room k X.A) (hk : PySem.W.keepIn X.K (.ref g) = true) (hx : ∀ σ, PassesAt CX X σ (ES σ)) (ha : PA X (e :: es) t)
    (hst : starEach (e :: es) X.env = (false, eval e X.env) :: starEach es X.env := by rfl) (hpl : (backTo pos (starEach es X.env)).any (·.1) = false := by rfl)
    (ht : eval (.Call (.Attribute o m apos) (e :: es) [] pos) X.env = (do
      let ov ← eval o X.env
      standAt apos.atName
      let (f, first) ← holding [ov] (getMethod ov m pl)
      callWith pos f first (backTo pos (starEach (e :: es) X.env)) (backToKw pos (keywordEach [] X.env))) := by rfl) :
    PE X (.Call (.Attribute o m apos) (e :: es) [] pos) (tStat C sp ES ta t) := by
  refine ⟨fun pins s σ H Q I h => ?_⟩
  refine PySem.W.methodCall_KW (pl := pl) (thn (he.run pins s σ H _ I h) fun u s1 ⟨x, H1, I1, rx, ex, q⟩ => ?_) ht
  subst ex
  obtain rfl : u = Value.ref C := rx
  refine getstat_ok I1 r fun s2 I2 => ?_
  refine PySem.W.callWith_K (h₀ := X.base) I.ok.mod.kin hk (thn (ha.run pos _ s2 σ H1 _ I2 q) fun us s3 ⟨vs, H2, I3, rv, q2⟩ => ⟨I3.kIn, ?_⟩) hst hpl
  exact run_atR F hr rfl (hx σ) I3 rv q2
theorem pe_statR0 (he : PE X o ta) (r : CStat X.K C p g m) (F : FnR X.prog X.w X.K X.mg X.base CX k g sp) (hr : Room k X.A) (hk : PySem.W.keepIn X.K (.ref g) = true) (hx : ∀ σ, PassesAt CX X σ (ES σ))
    (ht : eval (.Call (.Attribute o m apos) [] [] pos) X.env = (do
      let ov ← eval o X.env
      standAt apos.atName
      let (f, first) ← holding [ov] (getMethod ov m pl)
      callWith pos f first (backTo pos (starEach [] X.env)) (backToKw pos (keywordEach [] X.env))) := by rfl) :
    PE X (.Call (.Attribute o m apos) [] [] pos) (tStat C sp ES ta tNil) := by
  refine ⟨fun pins s σ H Q I h => ?_⟩
  refine PySem.W.methodCall_KW (pl := pl) (thn (he.run pins s σ H _ I h) fun u s1 ⟨x, H1, I1, rx, ex, q⟩ => ?_) ht
  subst ex
  obtain rfl : u = Value.ref C := rx
  refine getstat_ok I1 r fun s2 I2 => ?_
  exact PySem.W.callWith_K0 I2.kIn hk (run_atR (us := []) F hr rfl (hx σ) I2 .nil q)
end
section
variable {P : Program} {w : World} {K : PySem.W.Frag} {mg : Str → Option Value} {base : Heap}
/-- a def whose one parameter takes all arguments -/
def spStar (sp : Sp) : Sp := fun vs H Q E => vs.length ≤ sizeLine ∧ ∀ p, H p = none → sp [.ref p] (L2.upd H p (.tup vs)) Q E
theorem okStar {x qual : Str} {st : Stmt} {f : Addr} {fd : FuncData} {N : List Str} {pv : Str} {k : Nat} {sp : Sp} (F : Fun K x qual st f fd) (S : FnScope N [pv] (defScope st))
    (hb : ∀ (kV doc pm : Value) (an : Option Addr) (cdv ct : Value) (rest : List Value), bindArgs (PySem.W.fnOf x qual (defArgs st) (defBody st) (defScope st) .none kV doc pm an cdv ct) { pos := rest } = (do let t ← newTuple rest; pure [(pv, t)]))
    (h : ∀ (cdv : Value) (A : Around) (outer : List Env) (s : Shared) (H : Hp) (vs : List V) (Q : VK) (E : XK), Room k (A.deeper (PyProof.Rows.envOfC qual (defScope st) s.heap.objs.size f cdv)) → sp vs H Q E →
      ∃ t, PSs (cxOf (L2.CX P w) P w K mg base N qual (defScope st) f cdv A outer s H E) (defBody st) t ∧ t { nx := fun _ H' => Q .non H', rt := Q } (L2.start N vs) H) :
    FnR P w K mg base (L2.CX P w) (k + 1) f (spStar sp) := by
  obtain ⟨oc, od, kV, doc, pm, an, cdv, ct, osl, rfl, lk, cd⟩ := F.ex
  have R := StX.fn_star (ps := []) (sp := sp) lk cd S StX.cxUp (fun us rest hl => by
    cases us with
    | nil => exact hb kV doc pm an cdv ct rest
    | cons _ _ => cases hl) (h cdv)
  intro A outer s H us vs Q E hr e0 rv ⟨hl, q⟩
  exact R A outer s H us vs Q E hr e0 rv ⟨[], vs, rfl, rfl, hl, q⟩
end
end XR
set_option Elab.async false
set_option linter.all false
set_option maxRecDepth 100000
set_option maxHeartbeats 4000000
/-! range(n) as a value -/
namespace XR
open PySem PySem.Spec PyProof.Rows L2
theorem cr_range1 {X : Cx} : CallR X (.type "range") (fun vs H Q => ∃ j, vs = [V.int j] ∧ ∀ p, H p = none → Q (.ref p) (L2.upd H p (.rng 0 j))) := by
  intro pins s σ H xs us Q I r h
  obtain ⟨j, rfl, k⟩ := h
  cases r with
  | cons r0 r =>
  cases r
  obtain ⟨t, rfl⟩ := r0
  refine PySem.call_range_1 ?_
  refine ⟨.ref _, L2.upd H _ (.rng 0 j), I.laid ?_ (Nat.le_refl _) ?_, rfl, k _ I.fresh⟩
  · exact fun b u e => Heap.get?_push_of_some _ e
  · exact ⟨_, _, _, Heap.get?_push_size (ho := rfl) ..⟩
theorem call_tuple_ofb {X : Cx} {s : Shared} {H : Hp} {sc : Scope} {ce : Env} {fp : List Addr} : CallR (X.blk s H sc ce fp) (.type "tuple") (fun xs H Q => ∃ p ys, xs = [.ref p] ∧ ((SqL X.K H p ys ∧ ∀ l, H l = none → Q (.ref l) (L2.upd H l (.tup ys))) ∨ (SqT X.K H p ys ∧ Q (.ref p) H))) := call_tuple_of
theorem call_list_ofb {X : Cx} {s : Shared} {H : Hp} {sc : Scope} {ce : Env} {fp : List Addr} : CallR (X.blk s H sc ce fp) (.type "list") (fun xs H Q => ∃ p ys, xs = [.ref p] ∧ (SqL X.K H p ys ∨ SqT X.K H p ys) ∧ ∀ l, H l = none → Q (.ref l) (L2.upd H l (.lst ys))) := call_list_of
theorem pt_truthb {X : Cx} {s : Shared} {H : Hp} {sc : Scope} {ce : Env} {fp : List Addr} {a : Expr} {ta : TE} (ha : PE (X.blk s H sc ce fp) a ta)
    (ht : ∀ whole : Sem Value, PySem.isTrue a (X.blk s H sc ce fp).env whole = do
        let v ← whole
        standAt a.pos
        holding [v] (truthy v)) : PT (X.blk s H sc ce fp) a (fun σ H Q => ta σ H fun x H' => ∃ k, TruV X.K x H' k ∧ Q k H') := pt_truth ha ht
theorem cr_allb {X : Cx} {s : Shared} {H : Hp} {sc : Scope} {ce : Env} {fp : List Addr} (hc : X.calm = true) : CallR (X.blk s H sc ce fp) (.builtin "all") (rAll X.K) := cr_all hc
theorem pi_sqb {X : Cx} {s : Shared} {H : Hp} {sc : Scope} {ce : Env} {fp : List Addr} {tg l : Expr} {tl : TE} (hl : PE (X.blk s H sc ce fp) l tl) : PI (X.blk s H sc ce fp) tg l (iSq X.K tl) := pi_sq hl
theorem op_in_seqbb {X : Cx} {s s2 : Shared} {H H2 : Hp} {sc sc2 : Scope} {ce ce2 : Env} {fp fp2 : List Addr} : OpR ((X.blk s H sc ce fp).blk s2 H2 sc2 ce2 fp2) (compareOp .In) (rIn X.K false) := op_in_seq
theorem op_neDs {X : Cx} {b : Addr} {pn : List (Addr × Obj)} (hu : X.A.units + 64 < cLine) : OpR (X.suite b pn) (compareOp .NotEq) (rNeD X.K) := op_neD (X := X.suite b pn) hu
theorem op_eqDs {X : Cx} {b : Addr} {pn : List (Addr × Obj)} (hu : X.A.units + 64 < cLine) : OpR (X.suite b pn) (compareOp .Eq) (rEqD X.K) := op_eqD (X := X.suite b pn) hu
theorem ix_lists {X : Cx} {b : Addr} {pn : List (Addr × Obj)} : IxR (X.suite b pn) (rIxL X.K) := ix_list
theorem ix_tups {X : Cx} {b : Addr} {pn : List (Addr × Obj)} : IxR (X.suite b pn) (rIxT X.K) := ix_tup
/-- a slice of a list or a tuple -/
def rSlQ (K : PySem.W.Frag) : V → Option Int → Option Int → Hp → VK → Prop := fun x lo hi H Q => ∃ a xs, x = .ref a ∧ SqA K H a xs ∧ ∀ (p : Addr) (H' : Hp), Same H H' → SqA K H' p (cutV xs lo hi) → Q (.ref p) H'
theorem sl_seq {X : Cx} : SlR X (rSlQ X.K) := by
  intro pins s σ H x v vl vu lo hi sl Q I r hs hl hu h
  obtain ⟨a, xs, rfl, hx, k⟩ := h
  rcases hx with hx | hx
  · exact sl_list pins s σ H _ v vl vu lo hi sl Q I r hs hl hu ⟨a, xs, rfl, hx, fun p hp => k p _ (Same.add hp) (.inl (SqL.of L2.upd_same))⟩
  · refine sl_tupA pins s σ H _ v vl vu lo hi sl Q I r hs hl hu ⟨a, xs, rfl, hx, fun w => k a H (Same.refl _) (.inr ?_), fun _ p hp => k p _ (Same.add hp) (.inr (SqT.of L2.upd_same))⟩
    have e : cutV xs lo hi = xs := by
      unfold cutV
      rw [w.1, w.2]
      simp
    rw [e]
    exact hx
end XR
set_option Elab.async false
set_option linter.all false
set_option maxRecDepth 100000
set_option maxHeartbeats 4000000
/-! the layer of values: trees in the place of addresses; what is settled (G) never changes, what is open is numbered -/
namespace VL
open PySem PySem.Spec PyProof.Rows L2 XR
/-- settled values, as trees -/
inductive T where
  | non | bl (b : Bool) | int (i : Int) | str (s : Str) | ty (n : String) | cls (a : Addr)
  | lst (xs : List T) | tup (xs : List T) | scr (xs : List T) | rng (lo hi : Int) | obj (C : Addr) (fs : List (Str × T)) | dk (kvs : List (Key × T))
mutual
inductive Rp (K : PySem.W.Frag) (G : Hp) : V → T → Prop
  | non : Rp K G .non .non
  | bl (b : Bool) : Rp K G (.bl b) (.bl b)
  | int (i : Int) : Rp K G (.int i) (.int i)
  | str (s : Str) (h : PyData.strOk s = true) : Rp K G (.str s) (.str s)
  | ty (n : String) : Rp K G (.ty n) (.ty n)
  | cls (a : Addr) : Rp K G (.ref a) (.cls a)
  | lst {a : Addr} {xs : List V} {ts : List T} : G a = some (.lst xs) → RpAll K G xs ts → Rp K G (.ref a) (.lst ts)
  | scr {a : Addr} {xs : List V} {ts : List T} : SqL K G a xs → RpAll K G xs ts → Rp K G (.ref a) (.scr ts)
  | rng {a : Addr} {lo hi : Int} : G a = some (.rng lo hi) → Rp K G (.ref a) (.rng lo hi)
  | tup {a : Addr} {xs : List V} {ts : List T} : SqT K G a xs → RpAll K G xs ts → Rp K G (.ref a) (.tup ts)
  | obj {a C dx : Addr} {fs : List (Str × V)} {gs : List (Str × T)} : G a = some (.ins C dx fs) → fs.map Prod.fst = gs.map Prod.fst → RpAll K G (fs.map Prod.snd) (gs.map Prod.snd) → Rp K G (.ref a) (.obj C gs)
  | dk {a : Addr} {kvs : List (Key × V)} {ks : List (Key × T)} : G a = some (.dK kvs) → kvs.map Prod.fst = ks.map Prod.fst → RpAll K G (kvs.map Prod.snd) (ks.map Prod.snd) → Rp K G (.ref a) (.dk ks)
inductive RpAll (K : PySem.W.Frag) (G : Hp) : List V → List T → Prop
  | nil : RpAll K G [] []
  | cons {v : V} {vs : List V} {t : T} {ts : List T} : Rp K G v t → RpAll K G vs ts → RpAll K G (v :: vs) (t :: ts)
end
/-- fields, pairs of a dict -/
def RpF {κ : Type} (K : PySem.W.Frag) (G : Hp) (fs : List (κ × V)) (gs : List (κ × T)) : Prop := fs.map Prod.fst = gs.map Prod.fst ∧ RpAll K G (fs.map Prod.snd) (gs.map Prod.snd)
section
variable {K : PySem.W.Frag} {G H G' H' : Hp} {v : V} {t : T} {vs xs ys : List V} {ts us : List T}
mutual
theorem Rp.mono (m : Same G G') : ∀ {v : V} {t : T}, Rp K G v t → Rp K G' v t
  | _, _, .non => .non
  | _, _, .bl b => .bl b
  | _, _, .int i => .int i
  | _, _, .str i h => .str i h
  | _, _, .ty i => .ty i
  | _, _, .cls i => .cls i
  | _, _, .lst s a => .lst (m _ _ s) (RpAll.mono m a)
  | _, _, .scr s a => .scr (SqL.same s m) (RpAll.mono m a)
  | _, _, .rng s => .rng (m _ _ s)
  | _, _, .tup s a => .tup (SqT.same s m) (RpAll.mono m a)
  | _, _, .obj s e a => .obj (m _ _ s) e (RpAll.mono m a)
  | _, _, .dk s e a => .dk (m _ _ s) e (RpAll.mono m a)
theorem RpAll.mono (m : Same G G') : ∀ {vs : List V} {ts : List T}, RpAll K G vs ts → RpAll K G' vs ts
  | _, _, .nil => .nil
  | _, _, .cons a b => .cons (Rp.mono m a) (RpAll.mono m b)
end
theorem RpF.mono {κ : Type} (m : Same G G') {fs : List (κ × V)} {gs : List (κ × T)} (h : RpF K G fs gs) : RpF K G' fs gs := ⟨h.1, h.2.mono m⟩
theorem RpAll.length : ∀ {vs : List V} {ts : List T}, RpAll K G vs ts → vs.length = ts.length
  | _, _, .nil => rfl
  | _, _, .cons _ b => congrArg (· + 1) (RpAll.length b)
theorem RpAll.get : ∀ {vs : List V} {ts : List T} {i : Nat} {v : V}, RpAll K G vs ts → vs[i]? = some v → ∃ t, ts[i]? = some t ∧ Rp K G v t
  | _, _, _, _, .nil, e => by cases e
  | _, _, 0, _, .cons a _, e => by cases e; exact ⟨_, rfl, a⟩
  | _, _, i + 1, _, .cons _ b, e => RpAll.get (i := i) b e
theorem RpAll.get' : ∀ {vs : List V} {ts : List T} {i : Nat} {t : T}, RpAll K G vs ts → ts[i]? = some t → ∃ v, vs[i]? = some v ∧ Rp K G v t
  | _, _, _, _, .nil, e => by cases e
  | _, _, 0, _, .cons a _, e => by cases e; exact ⟨_, rfl, a⟩
  | _, _, i + 1, _, .cons _ b, e => RpAll.get' (i := i) b e
theorem RpAll.append (q : RpAll K G ys us) : ∀ {vs : List V} {ts : List T}, RpAll K G vs ts → RpAll K G (vs ++ ys) (ts ++ us)
  | _, _, .nil => q
  | _, _, .cons a b => .cons a (RpAll.append q b)
theorem RpAll.snoc (p : RpAll K G vs ts) (q : Rp K G v t) : RpAll K G (vs ++ [v]) (ts ++ [t]) := RpAll.append (.cons q .nil) p
theorem RpAll.take : ∀ (n : Nat) {vs : List V} {ts : List T}, RpAll K G vs ts → RpAll K G (vs.take n) (ts.take n)
  | 0, _, _, _ => .nil
  | n + 1, _, _, .nil => .nil
  | n + 1, _, _, .cons a b => .cons a (RpAll.take n b)
theorem RpAll.drop : ∀ (n : Nat) {vs : List V} {ts : List T}, RpAll K G vs ts → RpAll K G (vs.drop n) (ts.drop n)
  | 0, _, _, h => h
  | n + 1, _, _, .nil => .nil
  | n + 1, _, _, .cons a b => RpAll.drop n b
theorem RpAll.set (q : Rp K G v t) : ∀ (n : Nat) {vs : List V} {ts : List T}, RpAll K G vs ts → RpAll K G (vs.set n v) (ts.set n t)
  | _, _, _, .nil => .nil
  | 0, _, _, .cons a b => .cons q b
  | n + 1, _, _, .cons a b => .cons a (RpAll.set q n b)
theorem RpAll.eraseIdx : ∀ (n : Nat) {vs : List V} {ts : List T}, RpAll K G vs ts → RpAll K G (vs.eraseIdx n) (ts.eraseIdx n)
  | _, _, _, .nil => .nil
  | 0, _, _, .cons a b => b
  | n + 1, _, _, .cons a b => .cons a (RpAll.eraseIdx n b)
theorem RpAll.reverse : ∀ {vs : List V} {ts : List T}, RpAll K G vs ts → RpAll K G vs.reverse ts.reverse
  | _, _, .nil => .nil
  | _, _, .cons a b => by rw [List.reverse_cons, List.reverse_cons]; exact RpAll.snoc (RpAll.reverse b) a
theorem RpAll.dropLast : ∀ {vs : List V} {ts : List T}, RpAll K G vs ts → RpAll K G vs.dropLast ts.dropLast
  | _, _, .nil => .nil
  | _, _, .cons a .nil => .nil
  | _, _, .cons a (.cons b c) => .cons a (RpAll.dropLast (.cons b c))
theorem RpAll.rep (h : RpAll K G vs ts) : ∀ n : Nat, RpAll K G (List.replicate n vs).flatten (List.replicate n ts).flatten
  | 0 => .nil
  | n + 1 => by rw [List.replicate_succ, List.replicate_succ, List.flatten_cons, List.flatten_cons]; exact RpAll.append (RpAll.rep h n) h
end
/-- what holds now: settled, an open object by its number, the handled error -/
inductive Rf where
  | val (t : T) | ref (k : Nat) | err (D : Addr) (gs : List (Str × T))
/-- an open object: its content; a settled one -/
inductive MO where
  | mu (t : T) | fz (t : T)
structure Env where
  nio : Nat
  sl : List (Option Rf)
  mem : List MO
/-- what stands around: the heap at the entry and what is settled of it, the open objects of the caller, the handled error -/
structure Bs where
  G0 : Hp
  H0 : Hp
  io : List Addr
  ex : Addr × Value × Option Addr
def MutR (K : PySem.W.Frag) (G H : Hp) (a : Addr) : T → Prop
  | .lst ts => ∃ acc, H a = some (.lst acc) ∧ RpAll K G acc ts
  | .obj C gs => ∃ dx fs, H a = some (.ins C dx fs) ∧ RpF K G fs gs
  | .dk ks => ∃ kvs, H a = some (.dK kvs) ∧ RpF K G kvs ks
  | _ => False
def MemR (K : PySem.W.Frag) (G H : Hp) (a : Addr) : MO → Prop
  | .mu t => G a = none ∧ MutR K G H a t
  | .fz t => G a ≠ none ∧ Rp K G (.ref a) t
def ErrF (K : PySem.W.Frag) (G : Hp) (d : Option Addr) (gs : List (Str × T)) : Prop := (d = none ∧ gs = []) ∨ ∃ dd fs, d = some dd ∧ G dd = some (.xd fs) ∧ RpF K G fs gs
def RR (K : PySem.W.Frag) (ex : Addr × Value × Option Addr) (as : List Addr) (G : Hp) : Rf → V → Prop
  | .val t, v => Rp K G v t
  | .ref k, v => ∃ a, as[k]? = some a ∧ v = .ref a
  | .err D gs, v => v = .ref ex.1 ∧ ex.2.1 = .ref D ∧ ErrF K G ex.2.2 gs
structure StR (K : PySem.W.Frag) (B : Bs) (as : List Addr) (γ : Env) (σ : L2.St) (G H : Hp) : Prop where
  vw : Same G H
  gg : Same B.G0 G
  out : ∀ a, B.H0 a ≠ none → B.G0 a = none → G a = none
  hh : ∀ a o, B.H0 a = some o → a ∉ B.io → H a = some o
  nio : γ.nio = B.io.length
  pre : B.io <+: as
  mlen : as.length = γ.mem.length
  nd : as.Nodup
  fresh : ∀ (k : Nat) (a : Addr), as[k]? = some a → B.io.length ≤ k → B.H0 a = none
  mem : ∀ (k : Nat) (a : Addr) (m : MO), as[k]? = some a → γ.mem[k]? = some m → MemR K G H a m
  slen : σ.length = γ.sl.length
  sl : ∀ (i : Nat) (r : Rf), γ.sl[i]? = some (some r) → ∃ v, σ[i]? = some (some v) ∧ RR K B.ex as G r v
section
variable {K : PySem.W.Frag} {G H G' H' : Hp} {a : Addr} {t : T} {m : MO} {ex : Addr × Value × Option Addr} {as as' : List Addr} {r : Rf} {v : V}
theorem MutR.some (h : MutR K G H a t) : H a ≠ none := by
  cases t with
  | lst ts => obtain ⟨_, e, _⟩ := h; rw [e]; exact fun z => by cases z
  | obj C gs => obtain ⟨_, _, e, _⟩ := h; rw [e]; exact fun z => by cases z
  | dk ks => obtain ⟨_, e, _⟩ := h; rw [e]; exact fun z => by cases z
  | _ => exact h.elim
theorem MutR.mono (h : MutR K G H a t) (g : Same G G') (e : H' a = H a) : MutR K G' H' a t := by
  cases t with
  | lst ts => obtain ⟨acc, q, z⟩ := h; exact ⟨acc, e.trans q, z.mono g⟩
  | obj C gs => obtain ⟨dx, fs, q, z⟩ := h; exact ⟨dx, fs, e.trans q, z.mono g⟩
  | dk ks => obtain ⟨kvs, q, z⟩ := h; exact ⟨kvs, e.trans q, z.mono g⟩
  | _ => exact h.elim
theorem MutR.rp (h : MutR K G H a t) {o : HO} (e : H a = Option.some o) (g : Same G (upd G a o)) : Rp K (upd G a o) (.ref a) t := by
  cases t with
  | lst ts => obtain ⟨acc, q, z⟩ := h; rw [e] at q; cases q; exact .lst upd_same (z.mono g)
  | obj C gs => obtain ⟨dx, fs, q, z⟩ := h; rw [e] at q; cases q; exact .obj upd_same z.1 (z.2.mono g)
  | dk ks => obtain ⟨kvs, q, z⟩ := h; rw [e] at q; cases q; exact .dk upd_same z.1 (z.2.mono g)
  | _ => exact h.elim
theorem MemR.some (h : MemR K G H a m) (vw : Same G H) : H a ≠ none := by
  cases m with
  | mu t => exact h.2.some
  | fz t =>
    intro z
    obtain ⟨q, _⟩ := h
    exact q (Same.free vw z)
theorem MemR.mono (h : MemR K G H a m) (g : Same G G') (e : H' a = H a) (hn : G a = none → G' a = none) : MemR K G' H' a m := by
  cases m with
  | mu t => exact ⟨hn h.1, h.2.mono g e⟩
  | fz t => exact ⟨Same.some g h.1, h.2.mono g⟩
theorem RR.mono (h : RR K ex as G r v) (p : as <+: as') (g : Same G G') : RR K ex as' G' r v := by
  cases r with
  | val t => exact Rp.mono g h
  | ref k =>
    obtain ⟨a, e, z⟩ := h
    obtain ⟨q, rfl⟩ := p
    have hk : k < as.length := by
      rcases Nat.lt_or_ge k as.length with z | z
      · exact z
      · rw [List.getElem?_eq_none z] at e; cases e
    exact ⟨a, by rw [List.getElem?_append_left hk]; exact e, z⟩
  | err D gs =>
    obtain ⟨e1, e2, e3⟩ := h
    refine ⟨e1, e2, ?_⟩
    rcases e3 with e3 | ⟨dd, fs, x1, x2, x3⟩
    · exact .inl e3
    · exact .inr ⟨dd, fs, x1, g _ _ x2, x3.mono g⟩
theorem nodup_at {xs : List Addr} (h : xs.Nodup) {i j : Nat} {a : Addr} (h1 : xs[i]? = some a) (h2 : xs[j]? = some a) : i = j := by
  obtain ⟨l1, e1⟩ := List.getElem?_eq_some_iff.mp h1
  obtain ⟨l2, e2⟩ := List.getElem?_eq_some_iff.mp h2
  exact (List.getElem_inj h).mp (e1.trans e2.symm)
theorem pre_get {xs ys : List Addr} (p : xs <+: ys) {i : Nat} {a : Addr} (h : xs[i]? = some a) : ys[i]? = some a := by
  obtain ⟨q, rfl⟩ := p
  have hk : i < xs.length := by
    rcases Nat.lt_or_ge i xs.length with z | z
    · exact z
    · rw [List.getElem?_eq_none z] at h; cases h
  rw [List.getElem?_append_left hk]; exact h
end
section
variable {K : PySem.W.Frag} {B : Bs} {as : List Addr} {γ : Env} {σ : L2.St} {G H G' H' : Hp} {p a : Addr} {o : HO} {t : T} {m : MO} {k i : Nat} {r : Rf} {v : V}
theorem StR.at (S : StR K B as γ σ G H) (e : γ.mem[k]? = some m) : ∃ a, as[k]? = some a ∧ MemR K G H a m := by
  have hk : k < γ.mem.length := by
    rcases Nat.lt_or_ge k γ.mem.length with z | z
    · exact z
    · rw [List.getElem?_eq_none z] at e; cases e
  have hk' : k < as.length := by rw [S.mlen]; exact hk
  exact ⟨as[k], List.getElem?_eq_getElem hk', S.mem k _ m (List.getElem?_eq_getElem hk') e⟩
theorem StR.known (S : StR K B as γ σ G H) (e : as[k]? = some a) : H a ≠ none := by
  have hk' : k < as.length := by
    rcases Nat.lt_or_ge k as.length with z | z
    · exact z
    · rw [List.getElem?_eq_none z] at e; cases e
  have hk : k < γ.mem.length := by rw [← S.mlen]; exact hk'
  exact (S.mem k a _ e (List.getElem?_eq_getElem hk)).some S.vw
theorem StR.io_known (S : StR K B as γ σ G H) (h : a ∈ B.io) : H a ≠ none := by
  obtain ⟨k, hk, e⟩ := List.getElem_of_mem h
  exact S.known (pre_get S.pre (i := k) (by rw [List.getElem?_eq_getElem hk, e]))
/-- a new place: not of the entry -/
theorem StR.new0 (S : StR K B as γ σ G H) (h : H p = none) : B.H0 p = none := by
  cases e : B.H0 p with
  | none => rfl
  | some o =>
    by_cases hp : p ∈ B.io
    · exact absurd h (S.io_known hp)
    · rw [S.hh p o e hp] at h; cases h
theorem StR.newA (S : StR K B as γ σ G H) (h : H p = none) : p ∉ as := fun hm => by
  obtain ⟨k, hk, e⟩ := List.getElem_of_mem hm
  exact S.known (k := k) (by rw [List.getElem?_eq_getElem hk, e]) h
theorem StR.newG (S : StR K B as γ σ G H) (h : H p = none) : G p = none := Same.free S.vw h
theorem StR.neA (S : StR K B as γ σ G H) (h : H p = none) (e : as[k]? = some a) : a ≠ p := fun z => S.known e (z ▸ h)
/-- the heap grows by what is not looked at -/
theorem StR.grow (S : StR K B as γ σ G H) (x : Same H H') : StR K B as γ σ G H' :=
  ⟨S.vw.trans x, S.gg, S.out, fun a o e n => x _ _ (S.hh a o e n), S.nio, S.pre, S.mlen, S.nd, S.fresh, fun k a m e1 e2 => by
    have hm := S.mem k a m e1 e2
    obtain ⟨o, ho⟩ := Option.ne_none_iff_exists'.mp (hm.some S.vw)
    exact hm.mono (Same.refl _) (by rw [ho, x _ _ ho]) (fun z => z), S.slen, S.sl⟩
/-- an open object is laid -/
theorem StR.alloc (S : StR K B as γ σ G H) (h : H p = none) (q : MutR K G (L2.upd H p o) p t) : StR K B (as ++ [p]) { γ with mem := γ.mem ++ [.mu t] } σ G (L2.upd H p o) := by
  have x : Same H (L2.upd H p o) := Same.add h
  have S1 := S.grow x
  have na := S.newA h
  refine ⟨S1.vw, S.gg, S.out, S1.hh, S.nio, S.pre.trans (List.prefix_append _ _), by simp [S.mlen], ?_, ?_, ?_, S.slen, fun i r e => ?_⟩
  · rw [List.nodup_append]
    exact ⟨S.nd, by simp, fun a ha b hb => by rw [List.mem_singleton.mp hb]; exact fun z => na (z ▸ ha)⟩
  · intro k a e hk
    rcases Nat.lt_trichotomy k as.length with hlt | rfl | hgt
    · rw [List.getElem?_append_left hlt] at e; exact S.fresh k a e hk
    · rw [List.getElem?_append_right (Nat.le_refl _), Nat.sub_self] at e
      obtain rfl : p = a := by simpa using e
      exact S.new0 h
    · rw [List.getElem?_eq_none (by simp; omega)] at e; cases e
  · intro k a m e1 e2
    rcases Nat.lt_trichotomy k as.length with hlt | rfl | hgt
    · rw [List.getElem?_append_left hlt] at e1
      have e2 : (γ.mem ++ [MO.mu t])[k]? = some m := e2
      rw [List.getElem?_append_left (by rw [← S.mlen]; exact hlt)] at e2
      exact S1.mem k a m e1 e2
    · rw [List.getElem?_append_right (Nat.le_refl _), Nat.sub_self] at e1
      obtain rfl : p = a := by simpa using e1
      have e2 : (γ.mem ++ [MO.mu t])[as.length]? = some m := e2
      rw [S.mlen, List.getElem?_append_right (Nat.le_refl _), Nat.sub_self] at e2
      obtain rfl : MO.mu t = m := by simpa using e2
      exact ⟨S.newG h, q⟩
    · rw [List.getElem?_eq_none (by simp; omega)] at e1; cases e1
  · obtain ⟨v, e1, e2⟩ := S.sl i r e
    exact ⟨v, e1, e2.mono (List.prefix_append _ _) (Same.refl _)⟩
/-- what is settled grows -/
theorem StR.view (S : StR K B as γ σ G H) (g : Same G G') (vw : Same G' H) (hn : ∀ a, G a = none → G' a ≠ none → B.H0 a = none ∧ a ∉ as) : StR K B as γ σ G' H := by
  refine ⟨vw, S.gg.trans g, fun a h1 h2 => ?_, S.hh, S.nio, S.pre, S.mlen, S.nd, S.fresh, fun k a m e1 e2 => ?_, S.slen, fun i r e => ?_⟩
  · cases e : G' a with
    | none => rfl
    | some o => exact absurd (hn a (S.out a h1 h2) (by rw [e]; exact fun z => by cases z)).1 h1
  · refine (S.mem k a m e1 e2).mono g rfl fun z => ?_
    cases e : G' a with
    | none => rfl
    | some o => exact absurd (List.mem_of_getElem? e1) (hn a z (by rw [e]; exact fun z => by cases z)).2
  · obtain ⟨v, e1, e2⟩ := S.sl i r e
    exact ⟨v, e1, e2.mono (List.prefix_refl _) g⟩
/-- a settled object is laid -/
theorem StR.lay (S : StR K B as γ σ G H) (h : H p = none) : StR K B as γ σ (L2.upd G p o) (L2.upd H p o) ∧ Same G (L2.upd G p o) := by
  have g : Same G (L2.upd G p o) := Same.add (S.newG h)
  refine ⟨(S.grow (Same.add h)).view g (Same.upd2 S.vw) fun a z1 z2 => ?_, g⟩
  by_cases e : a = p
  · subst e; exact ⟨S.new0 h, S.newA h⟩
  · rw [upd_ne e] at z2; exact absurd z1 z2
/-- an open object is settled -/
theorem StR.freeze (S : StR K B as γ σ G H) (e : γ.mem[k]? = some (.mu t)) (hk : γ.nio ≤ k) : ∃ a G', as[k]? = some a ∧ StR K B as { γ with mem := γ.mem.set k (.fz t) } σ G' H ∧ Same G G' ∧ Rp K G' (.ref a) t := by
  obtain ⟨a, ea, hn, q⟩ := S.at e
  obtain ⟨o, ho⟩ := Option.ne_none_iff_exists'.mp q.some
  have g : Same G (L2.upd G a o) := Same.add hn
  have f0 : B.H0 a = none := S.fresh k a ea (by rw [← S.nio]; exact hk)
  have rp : Rp K (L2.upd G a o) (.ref a) t := q.rp ho g
  refine ⟨a, L2.upd G a o, ea, ⟨fun b u z => ?_, S.gg.trans g, fun b h1 h2 => ?_, S.hh, S.nio, S.pre, by simp [S.mlen], S.nd, S.fresh, fun j b m e1 e2 => ?_, S.slen, fun i r z => ?_⟩, g, rp⟩
  · by_cases z2 : b = a
    · subst z2; rw [upd_same] at z; cases z; exact ho
    · rw [upd_ne z2] at z; exact S.vw _ _ z
  · have : b ≠ a := fun z => h1 (z ▸ f0)
    rw [upd_ne this]; exact S.out b h1 h2
  · by_cases hj : j = k
    · subst hj
      rw [ea] at e1; cases e1
      have hl : j < γ.mem.length := by rw [← S.mlen]; exact (List.getElem?_eq_some_iff.mp ea).1
      have e2 : (γ.mem.set j (.fz t))[j]? = some m := e2
      rw [List.getElem?_set_self hl] at e2
      cases e2
      exact ⟨by rw [upd_same]; simp, rp⟩
    · have e2 : (γ.mem.set k (.fz t))[j]? = some m := e2
      rw [List.getElem?_set_ne (Ne.symm hj)] at e2
      refine (S.mem j b m e1 e2).mono g rfl fun z => ?_
      have : b ≠ a := fun z2 => hj (nodup_at S.nd e1 (z2 ▸ ea))
      rw [upd_ne this]; exact z
  · obtain ⟨v, e1, e2⟩ := S.sl i r z
    exact ⟨v, e1, e2.mono (List.prefix_refl _) g⟩
/-- an open object is changed -/
theorem StR.write (S : StR K B as γ σ G H) {m0 : T} (e : γ.mem[k]? = some (.mu m0)) (ea : as[k]? = some a) (q : MutR K G (L2.upd H a o) a t) : StR K B as { γ with mem := γ.mem.set k (.mu t) } σ G (L2.upd H a o) := by
  have hn : G a = none := (S.mem k a _ ea e).1
  refine ⟨fun b u z => ?_, S.gg, S.out, fun b u h1 h2 => ?_, S.nio, S.pre, by simp [S.mlen], S.nd, S.fresh, fun j b m e1 e2 => ?_, S.slen, S.sl⟩
  · rw [upd_ne (ne_of_none z hn)]; exact S.vw _ _ z
  · have : b ≠ a := by
      rintro rfl
      by_cases hk : k < B.io.length
      · refine h2 ?_
        obtain ⟨r, hr⟩ := S.pre
        rw [← hr, List.getElem?_append_left hk] at ea
        exact List.mem_of_getElem? ea
      · rw [S.fresh k b ea (by omega)] at h1; cases h1
    rw [upd_ne this]; exact S.hh b u h1 h2
  · by_cases hj : j = k
    · subst hj
      rw [ea] at e1; cases e1
      have hl : j < γ.mem.length := by rw [← S.mlen]; exact (List.getElem?_eq_some_iff.mp ea).1
      have e2 : (γ.mem.set j (.mu t))[j]? = some m := e2
      rw [List.getElem?_set_self hl] at e2
      cases e2
      exact ⟨hn, q⟩
    · have e2 : (γ.mem.set k (.mu t))[j]? = some m := e2
      rw [List.getElem?_set_ne (Ne.symm hj)] at e2
      have : b ≠ a := fun z2 => hj (nodup_at S.nd e1 (z2 ▸ ea))
      exact (S.mem j b m e1 e2).mono (Same.refl _) (upd_ne this) fun z => z
/-- a slot is stored -/
theorem StR.store (S : StR K B as γ σ G H) (q : RR K B.ex as G r v) (i : Nat) : StR K B as { γ with sl := γ.sl.set i (some r) } (σ.set i (some v)) G H := by
  refine ⟨S.vw, S.gg, S.out, S.hh, S.nio, S.pre, S.mlen, S.nd, S.fresh, S.mem, by simp [S.slen], fun j r' e => ?_⟩
  have e : (γ.sl.set i (some r))[j]? = some (some r') := e
  by_cases hj : j = i
  · subst hj
    have hl : j < γ.sl.length := by
      rcases Nat.lt_or_ge j γ.sl.length with z | z
      · exact z
      · rw [List.getElem?_eq_none (by simpa using z)] at e; cases e
    rw [List.getElem?_set_self hl] at e
    cases e
    exact ⟨v, List.getElem?_set_self (by rw [S.slen]; exact hl), q⟩
  · rw [List.getElem?_set_ne (Ne.symm hj)] at e ⊢
    exact S.sl j r' e
/-- a slot is forgotten; the slots may then hold anything -/
theorem StR.unset (S : StR K B as γ σ G H) (i : Nat) : StR K B as { γ with sl := γ.sl.set i none } σ G H := by
  refine ⟨S.vw, S.gg, S.out, S.hh, S.nio, S.pre, S.mlen, S.nd, S.fresh, S.mem, by simp [S.slen], fun j r' e => ?_⟩
  have e : (γ.sl.set i none)[j]? = some (some r') := e
  by_cases hj : j = i
  · subst hj
    rcases Nat.lt_or_ge j γ.sl.length with z | z
    · rw [List.getElem?_set_self z] at e; cases e
    · rw [List.getElem?_eq_none (by simpa using z)] at e; cases e
  · rw [List.getElem?_set_ne (Ne.symm hj)] at e
    exact S.sl j r' e
theorem StR.slots (S : StR K B as γ σ G H) {σ' : L2.St} (hl : σ'.length = σ.length) (h : ∀ (i : Nat) (r : Rf), γ.sl[i]? = some (some r) → σ'[i]? = σ[i]?) : StR K B as γ σ' G H :=
  ⟨S.vw, S.gg, S.out, S.hh, S.nio, S.pre, S.mlen, S.nd, S.fresh, S.mem, hl.trans S.slen, fun i r e => by rw [h i r e]; exact S.sl i r e⟩
end
/-! ### forgetting -/
/-- γ is told more weakly: slots forgotten, open objects settled, the last open objects dropped (not below n0) -/
inductive Le (n0 : Nat) : Env → Env → Prop
  | refl (γ : Env) : Le n0 γ γ
  | unset {γ γ' : Env} (i : Nat) : Le n0 { γ with sl := γ.sl.set i none } γ' → Le n0 γ γ'
  | freeze {γ γ' : Env} {t : T} (k : Nat) : γ.mem[k]? = some (.mu t) → γ.nio ≤ k → Le n0 { γ with mem := γ.mem.set k (.fz t) } γ' → Le n0 γ γ'
  | toVal {γ γ' : Env} {t : T} {k : Nat} (i : Nat) : γ.sl[i]? = some (some (.ref k)) → γ.mem[k]? = some (.fz t) → Le n0 { γ with sl := γ.sl.set i (some (.val t)) } γ' → Le n0 γ γ'
  | cut {γ γ' : Env} (n : Nat) : n0 ≤ n → γ.nio ≤ n → (∀ (i k : Nat), γ.sl[i]? = some (some (.ref k)) → k < n) → Le n0 { γ with mem := γ.mem.take n } γ' → Le n0 γ γ'
theorem StR.le {K : PySem.W.Frag} {B : Bs} {n0 : Nat} {γ γ' : Env} (h : Le n0 γ γ') : ∀ {as as0 : List Addr} {σ : L2.St} {G H : Hp}, StR K B as γ σ G H → as0 <+: as → as0.length = n0 →
    ∃ as' G', as0 <+: as' ∧ Same G G' ∧ StR K B as' γ' σ G' H := by
  induction h with
  | refl γ => intro as as0 σ G H S p _; exact ⟨as, G, p, Same.refl _, S⟩
  | unset i _ ih => intro as as0 σ G H S p l; exact ih (S.unset i) p l
  | freeze k e hk _ ih =>
    intro as as0 σ G H S p l
    obtain ⟨a, G', _, S', g, _⟩ := S.freeze e hk
    obtain ⟨as2, G2, x1, x2, x3⟩ := ih S' p l
    exact ⟨as2, G2, x1, g.trans x2, x3⟩
  | toVal i e1 e2 _ ih =>
    intro as as0 σ G H S p l
    obtain ⟨v, hv, a, ea, rfl⟩ := S.sl i _ e1
    obtain ⟨_, rp⟩ := S.mem _ a _ ea e2
    have S' := S.store (r := .val _) (v := .ref a) rp i
    have e : σ.set i (some (V.ref a)) = σ := by
      apply List.ext_getElem?
      intro j
      by_cases hj : j = i
      · subst hj
        rw [List.getElem?_set_self (List.getElem?_eq_some_iff.mp hv).1, hv]
      · rw [List.getElem?_set_ne (Ne.symm hj)]
    rw [e] at S'
    exact ih S' p l
  | cut n h1 h2 h3 _ ih =>
    intro as as0 σ G H S p l
    refine ih (as := as.take n) ⟨S.vw, S.gg, S.out, S.hh, S.nio, ?_, by simp [S.mlen], S.nd.sublist (List.take_sublist _ _), ?_, ?_, S.slen, ?_⟩ ?_ l
    · have := S.pre
      rw [List.prefix_take_iff]
      exact ⟨this, by rw [← S.nio]; exact h2⟩
    · intro k a e hk
      rw [List.getElem?_take] at e
      split at e
      · exact S.fresh k a e hk
      · cases e
    · intro k a m e1 e2
      rw [List.getElem?_take] at e1
      have e2 : (List.take n _)[k]? = some m := e2
      rw [List.getElem?_take] at e2
      split at e1
      · rename_i hlt
        rw [if_pos hlt] at e2
        exact S.mem k a m e1 e2
      · cases e1
    · intro i r e
      obtain ⟨v, e1, e2⟩ := S.sl i r e
      refine ⟨v, e1, ?_⟩
      cases r with
      | val t => exact e2
      | ref k =>
        obtain ⟨a, x1, x2⟩ := e2
        exact ⟨a, by rw [List.getElem?_take, if_pos (h3 i k e)]; exact x1, x2⟩
      | err D gs => exact e2
    · rw [List.prefix_take_iff]
      exact ⟨p, by omega⟩
end VL
set_option Elab.async false
set_option linter.all false
set_option maxRecDepth 100000
set_option maxHeartbeats 4000000
/-! readings over values: expressions -/
namespace VL
open PySem PySem.Spec PyProof.Rows L2 XR
abbrev VErr := Addr × List (Str × T)
abbrev XQ := VErr → Env → Prop
abbrev RQ := Rf → Env → Prop
abbrev VW := Env → RQ → XQ → Prop
/-- what goes on behind: from the value's side to the heap's -/
def KontP {α β : Type} (K : PySem.W.Frag) (B : Bs) (as : List Addr) (σ : L2.St) (G : Hp) (R : List Addr → Hp → Hp → α → β → Prop) (Q : β → Hp → Prop) (Qv : α → Env → Prop) : Prop :=
  ∀ (a : α) (γ' : Env) (as' : List Addr) (b : β) (G' H' : Hp), as <+: as' → Same G G' → StR K B as' γ' σ G' H' → R as' G' H' a b → Qv a γ' → Q b H'
def KontX (K : PySem.W.Frag) (B : Bs) (as : List Addr) (σ : L2.St) (G : Hp) (E : XK) (Xv : XQ) : Prop :=
  ∀ (e : VErr) (γ' : Env) (as' : List Addr) (d : Option Addr) (G' H' : Hp), as <+: as' → Same G G' → StR K B as' γ' σ G' H' → ErrF K G' d e.2 → Xv e γ' → E (.ref e.1) d H'
def rR (K : PySem.W.Frag) (B : Bs) : List Addr → Hp → Hp → Rf → V → Prop := fun as G _ r v => RR K B.ex as G r v
def rB : List Addr → Hp → Hp → Bool → Bool → Prop := fun _ _ _ a b => a = b
def RRs (K : PySem.W.Frag) (ex : Addr × Value × Option Addr) (as : List Addr) (G : Hp) : List Rf → List V → Prop := Paired (RR K ex as G)
def rA (K : PySem.W.Frag) (B : Bs) : List Addr → Hp → Hp → List Rf → List V → Prop := fun as G _ rs vs => RRs K B.ex as G rs vs
theorem KontP.mono {α β : Type} {K : PySem.W.Frag} {B : Bs} {as as1 : List Addr} {σ : L2.St} {G G1 : Hp} {R : List Addr → Hp → Hp → α → β → Prop} {Q : β → Hp → Prop} {Qv : α → Env → Prop} (k : KontP K B as σ G R Q Qv) (p : as <+: as1) (g : Same G G1) : KontP K B as1 σ G1 R Q Qv :=
  fun a γ' as' b G' H' p' g' S r q => k a γ' as' b G' H' (p.trans p') (g.trans g') S r q
theorem KontX.mono {K : PySem.W.Frag} {B : Bs} {as as1 : List Addr} {σ : L2.St} {G G1 : Hp} {E : XK} {Xv : XQ} (k : KontX K B as σ G E Xv) (p : as <+: as1) (g : Same G G1) : KontX K B as1 σ G1 E Xv :=
  fun e γ' as' d G' H' p' g' S r q => k e γ' as' d G' H' (p.trans p') (g.trans g') S r q
theorem RRs.mono {K : PySem.W.Frag} {ex : Addr × Value × Option Addr} {as as' : List Addr} {G G' : Hp} (p : as <+: as') (g : Same G G') : ∀ {rs : List Rf} {vs : List V}, RRs K ex as G rs vs → RRs K ex as' G' rs vs
  | _, _, .nil => .nil
  | _, _, .cons a b => .cons (a.mono p g) (RRs.mono p g b)
theorem kval {K : PySem.W.Frag} {B : Bs} {as : List Addr} {γ : Env} {σ : L2.St} {G H : Hp} {Q : VK} {Qv : RQ} {v : V} {t : T} (k : KontP K B as σ G (rR K B) Q Qv) (S : StR K B as γ σ G H) (rp : Rp K G v t) (h : Qv (.val t) γ) : Q v H :=
  k (.val t) γ as v G H (List.prefix_refl _) (Same.refl _) S rp h
class VE (K : PySem.W.Frag) (B : Bs) (E : L2.St → XK) (t : TE) (w : outParam VW) : Prop where
  run : ∀ {as : List Addr} {γ : Env} {σ : L2.St} {G H : Hp} {Q : VK} {Qv : RQ} {Xv : XQ}, StR K B as γ σ G H → w γ Qv Xv → KontP K B as σ G (rR K B) Q Qv → KontX K B as σ G (E σ) Xv → t σ H Q
class VT (K : PySem.W.Frag) (B : Bs) (E : L2.St → XK) (t : TT) (w : outParam (Env → (Bool → Env → Prop) → XQ → Prop)) : Prop where
  run : ∀ {as : List Addr} {γ : Env} {σ : L2.St} {G H : Hp} {Q : Bool → Hp → Prop} {Qv : Bool → Env → Prop} {Xv : XQ}, StR K B as γ σ G H → w γ Qv Xv → KontP K B as σ G rB Q Qv → KontX K B as σ G (E σ) Xv → t σ H Q
class VA (K : PySem.W.Frag) (B : Bs) (E : L2.St → XK) (t : TA) (w : outParam (Env → (List Rf → Env → Prop) → XQ → Prop)) : Prop where
  run : ∀ {as : List Addr} {γ : Env} {σ : L2.St} {G H : Hp} {Q : List V → Hp → Prop} {Qv : List Rf → Env → Prop} {Xv : XQ}, StR K B as γ σ G H → w γ Qv Xv → KontP K B as σ G (rA K B) Q Qv → KontX K B as σ G (E σ) Xv → t σ H Q
/-- by values: one, two, several -/
class V1 (K : PySem.W.Frag) (B : Bs) (E : L2.St → XK) (r : V → Hp → VK → Prop) (w : outParam (Rf → VW)) : Prop where
  run : ∀ {as : List Addr} {γ : Env} {σ : L2.St} {G H : Hp} {x : V} {rx : Rf} {Q : VK} {Qv : RQ} {Xv : XQ}, StR K B as γ σ G H → RR K B.ex as G rx x → w rx γ Qv Xv → KontP K B as σ G (rR K B) Q Qv → KontX K B as σ G (E σ) Xv → r x H Q
class V2 (K : PySem.W.Frag) (B : Bs) (E : L2.St → XK) (r : R2) (w : outParam (Rf → Rf → VW)) : Prop where
  run : ∀ {as : List Addr} {γ : Env} {σ : L2.St} {G H : Hp} {x y : V} {rx ry : Rf} {Q : VK} {Qv : RQ} {Xv : XQ}, StR K B as γ σ G H → RR K B.ex as G rx x → RR K B.ex as G ry y → w rx ry γ Qv Xv → KontP K B as σ G (rR K B) Q Qv → KontX K B as σ G (E σ) Xv → r x y H Q
class VC (K : PySem.W.Frag) (B : Bs) (E : L2.St → XK) (r : List V → Hp → VK → Prop) (w : outParam (List Rf → VW)) : Prop where
  run : ∀ {as : List Addr} {γ : Env} {σ : L2.St} {G H : Hp} {vs : List V} {rs : List Rf} {Q : VK} {Qv : RQ} {Xv : XQ}, StR K B as γ σ G H → RRs K B.ex as G rs vs → w rs γ Qv Xv → KontP K B as σ G (rR K B) Q Qv → KontX K B as σ G (E σ) Xv → r vs H Q
class VM (K : PySem.W.Frag) (B : Bs) (E : L2.St → XK) (r : V → List V → Hp → VK → Prop) (w : outParam (Rf → List Rf → VW)) : Prop where
  run : ∀ {as : List Addr} {γ : Env} {σ : L2.St} {G H : Hp} {x : V} {rx : Rf} {vs : List V} {rs : List Rf} {Q : VK} {Qv : RQ} {Xv : XQ}, StR K B as γ σ G H → RR K B.ex as G rx x → RRs K B.ex as G rs vs → w rx rs γ Qv Xv → KontP K B as σ G (rR K B) Q Qv → KontX K B as σ G (E σ) Xv → r x vs H Q
/-! ### settling, looking -/
def nth {α : Type} : List α → Nat → Option α
  | [], _ => none
  | a :: _, 0 => some a
  | _ :: l, n + 1 => nth l n
theorem nth_eq {α : Type} : ∀ (l : List α) (n : Nat), nth l n = l[n]?
  | [], n => by simp [nth]
  | a :: _, 0 => rfl
  | _ :: l, n + 1 => by show nth l n = _; rw [nth_eq l n]; rfl
/-- there is one -/
def isS {α : Type} (o : Option α) (Q : α → Prop) : Prop := match o with
  | some t => Q t
  | none => False
theorem isS_i {α : Type} {o : Option α} {t : α} {Q : α → Prop} (e : o = some t) (h : Q t) : isS o Q := by rw [e]; exact h
theorem isS_e {α : Type} {o : Option α} {Q : α → Prop} (h : isS o Q) : ∃ t, o = some t ∧ Q t := by
  cases o with
  | none => exact h.elim
  | some t => exact ⟨t, rfl, h⟩
/-- the item at an index, from the end if below zero -/
def atL {α : Type} (ts : List α) : Int → Option α
  | .ofNat n => nth ts n
  | .negSucc n => nth ts.reverse n
theorem atL_eq {α : Type} (ts : List α) (i : Int) : atL ts i = L2.atI ts i := by
  unfold L2.atI ixN
  cases i with
  | ofNat n =>
    have h0 : (0 : Int) ≤ Int.ofNat n := Int.natCast_nonneg n
    rw [if_pos h0]
    show nth ts n = _
    rw [nth_eq]
    by_cases h : Int.ofNat n < (ts.length : Int)
    · rw [if_pos h]; rfl
    · rw [if_neg h]
      have h : ¬ ((n : Int) < (ts.length : Int)) := h
      exact List.getElem?_eq_none (by omega)
  | negSucc n =>
    have h0 : ¬ (0 : Int) ≤ Int.negSucc n := by omega
    rw [if_neg h0]
    show nth ts.reverse n = _
    rw [nth_eq]
    by_cases h : -(ts.length : Int) ≤ Int.negSucc n
    · rw [if_pos h]
      have hn : n < ts.length := by omega
      rw [List.getElem?_reverse hn]
      show _ = ts[(Int.negSucc n + (ts.length : Int)).toNat]?
      congr 1
      omega
    · rw [if_neg h]
      exact List.getElem?_eq_none (by rw [List.length_reverse]; omega)
theorem atL_nat {α : Type} (ts : List α) {i : Int} (h : 0 ≤ i) : atL ts i = ts[i.toNat]? := by
  obtain ⟨n, rfl⟩ := Int.eq_ofNat_of_zero_le h
  show nth ts n = _
  rw [nth_eq]; rfl
theorem atL_at {α : Type} (ts : List α) {i : Int} (h : 0 ≤ i) (h1 : i < (ts.length : Int)) : ∃ t, atL ts i = some t ∧ ts[i.toNat]? = some t := by
  have hl : i.toNat < ts.length := by omega
  exact ⟨ts[i.toNat], by rw [atL_nat ts h, List.getElem?_eq_getElem hl], List.getElem?_eq_getElem hl⟩
theorem atL_last {α : Type} (ts : List α) (t : α) : atL (ts ++ [t]) (-1) = some t := by
  show nth (ts ++ [t]).reverse 0 = _
  rw [List.reverse_append]; rfl
def setN {α : Type} : List α → Nat → α → Option (List α)
  | [], _, _ => none
  | _ :: l, 0, t => some (t :: l)
  | a :: l, n + 1, t => (setN l n t).map (a :: ·)
theorem setN_eq {α : Type} : ∀ (l : List α) (n : Nat) (t : α), setN l n t = if n < l.length then some (l.set n t) else none
  | [], n, t => rfl
  | a :: l, 0, t => rfl
  | a :: l, n + 1, t => by
    show (setN l n t).map _ = _
    rw [setN_eq l n t]
    by_cases h : n < l.length
    · rw [if_pos h, if_pos (by simpa using h)]; rfl
    · rw [if_neg h, if_neg (by simpa using h)]; rfl
/-- a list with the item at i replaced -/
def setL {α : Type} (ts : List α) (i : Int) (t : α) : Option (List α) := match i with
  | .ofNat n => setN ts n t
  | .negSucc n => match Nat.blt n ts.length with
    | true => setN ts (ts.length - 1 - n) t
    | false => none
theorem setL_ix {α : Type} {ts us : List α} {i : Int} {t : α} (h : setL ts i t = some us) : ∃ j, ixN ts.length i = some j ∧ us = ts.set j t := by
  unfold ixN
  cases i with
  | ofNat n =>
    have h0 : (0 : Int) ≤ Int.ofNat n := Int.natCast_nonneg n
    have h : setN ts n t = some us := h
    rw [setN_eq] at h
    split at h
    · rename_i hl
      have h1 : Int.ofNat n < (ts.length : Int) := by have := hl; show (n : Int) < _; omega
      exact ⟨n, by rw [if_pos h0, if_pos h1]; rfl, (Option.some.inj h).symm⟩
    · cases h
  | negSucc n =>
    have h0 : ¬ (0 : Int) ≤ Int.negSucc n := by omega
    have h : (match Nat.blt n ts.length with | true => setN ts (ts.length - 1 - n) t | false => none) = some us := h
    split at h
    · rename_i hb
      have hl : n < ts.length := by simpa [Nat.blt_eq] using hb
      rw [setN_eq, if_pos (by omega)] at h
      refine ⟨ts.length - 1 - n, ?_, (Option.some.inj h).symm⟩
      rw [if_neg h0, if_pos (by omega)]
      congr 1
      omega
    · cases h
theorem setL_nat {α : Type} (ts : List α) {i : Int} (t : α) (h : 0 ≤ i) (h1 : i < (ts.length : Int)) : setL ts i t = some (ts.set i.toNat t) := by
  obtain ⟨n, rfl⟩ := Int.eq_ofNat_of_zero_le h
  show setN ts n t = _
  rw [setN_eq, if_pos (by omega)]; rfl
/-- the last item, and what is before it -/
def popL {α : Type} : List α → Option (α × List α)
  | [] => none
  | [a] => some (a, [])
  | a :: b :: r => (popL (b :: r)).map fun p => (p.1, a :: p.2)
theorem popL_eq {α : Type} : ∀ {ts : List α} {p : α × List α}, popL ts = some p → ts[ts.length - 1]? = some p.1 ∧ ts.dropLast = p.2
  | [], _, h => by cases h
  | [a], _, h => by cases h; exact ⟨rfl, rfl⟩
  | a :: b :: r, p, h => by
    have h : (popL (b :: r)).map (fun p => (p.1, a :: p.2)) = some p := h
    cases e : popL (b :: r) with
    | none => rw [e] at h; cases h
    | some q =>
      rw [e] at h
      cases h
      obtain ⟨h1, h2⟩ := popL_eq e
      refine ⟨?_, by show a :: (b :: r).dropLast = _; rw [h2]⟩
      have : (a :: b :: r)[(a :: b :: r).length - 1]? = (b :: r)[(b :: r).length - 1]? := by simp
      rw [this]; exact h1
theorem popL_snoc {α : Type} (t : α) : ∀ ts : List α, popL (ts ++ [t]) = some (t, ts)
  | [] => rfl
  | [a] => rfl
  | a :: b :: r => by
    show (popL ((b :: r) ++ [t])).map _ = _
    rw [popL_snoc t (b :: r)]; rfl
def popN {α : Type} : List α → Nat → Option (α × List α)
  | [], _ => none
  | a :: l, 0 => some (a, l)
  | a :: l, n + 1 => (popN l n).map fun p => (p.1, a :: p.2)
theorem popN_eq {α : Type} : ∀ (l : List α) (n : Nat), popN l n = l[n]?.map fun a => (a, l.eraseIdx n)
  | [], n => by simp [popN]
  | a :: l, 0 => rfl
  | a :: l, n + 1 => by
    show (popN l n).map _ = _
    rw [popN_eq l n]
    cases e : l[n]? with
    | none => simp [e]
    | some x => simp [e]
def Env.put (γ : Env) (k : Nat) (m : MO) : Env := { γ with mem := γ.mem.set k m }
def Env.push (γ : Env) (m : MO) : Env := { γ with mem := γ.mem ++ [m] }
def Env.set (γ : Env) (i : Nat) (r : Rf) : Env := { γ with sl := γ.sl.set i (some r) }
def Env.unset (γ : Env) (i : Nat) : Env := { γ with sl := γ.sl.set i none }
/-- the value as it is settled -/
def toT (r : Rf) (γ : Env) (Q : T → Env → Prop) : Prop :=
  match r with
  | .val t => Q t γ
  | .ref k => match nth γ.mem k with
    | some (.fz t) => Q t γ
    | some (.mu t) => match Nat.blt k γ.nio with
      | true => False
      | false => Q t (γ.put k (.fz t))
    | none => False
  | .err _ _ => False
/-- the value as it is now -/
def peek (r : Rf) (γ : Env) (Q : T → Prop) : Prop :=
  match r with
  | .val t => Q t
  | .ref k => match nth γ.mem k with
    | some (.fz t) => Q t
    | some (.mu t) => Q t
    | none => False
  | .err _ _ => False
section
variable {K : PySem.W.Frag} {B : Bs} {as : List Addr} {γ : Env} {σ : L2.St} {G H : Hp} {r : Rf} {v : V}
theorem toT_ok {Q : T → Env → Prop} (S : StR K B as γ σ G H) (rr : RR K B.ex as G r v) (h : toT r γ Q) : ∃ t γ' G', Same G G' ∧ StR K B as γ' σ G' H ∧ Rp K G' v t ∧ Q t γ' := by
  cases r with
  | val t => exact ⟨t, γ, G, Same.refl _, S, rr, h⟩
  | ref k =>
    obtain ⟨a, ea, rfl⟩ := rr
    unfold toT at h
    simp only [nth_eq] at h
    split at h
    · rename_i t e
      obtain ⟨_, q⟩ := S.mem k a _ ea e
      exact ⟨t, γ, G, Same.refl _, S, q, h⟩
    · rename_i t e
      split at h
      · exact h.elim
      · rename_i hb
        have hk : γ.nio ≤ k := by
          rcases Nat.lt_or_ge k γ.nio with z | z
          · have : Nat.blt k γ.nio = true := by simpa [Nat.blt_eq] using z
            rw [this] at hb; cases hb
          · exact z
        obtain ⟨a', G', ea', S', g, rp⟩ := S.freeze e hk
        rw [ea] at ea'; cases ea'
        exact ⟨t, _, G', g, S', rp, h⟩
    · exact h.elim
  | err D gs => exact h.elim
/-- what it is in the heap: settled, or open -/
theorem peek_ok {Q : T → Prop} (S : StR K B as γ σ G H) (rr : RR K B.ex as G r v) (h : peek r γ Q) : ∃ t, Q t ∧ (Rp K G v t ∨ ∃ a, v = .ref a ∧ MutR K G H a t) := by
  cases r with
  | val t => exact ⟨t, h, .inl rr⟩
  | ref k =>
    obtain ⟨a, ea, rfl⟩ := rr
    unfold peek at h
    simp only [nth_eq] at h
    split at h
    · rename_i t e
      obtain ⟨_, q⟩ := S.mem k a _ ea e
      exact ⟨t, h, .inl q⟩
    · rename_i t e
      obtain ⟨_, q⟩ := S.mem k a _ ea e
      exact ⟨t, h, .inr ⟨a, rfl, q⟩⟩
    · exact h.elim
  | err D gs => exact h.elim
theorem MutR.rpH {a : Addr} {t : T} (vw : Same G H) (h : MutR K G H a t) : Rp K H (.ref a) t := by
  cases t with
  | lst ts => obtain ⟨acc, q, z⟩ := h; exact .lst q (z.mono vw)
  | obj C gs => obtain ⟨dx, fs, q, z⟩ := h; exact .obj q z.1 (z.2.mono vw)
  | dk ks => obtain ⟨kvs, q, z⟩ := h; exact .dk q z.1 (z.2.mono vw)
  | _ => exact h.elim
theorem peek_rp {Q : T → Prop} (S : StR K B as γ σ G H) (rr : RR K B.ex as G r v) (h : peek r γ Q) : ∃ t, Q t ∧ Rp K H v t := by
  obtain ⟨t, q, z⟩ := peek_ok S rr h
  rcases z with z | ⟨a, rfl, z⟩
  · exact ⟨t, q, z.mono S.vw⟩
  · exact ⟨t, q, z.rpH S.vw⟩
end
/-- a sequence: list (true) or tuple -/
def seqT (t : T) (Q : Bool → List T → Prop) : Prop :=
  match t with
  | .lst ts => Q true ts
  | .scr ts => Q true ts
  | .tup ts => Q false ts
  | _ => False
def SqK2 (K : PySem.W.Frag) (H : Hp) (a : Addr) (xs : List V) : Bool → Prop
  | true => SqL K H a xs
  | false => SqT K H a xs
theorem SqK2.or {K : PySem.W.Frag} {H : Hp} {a : Addr} {xs : List V} : ∀ {b : Bool}, SqK2 K H a xs b → SqL K H a xs ∨ SqT K H a xs
  | true, h => .inl h
  | false, h => .inr h
section
variable {K : PySem.W.Frag} {B : Bs} {as : List Addr} {γ : Env} {σ : L2.St} {G H : Hp} {r : Rf} {v : V}
theorem peek_seq {Q : Bool → List T → Prop} (S : StR K B as γ σ G H) (rr : RR K B.ex as G r v) (h : peek r γ fun t => seqT t Q) : ∃ b ts a acc, v = .ref a ∧ SqK2 K H a acc b ∧ RpAll K G acc ts ∧ Q b ts := by
  obtain ⟨t, q, z⟩ := peek_ok S rr h
  cases t with
  | lst ts =>
    rcases z with z | ⟨a, rfl, acc, z1, z2⟩
    · cases z with | lst z1 z2 => exact ⟨true, ts, _, _, rfl, SqL.of (S.vw _ _ z1), z2, q⟩
    · exact ⟨true, ts, a, acc, rfl, SqL.of z1, z2, q⟩
  | scr ts =>
    rcases z with z | ⟨a, rfl, z1⟩
    · cases z with | scr z1 z2 => exact ⟨true, ts, _, _, rfl, SqL.same z1 S.vw, z2, q⟩
    · exact z1.elim
  | tup ts =>
    rcases z with z | ⟨a, rfl, z1⟩
    · cases z with | tup z1 z2 => exact ⟨false, ts, _, _, rfl, SqT.same z1 S.vw, z2, q⟩
    · exact z1.elim
  | _ => exact q.elim
end
/-! ### names, constants -/
def vVar (i : Nat) : VW := fun γ Q _ => match nth γ.sl i with
  | some (some r) => Q r γ
  | some none => False
  | none => False
instance {K : PySem.W.Frag} {B : Bs} {E : L2.St → XK} {i : Nat} : VE K B E (tVar i) (vVar i) where
  run := fun {as γ σ G H Q Qv Xv} S h k _ => by
    unfold vVar at h
    rw [nth_eq] at h
    split at h
    · rename_i r e
      obtain ⟨v, e1, e2⟩ := S.sl i r e
      exact ⟨v, e1, k r γ as v G H (List.prefix_refl _) (Same.refl _) S e2 h⟩
    · exact h.elim
    · exact h.elim
def vVal (t : T) : VW := fun γ Q _ => Q (.val t) γ
def vStr (x : Str) : VW := fun γ Q _ => PyData.strOk x = true ∧ Q (.val (.str x)) γ
section
variable {K : PySem.W.Frag} {B : Bs} {E : L2.St → XK}
instance {i : Int} : VE K B E (tC (.int i)) (vVal (.int i)) := ⟨fun {as γ σ G H Q Qv Xv} S h k _ => kval k S (.int i) h⟩
instance {b : Bool} : VE K B E (tC (.bl b)) (vVal (.bl b)) := ⟨fun {as γ σ G H Q Qv Xv} S h k _ => kval k S (.bl b) h⟩
instance : VE K B E (tC .non) (vVal .non) := ⟨fun {as γ σ G H Q Qv Xv} S h k _ => kval k S .non h⟩
instance {n : String} : VE K B E (tC (.ty n)) (vVal (.ty n)) := ⟨fun {as γ σ G H Q Qv Xv} S h k _ => kval k S (.ty n) h⟩
instance {a : Addr} : VE K B E (tC (.ref a)) (vVal (.cls a)) := ⟨fun {as γ σ G H Q Qv Xv} S h k _ => kval k S (.cls a) h⟩
instance {x : Str} : VE K B E (tC (.str x)) (vStr x) := ⟨fun {as γ σ G H Q Qv Xv} S h k _ => kval k S (.str x h.1) h.2⟩
/-! ### operators by values -/
def vOp (wr : Rf → Rf → VW) (wa wb : VW) : VW := fun γ Q X => wa γ (fun r1 γ1 => wb γ1 (fun r2 γ2 => wr r1 r2 γ2 Q X) X) X
instance {r : R2} {wr : Rf → Rf → VW} {ta tb : TE} {wa wb : VW} [ha : VE K B E ta wa] [hb : VE K B E tb wb] [hr : V2 K B E r wr] : VE K B E (tOp r ta tb) (vOp wr wa wb) where
  run := fun {as γ σ G H Q Qv Xv} S h k kx => by
    refine ha.run S h (fun r1 γ1 as1 v1 G1 H1 p1 g1 S1 rr1 q1 => ?_) kx
    refine hb.run S1 q1 (fun r2 γ2 as2 v2 G2 H2 p2 g2 S2 rr2 q2 => ?_) (kx.mono p1 g1)
    exact hr.run S2 (RR.mono rr1 p2 g2) rr2 q2 ((k.mono p1 g1).mono p2 g2) ((kx.mono p1 g1).mono p2 g2)
def vUn (wr : Rf → VW) (wa : VW) : VW := fun γ Q X => wa γ (fun r1 γ1 => wr r1 γ1 Q X) X
instance {r : V → Hp → VK → Prop} {wr : Rf → VW} {ta : TE} {wa : VW} [ha : VE K B E ta wa] [hr : V1 K B E r wr] : VE K B E (tUn r ta) (vUn wr wa) where
  run := fun {as γ σ G H Q Qv Xv} S h k kx => by
    refine ha.run S h (fun r1 γ1 as1 v1 G1 H1 p1 g1 S1 rr1 q1 => ?_) kx
    exact hr.run S1 rr1 q1 (k.mono p1 g1) (kx.mono p1 g1)
/-- two values, looked at -/
def peek2 (f : T → T → RQ → Env → Prop) : Rf → Rf → VW := fun r1 r2 γ Q _ => peek r1 γ fun x => peek r2 γ fun y => f x y Q γ
def int2 (C : Int → Int → Prop) (f : Int → Int → T) : T → T → RQ → Env → Prop := fun x y Q γ => match x, y with
  | .int i, .int j => C i j ∧ Q (.val (f i j)) γ
  | _, _ => False
def int20 (f : Int → Int → T) : T → T → RQ → Env → Prop := fun x y Q γ => match x, y with
  | .int i, .int j => Q (.val (f i j)) γ
  | _, _ => False
section
variable {as : List Addr} {γ : Env} {σ : L2.St} {G H : Hp} {v : V} {rx : Rf}
theorem peek_int {Q : T → Prop} (S : StR K B as γ σ G H) (rr : RR K B.ex as G rx v) (h : peek rx γ Q) : ∃ t, Q t ∧ ∀ i, t = .int i → v = .int i := by
  obtain ⟨t, q, z⟩ := peek_rp S rr h
  exact ⟨t, q, fun i e => by subst e; cases z; rfl⟩
end
theorem v2_int {C : Int → Int → Prop} {f : Int → Int → T} {g : Int → Int → V} (hg : ∀ (G : Hp) (i j : Int), Rp K G (g i j) (f i j)) : V2 K B E (rI C g) (peek2 (int2 C f)) where
  run := fun {as γ σ G H x y rx ry Q Qv Xv} S r1 r2 h k _ => by
    obtain ⟨t1, h, e1⟩ := peek_int S r1 h
    obtain ⟨t2, h, e2⟩ := peek_int S r2 h
    unfold int2 at h
    split at h
    · exact ⟨_, _, e1 _ rfl, e2 _ rfl, h.1, kval k S (hg _ _ _) h.2⟩
    · exact h.elim
theorem v2_int0 {f : Int → Int → T} {g : Int → Int → V} (hg : ∀ (G : Hp) (i j : Int), Rp K G (g i j) (f i j)) : V2 K B E (rI0 g) (peek2 (int20 f)) where
  run := fun {as γ σ G H x y rx ry Q Qv Xv} S r1 r2 h k _ => by
    obtain ⟨t1, h, e1⟩ := peek_int S r1 h
    obtain ⟨t2, h, e2⟩ := peek_int S r2 h
    unfold int20 at h
    split at h
    · exact ⟨_, _, e1 _ rfl, e2 _ rfl, kval k S (hg _ _ _) h⟩
    · exact h.elim
instance {C : Int → Int → Prop} {f : Int → Int → Int} : V2 K B E (rI C fun i j => .int (f i j)) (peek2 (int2 C fun i j => .int (f i j))) := v2_int fun _ _ _ => .int _
instance {f : Int → Int → Int} : V2 K B E (rI0 fun i j => .int (f i j)) (peek2 (int20 fun i j => .int (f i j))) := v2_int0 fun _ _ _ => .int _
instance {f : Int → Int → Bool} : V2 K B E (rI0 fun i j => .bl (f i j)) (peek2 (int20 fun i j => .bl (f i j))) := v2_int0 fun _ _ _ => .bl _
def int1 (f : Int → T) : Rf → VW := fun r γ Q _ => peek r γ fun x => match x with
  | .int i => Q (.val (f i)) γ
  | _ => False
instance {f : Int → Int} : V1 K B E (rU fun i => .int (f i)) (int1 fun i => .int (f i)) where
  run := fun {as γ σ G H x rx Q Qv Xv} S r1 h k _ => by
    obtain ⟨t1, h, e1⟩ := peek_int S r1 h
    split at h
    · exact ⟨_, e1 _ rfl, kval k S (.int _) h⟩
    · exact h.elim
end
end VL
set_option Elab.async false
set_option linter.all false
set_option maxRecDepth 100000
set_option maxHeartbeats 4000000
/-! readings over values: data, sequences, tests, built-in calls -/
namespace VL
open PySem PySem.Spec PyProof.Rows L2 XR
/-! ### data -/
mutual
def toD : T → PyData
  | .bl b => .bool b
  | .int i => .int i
  | .str s => .str s
  | .lst ts => .list (toDs ts)
  | .scr ts => .list (toDs ts)
  | .tup ts => .tuple (toDs ts)
  | .non => .none
  | .ty _ => .none
  | .cls _ => .none
  | .rng _ _ => .none
  | .obj _ _ => .none
  | .dk _ => .none
def toDs : List T → List PyData
  | [] => []
  | t :: r => toD t :: toDs r
end
mutual
def dataT : T → Bool
  | .bl _ => true
  | .int _ => true
  | .str _ => true
  | .lst ts => dataTs ts
  | .scr ts => dataTs ts
  | .tup ts => dataTs ts
  | .non => true
  | .ty _ => false
  | .cls _ => false
  | .rng _ _ => false
  | .obj _ _ => false
  | .dk _ => false
def dataTs : List T → Bool
  | [] => true
  | t :: r => dataT t && dataTs r
end
mutual
def depT : T → Nat
  | .lst ts => depTs ts + 1
  | .scr ts => depTs ts + 1
  | .tup ts => depTs ts + 1
  | .bl _ => 0
  | .int _ => 0
  | .str _ => 0
  | .non => 0
  | .ty _ => 0
  | .cls _ => 0
  | .rng _ _ => 0
  | .obj _ _ => 0
  | .dk _ => 0
def depTs : List T → Nat
  | [] => 0
  | t :: r => max (depT t) (depTs r)
end
/-- == of data -/
def eqT (x y : T) : Bool := PyData.eqv (toD x) (toD y)
/-- data that == may look at -/
def okD (t : T) : Bool := dataT t && decide (depT t ≤ 64)
section
variable {K : PySem.W.Frag} {H : Hp}
mutual
theorem Rp.dp : ∀ {t : T} {v : V}, Rp K H v t → dataT t = true → Dp K H v (toD t)
  | _, _, .non, _ => .non
  | _, _, .bl b, _ => .bl b
  | _, _, .int i, _ => .int i
  | _, _, .str s _, _ => .str s
  | _, _, .lst s a, h => .lst (SqL.of s) (RpAll.dp a h)
  | _, _, .scr s a, h => .lst s (RpAll.dp a h)
  | _, _, .tup s a, h => .tup s (RpAll.dp a h)
  | _, _, .ty _, h => by cases h
  | _, _, .cls _, h => by cases h
  | _, _, .rng _, h => by cases h
  | _, _, .obj _ _ _, h => by cases h
  | _, _, .dk _ _ _, h => by cases h
theorem RpAll.dp : ∀ {ts : List T} {vs : List V}, RpAll K H vs ts → dataTs ts = true → DpAll K H vs (toDs ts)
  | _, _, .nil, _ => .nil
  | _, _, .cons a b, h => by
    have h2 := Bool.and_eq_true_iff.mp h
    exact .cons (Rp.dp a h2.1) (RpAll.dp b h2.2)
end
mutual
theorem Rp.lay : ∀ {t : T} {v : V}, Rp K H v t → dataT t = true → (toD t).canLay0 = true
  | _, _, .non, _ => rfl
  | _, _, .bl b, _ => rfl
  | _, _, .int i, _ => rfl
  | _, _, .str s h, _ => h
  | _, _, .lst s a, h => RpAll.lay a h
  | _, _, .scr s a, h => RpAll.lay a h
  | _, _, .tup s a, h => RpAll.lay a h
  | _, _, .ty _, h => by cases h
  | _, _, .cls _, h => by cases h
  | _, _, .rng _, h => by cases h
  | _, _, .obj _ _ _, h => by cases h
  | _, _, .dk _ _ _, h => by cases h
theorem RpAll.lay : ∀ {ts : List T} {vs : List V}, RpAll K H vs ts → dataTs ts = true → PyData.canLayAll0 (toDs ts) = true
  | _, _, .nil, _ => rfl
  | _, _, .cons a b, h => by
    have h2 := Bool.and_eq_true_iff.mp h
    show (PyData.canLay0 _ && PyData.canLayAll0 _) = true
    rw [Rp.lay a h2.1, RpAll.lay b h2.2]
    rfl
end
mutual
theorem dep_eq : ∀ (t : T), (toD t).depth = depT t
  | .lst ts => by show PyData.depthAll _ + 1 = depTs ts + 1; rw [deps_eq ts]
  | .scr ts => by show PyData.depthAll _ + 1 = depTs ts + 1; rw [deps_eq ts]
  | .tup ts => by show PyData.depthAll _ + 1 = depTs ts + 1; rw [deps_eq ts]
  | .bl _ => rfl
  | .int _ => rfl
  | .str _ => rfl
  | .non => rfl
  | .ty _ => rfl
  | .cls _ => rfl
  | .rng _ _ => rfl
  | .obj _ _ => rfl
  | .dk _ => rfl
theorem deps_eq : ∀ (ts : List T), PyData.depthAll (toDs ts) = depTs ts
  | [] => rfl
  | t :: r => by show max _ _ = max _ _; rw [dep_eq t, deps_eq r]
end
theorem Rp.shaped {t : T} {v : V} (h : Rp K H v t) (o : okD t = true) : SeqAt.shaped (toD t) = true := by
  have h2 := Bool.and_eq_true_iff.mp o
  show ((toD t).canLay0 && decide ((toD t).depth ≤ 64)) = true
  rw [h.lay h2.1, dep_eq]
  exact h2.2
theorem okD_data {t : T} (o : okD t = true) : dataT t = true := (Bool.and_eq_true_iff.mp o).1
end
def nb : Bool → Bool → Bool
  | true, b => !b
  | false, b => b
/-- the answer of == -/
def eqQ (neg : Bool) (x y : T) (Q : Bool → Prop) : Prop :=
  match x, y with
  | .int i, .int j => Q (nb neg (decide (i = j)))
  | .str i, .str j => Q (nb neg (decide (i = j)))
  | .bl i, .bl j => Q (nb neg (decide (i = j)))
  | x, y => okD x = true ∧ okD y = true ∧ Q (nb neg (eqT x y))
theorem eqQ_ok {neg : Bool} {x y : T} {Q : Bool → Prop} (h : eqQ neg x y Q) : okD x = true ∧ okD y = true ∧ Q (nb neg (eqT x y)) := by
  have e1 : ∀ i j : Int, eqT (.int i) (.int j) = decide (i = j) := fun i j => by
    show (i == j) = _
    rw [Bool.eq_iff_iff]; simp
  have e2 : ∀ i j : Str, eqT (.str i) (.str j) = decide (i = j) := fun i j => by
    show (i == j) = _
    rw [Bool.eq_iff_iff]; simp
  have e3 : ∀ i j : Bool, eqT (.bl i) (.bl j) = decide (i = j) := fun i j => by
    show (i == j) = _
    rw [Bool.eq_iff_iff]; simp
  cases x <;> cases y <;> first
    | exact h
    | exact ⟨rfl, rfl, by rw [e1]; exact h⟩
    | exact ⟨rfl, rfl, by rw [e2]; exact h⟩
    | exact ⟨rfl, rfl, by rw [e3]; exact h⟩
/-- .. == [] -/
def eqQN (neg : Bool) (x y : T) (Q : Bool → Prop) : Prop :=
  match y with
  | .lst [] => match x with
    | .lst ts => okD (.lst ts) = true ∧ Q (nb neg ts.isEmpty)
    | .scr ts => okD (.scr ts) = true ∧ Q (nb neg ts.isEmpty)
    | x => okD x = true ∧ Q (nb neg (eqT x (.lst [])))
  | y => okD x = true ∧ okD y = true ∧ Q (nb neg (eqT x y))
theorem eqQN_ok {neg : Bool} {x y : T} {Q : Bool → Prop} (h : eqQN neg x y Q) : okD x = true ∧ okD y = true ∧ Q (nb neg (eqT x y)) := by
  have e4 : ∀ ts : List T, eqT (.lst ts) (.lst []) = ts.isEmpty := fun ts => by cases ts <;> rfl
  have e5 : ∀ ts : List T, eqT (.scr ts) (.lst []) = ts.isEmpty := fun ts => by cases ts <;> rfl
  unfold eqQN at h
  split at h
  · split at h
    · exact ⟨h.1, rfl, by rw [e4]; exact h.2⟩
    · exact ⟨h.1, rfl, by rw [e5]; exact h.2⟩
    · exact ⟨h.1, rfl, h.2⟩
  · exact h
def vEqN (neg : Bool) : Rf → Rf → VW := peek2 fun x y Q γ => eqQN neg x y fun b => Q (.val (.bl b)) γ
def vEq (neg : Bool) : Rf → Rf → VW := peek2 fun x y Q γ => eqQ neg x y fun b => Q (.val (.bl b)) γ
section
variable {K : PySem.W.Frag} {B : Bs} {E : L2.St → XK}
section
variable {as : List Addr} {γ : Env} {σ : L2.St} {G H : Hp} {r1 r2 : Rf} {x y : V}
theorem peek2_rp {f : T → T → RQ → Env → Prop} {Q : RQ} {X : XQ} (S : StR K B as γ σ G H) (h1 : RR K B.ex as G r1 x) (h2 : RR K B.ex as G r2 y) (h : peek2 f r1 r2 γ Q X) : ∃ t u, Rp K H x t ∧ Rp K H y u ∧ f t u Q γ := by
  obtain ⟨t, h, e1⟩ := peek_rp S h1 h
  obtain ⟨u, h, e2⟩ := peek_rp S h2 h
  exact ⟨t, u, e1, e2, h⟩
end
instance : V2 K B E (rEqD K) (vEq false) where
  run := fun {as γ σ G H x y rx ry Q Qv Xv} S r1 r2 h k _ => by
    obtain ⟨t, u, e1, e2, h⟩ := peek2_rp S r1 r2 h
    obtain ⟨o1, o2, q⟩ := eqQ_ok h
    exact ⟨_, _, e1.dp (okD_data o1), e2.dp (okD_data o2), e1.shaped o1, e2.shaped o2, kval k S (.bl _) q⟩
instance : V2 K B E (rNeD K) (vEq true) where
  run := fun {as γ σ G H x y rx ry Q Qv Xv} S r1 r2 h k _ => by
    obtain ⟨t, u, e1, e2, h⟩ := peek2_rp S r1 r2 h
    obtain ⟨o1, o2, q⟩ := eqQ_ok h
    exact ⟨_, _, e1.dp (okD_data o1), e2.dp (okD_data o2), e1.shaped o1, e2.shaped o2, kval k S (.bl _) q⟩
theorem v2_eqN : V2 K B E (rEqD K) (vEqN false) where
  run := fun {as γ σ G H x y rx ry Q Qv Xv} S r1 r2 h k _ => by
    obtain ⟨t, u, e1, e2, h⟩ := peek2_rp S r1 r2 h
    obtain ⟨o1, o2, q⟩ := eqQN_ok h
    exact ⟨_, _, e1.dp (okD_data o1), e2.dp (okD_data o2), e1.shaped o1, e2.shaped o2, kval k S (.bl _) q⟩
theorem v2_neN : V2 K B E (rNeD K) (vEqN true) where
  run := fun {as γ σ G H x y rx ry Q Qv Xv} S r1 r2 h k _ => by
    obtain ⟨t, u, e1, e2, h⟩ := peek2_rp S r1 r2 h
    obtain ⟨o1, o2, q⟩ := eqQN_ok h
    exact ⟨_, _, e1.dp (okD_data o1), e2.dp (okD_data o2), e1.shaped o1, e2.shaped o2, kval k S (.bl _) q⟩
end
/-! ### x in s: items that are data; one text in another; an int in a range -/
def rInU (K : PySem.W.Frag) (neg : Bool) : R2 := fun x y H Q => (∃ d ds, Dp K H x d ∧ (Dp K H y (.list ds) ∨ Dp K H y (.tuple ds)) ∧ SeqAt.shaped d = true ∧ SeqAt.shaped (.list ds) = true ∧ Q (.bl (nb neg (ds.any fun z => PyData.eqv z d))) H) ∨
  (∃ i j, x = .str i ∧ y = .str j ∧ Q (.bl (nb neg (!(Builtin.Str.occurrences j i 0 j.length 1).isEmpty))) H)
section
variable {X : Cx}
theorem op_inU (hu : X.A.units + 65 < cLine) : OpR X (compareOp .In) (rInU X.K false) := by
  intro pins s σ H x y v u Q I rx ry h
  rcases h with ⟨d, ds, hd, he, sd, se, q⟩ | ⟨i, j, e1, e2, q⟩
  · obtain ⟨as, r1⟩ := Dp.reads I d x v hd rx
    rcases he with he | he
    · obtain ⟨bs, r2⟩ := Dp.reads I (.list ds) y u he ry
      exact SeqAt.in_list_reads r2 r1 (SeqAt.canLay_of_shaped se) (SeqAt.canLay_of_shaped sd) (room_in_shaped sd hu) ⟨.bl _, H, I, rfl, q⟩
    · obtain ⟨bs, r2⟩ := Dp.reads I (.tuple ds) y u he ry
      exact SeqAt.in_tuple_reads r2 r1 (SeqAt.canLay_of_shaped se) (SeqAt.canLay_of_shaped sd) (room_in_shaped sd hu) ⟨.bl _, H, I, rfl, q⟩
  · exact op_in_str pins s σ H x y v u Q I rx ry ⟨i, j, e1, e2, q⟩
theorem op_notInU (hu : X.A.units + 65 < cLine) : OpR X (compareOp .NotIn) (rInU X.K true) := by
  intro pins s σ H x y v u Q I rx ry h
  rcases h with ⟨d, ds, hd, he, sd, se, q⟩ | ⟨i, j, e1, e2, q⟩
  · obtain ⟨as, r1⟩ := Dp.reads I d x v hd rx
    rcases he with he | he
    · obtain ⟨bs, r2⟩ := Dp.reads I (.list ds) y u he ry
      exact SeqAt.notIn_list_reads r2 r1 (SeqAt.canLay_of_shaped se) (SeqAt.canLay_of_shaped sd) (room_in_shaped sd hu) ⟨.bl _, H, I, rfl, q⟩
    · obtain ⟨bs, r2⟩ := Dp.reads I (.tuple ds) y u he ry
      exact SeqAt.notIn_tuple_reads r2 r1 (SeqAt.canLay_of_shaped se) (SeqAt.canLay_of_shaped sd) (room_in_shaped sd hu) ⟨.bl _, H, I, rfl, q⟩
  · subst e1 e2
    obtain ⟨t, rfl⟩ := rx
    obtain ⟨t', rfl⟩ := ry
    exact PyProof.Rows.notIn_str (fin_bl I q rfl)
end
def anyT (x : T) (ts : List T) : Bool := ts.any fun z => eqT z x
def inQ (neg : Bool) (x y : T) (Q : Bool → Prop) : Prop :=
  match y with
  | .str j => match x with
    | .str i => Q (nb neg (!(Builtin.Str.occurrences j i 0 j.length 1).isEmpty))
    | _ => False
  | .lst ts => okD x = true ∧ okD (.lst ts) = true ∧ Q (nb neg (anyT x ts))
  | .tup ts => okD x = true ∧ okD (.lst ts) = true ∧ Q (nb neg (anyT x ts))
  | .scr ts => okD x = true ∧ okD (.lst ts) = true ∧ Q (nb neg (anyT x ts))
  | _ => False
def vIn (neg : Bool) : Rf → Rf → VW := peek2 fun x y Q γ => inQ neg x y fun b => Q (.val (.bl b)) γ
theorem toDs_map : ∀ ts : List T, toDs ts = ts.map toD
  | [] => rfl
  | t :: r => congrArg _ (toDs_map r)
theorem any_toDs (x : T) (ts : List T) : ((toDs ts).any fun z => PyData.eqv z (toD x)) = anyT x ts := by
  rw [toDs_map, List.any_map]; rfl
section
variable {K : PySem.W.Frag} {B : Bs} {E : L2.St → XK}
theorem v2_in {neg : Bool} : V2 K B E (rInU K neg) (vIn neg) where
  run := fun {as γ σ G H x y rx ry Q Qv Xv} S r1 r2 h k _ => by
    obtain ⟨t, u, e1, e2, h⟩ := peek2_rp S r1 r2 h
    unfold inQ at h
    split at h
    · split at h
      · cases e1
        cases e2
        exact .inr ⟨_, _, rfl, rfl, kval k S (.bl _) h⟩
      · exact h.elim
    · obtain ⟨o1, o2, q⟩ := h
      refine .inl ⟨_, _, e1.dp (okD_data o1), .inl (e2.dp (okD_data o2)), e1.shaped o1, e2.shaped o2, ?_⟩
      rw [any_toDs]
      exact kval k S (.bl _) q
    · rename_i ts
      obtain ⟨o1, o2, q⟩ := h
      have o3 : okD (.tup ts) = true := o2
      refine .inl ⟨_, _, e1.dp (okD_data o1), .inr (e2.dp (okD_data o3)), e1.shaped o1, e2.shaped o3, ?_⟩
      rw [any_toDs]
      exact kval k S (.bl _) q
    · rename_i ts
      obtain ⟨o1, o2, q⟩ := h
      have o3 : okD (.scr ts) = true := o2
      refine .inl ⟨_, _, e1.dp (okD_data o1), .inl (e2.dp (okD_data o3)), e1.shaped o1, e2.shaped o3, ?_⟩
      rw [any_toDs]
      exact kval k S (.bl _) q
    · exact h.elim
instance : V2 K B E (rInU K false) (vIn false) := v2_in
instance : V2 K B E (rInU K true) (vIn true) := v2_in
/-! ### an item, the length, truth -/
def ixQ (x y : T) (Q : T → Prop) : Prop :=
  match y with
  | .int n => match x with
    | .lst ts => isS (atL ts n) Q
    | .tup ts => isS (atL ts n) Q
    | .scr ts => isS (atL ts n) Q
    | .str z => z.length ≤ sizeLine ∧ isS (atL z.cps.toList n) fun c => Q (.str ⟨#[c]⟩)
    | _ => False
  | _ => False
def vIx : Rf → Rf → VW := peek2 fun x y Q γ => ixQ x y fun t => Q (.val t) γ
theorem RpAll.atI {G : Hp} {vs : List V} {ts : List T} {n : Int} {t : T} (h : RpAll K G vs ts) (e : L2.atI ts n = some t) : ∃ v, L2.atI vs n = some v ∧ Rp K G v t := by
  unfold L2.atI at e ⊢
  rw [h.length]
  cases hi : ixN ts.length n with
  | none => rw [hi] at e; cases e
  | some j =>
    rw [hi] at e
    exact RpAll.get' h e
theorem strOk_at {z : Str} {n : Int} {c : Nat} (h : PyData.strOk z = true) (e : L2.atI z.cps.toList n = some c) : PyData.strOk (⟨#[c]⟩ : Str) = true := by
  have hc : c ∈ z.cps.toList := by
    unfold L2.atI at e
    cases hi : ixN z.cps.toList.length n with
    | none => rw [hi] at e; cases e
    | some j => rw [hi] at e; exact List.mem_of_getElem? e
  have h : z.cps.all (· < 0x110000) = true := h
  rw [Array.all_eq_true_iff_forall_mem] at h
  have := h c (by simpa using hc)
  show (#[c] : Array Nat).all (· < 0x110000) = true
  simpa using this
instance : V2 K B E (rIx K) vIx where
  run := fun {as γ σ G H x y rx ry Q Qv Xv} S r1 r2 h k _ => by
    obtain ⟨t, h, z⟩ := peek_ok S r1 h
    obtain ⟨u, h, e2⟩ := peek_rp S r2 h
    unfold ixQ at h
    split at h
    · cases e2
      split at h
      · obtain ⟨t, e, q⟩ := isS_e h
        rw [atL_eq] at e
        rcases z with z | ⟨a, rfl, acc, z1, z2⟩
        · cases z with | lst z1 z2 =>
          obtain ⟨v, ev, rv⟩ := z2.atI e
          exact .inl ⟨_, _, _, v, rfl, rfl, SqL.of (S.vw _ _ z1), ev, kval k S rv q⟩
        · obtain ⟨v, ev, rv⟩ := z2.atI e
          exact .inl ⟨_, _, _, v, rfl, rfl, SqL.of z1, ev, kval k S rv q⟩
      · obtain ⟨t, e, q⟩ := isS_e h
        rw [atL_eq] at e
        rcases z with z | ⟨a, rfl, z1⟩
        · cases z with | tup z1 z2 =>
          obtain ⟨v, ev, rv⟩ := z2.atI e
          exact .inr (.inl ⟨_, _, _, v, rfl, rfl, SqT.same z1 S.vw, ev, kval k S rv q⟩)
        · exact z1.elim
      · obtain ⟨t, e, q⟩ := isS_e h
        rw [atL_eq] at e
        rcases z with z | ⟨a, rfl, z1⟩
        · cases z with | scr z1 z2 =>
          obtain ⟨v, ev, rv⟩ := z2.atI e
          exact .inl ⟨_, _, _, v, rfl, rfl, SqL.same z1 S.vw, ev, kval k S rv q⟩
        · exact z1.elim
      · obtain ⟨hz, h⟩ := h
        obtain ⟨c, e, q⟩ := isS_e h
        rw [atL_eq] at e
        rcases z with z | ⟨a, rfl, z1⟩
        · cases z with | str _ ok =>
          exact .inr (.inr ⟨_, _, c, rfl, rfl, hz, e, kval k S (.str _ (strOk_at ok e)) q⟩)
        · exact z1.elim
      · exact h.elim
    · exact h.elim
end
/-- the number of items -/
def lenQ (x : T) (Q : Int → Prop) : Prop :=
  match x with
  | .lst ts => Q (ts.length : Int)
  | .tup ts => Q (ts.length : Int)
  | .scr ts => Q (ts.length : Int)
  | .str z => z.length ≤ sizeLine ∧ Q (z.length : Int)
  | _ => False
/-- one argument, looked at -/
def look1 (f : T → RQ → Env → Prop) : List Rf → VW := fun rs γ Q _ => match rs with
  | [r] => peek r γ fun t => f t Q γ
  | _ => False
def look2 (f : T → T → RQ → Env → Prop) : List Rf → VW := fun rs γ Q X => match rs with
  | [r, r2] => peek2 f r r2 γ Q X
  | _ => False
section
variable {K : PySem.W.Frag} {B : Bs} {E : L2.St → XK}
section
variable {as : List Addr} {γ : Env} {σ : L2.St} {G H : Hp} {rs : List Rf} {vs : List V}
theorem look1_ok {f : T → RQ → Env → Prop} {Q : RQ} {X : XQ} (S : StR K B as γ σ G H) (h1 : RRs K B.ex as G rs vs) (h : look1 f rs γ Q X) : ∃ v t, vs = [v] ∧ (Rp K G v t ∨ ∃ a, v = .ref a ∧ MutR K G H a t) ∧ f t Q γ := by
  unfold look1 at h
  split at h
  · cases h1 with | cons a b =>
    cases b
    obtain ⟨t, q, z⟩ := peek_ok S a h
    exact ⟨_, t, rfl, z, q⟩
  · exact h.elim
theorem rp_any {v : V} {t : T} (S : StR K B as γ σ G H) (z : Rp K G v t ∨ ∃ a, v = .ref a ∧ MutR K G H a t) : Rp K H v t := by
  rcases z with z | ⟨a, rfl, z⟩
  · exact z.mono S.vw
  · exact z.rpH S.vw
theorem look2_ok {f : T → T → RQ → Env → Prop} {Q : RQ} {X : XQ} (S : StR K B as γ σ G H) (h1 : RRs K B.ex as G rs vs) (h : look2 f rs γ Q X) : ∃ v u t s, vs = [v, u] ∧ (Rp K G v t ∨ ∃ a, v = .ref a ∧ MutR K G H a t) ∧ (Rp K G u s ∨ ∃ a, u = .ref a ∧ MutR K G H a s) ∧ f t s Q γ := by
  unfold look2 at h
  split at h
  · cases h1 with | cons a b =>
    cases b with | cons b c =>
    cases c
    obtain ⟨t, h, z⟩ := peek_ok S a h
    obtain ⟨s, h, z2⟩ := peek_ok S b h
    exact ⟨_, _, t, s, rfl, z, z2, h⟩
  · exact h.elim
end
def rLenU (K : PySem.W.Frag) : List V → Hp → VK → Prop := fun xs H Q => ∃ x n, xs = [x] ∧ LenV K x H n ∧ Q (.int n) H
theorem call_lenU {X : Cx} : CallR X (.builtin "len") (rLenU X.K) := call_len
def vLen : List Rf → VW := look1 fun t Q γ => lenQ t fun n => Q (.val (.int n)) γ
instance : VC K B E (rLenU K) vLen where
  run := fun {as γ σ G H vs rs Q Qv Xv} S r1 h k _ => by
    obtain ⟨v, t, rfl, z, h⟩ := look1_ok S r1 h
    have z := rp_any S z
    unfold lenQ at h
    split at h
    · cases z with | lst z1 z2 => exact ⟨_, _, rfl, .inl ⟨_, SqL.of z1, rfl⟩, by rw [z2.length]; exact kval k S (.int _) h⟩
    · cases z with | tup z1 z2 => exact ⟨_, _, rfl, .inr ⟨_, z1, rfl⟩, by rw [z2.length]; exact kval k S (.int _) h⟩
    · cases z with | scr z1 z2 => exact ⟨_, _, rfl, .inl ⟨_, z1, rfl⟩, by rw [z2.length]; exact kval k S (.int _) h⟩
    · cases z with | str _ ok => exact ⟨_, _, rfl, ⟨h.1, rfl⟩, kval k S (.int _) h.2⟩
    · exact h.elim
/-! ### other built-in calls -/
def rInt1 : List V → Hp → VK → Prop := fun xs H Q => (∃ i, xs = [.int i] ∧ Q (.int i) H) ∨ ∃ k, xs = [.bl k] ∧ Q (.int (if k then 1 else 0)) H
theorem call_intU {X : Cx} : CallR X (.type "int") rInt1 := call_int1
def vInt : List Rf → VW := look1 fun t Q γ => match t with
  | .int i => Q (.val (.int i)) γ
  | .bl b => Q (.val (.int (if b then 1 else 0))) γ
  | _ => False
instance : VC K B E rInt1 vInt where
  run := fun {as γ σ G H vs rs Q Qv Xv} S r1 h k _ => by
    obtain ⟨v, t, rfl, z, h⟩ := look1_ok S r1 h
    have z := rp_any S z
    split at h
    · cases z; exact .inl ⟨_, rfl, kval k S (.int _) h⟩
    · cases z; exact .inr ⟨_, rfl, kval k S (.int _) h⟩
    · exact h.elim
def rAbs : List V → Hp → VK → Prop := fun xs H Q => ∃ i, xs = [.int i] ∧ Q (.int (if i < 0 then -i else i)) H
theorem call_absU {X : Cx} : CallR X (.builtin "abs") rAbs := call_abs
def vAbs : List Rf → VW := look1 fun t Q γ => match t with
  | .int i => Q (.val (.int (if i < 0 then -i else i))) γ
  | _ => False
instance : VC K B E rAbs vAbs where
  run := fun {as γ σ G H vs rs Q Qv Xv} S r1 h k _ => by
    obtain ⟨v, t, rfl, z, h⟩ := look1_ok S r1 h
    have z := rp_any S z
    split at h
    · cases z; exact ⟨_, rfl, kval k S (.int _) h⟩
    · exact h.elim
def rMx : List V → Hp → VK → Prop := fun xs H Q => ∃ i j, xs = [.int i, .int j] ∧ Q (.int (if j > i then j else i)) H
def rMn : List V → Hp → VK → Prop := fun xs H Q => ∃ i j, xs = [.int i, .int j] ∧ Q (.int (if j < i then j else i)) H
theorem call_max2U {X : Cx} (hc : X.calm = true) : CallR X (.builtin "max") rMx := call_max2 hc
theorem call_min2U {X : Cx} (hc : X.calm = true) : CallR X (.builtin "min") rMn := call_min2 hc
def ints2 (f : Int → Int → Int) : List Rf → VW := look2 fun x y Q γ => match x, y with
  | .int i, .int j => Q (.val (.int (f i j))) γ
  | _, _ => False
instance : VC K B E rMx (ints2 fun i j => max i j) where
  run := fun {as γ σ G H vs rs Q Qv Xv} S r1 h k _ => by
    obtain ⟨v, u, t, s, rfl, z, z2, h⟩ := look2_ok S r1 h
    have z := rp_any S z
    have z2 := rp_any S z2
    split at h
    · cases z; cases z2
      refine ⟨_, _, rfl, ?_⟩
      rw [max_if, Int.max_comm]
      exact kval k S (.int _) (by rw [Int.max_comm]; exact h)
    · exact h.elim
instance : VC K B E rMn (ints2 fun i j => min i j) where
  run := fun {as γ σ G H vs rs Q Qv Xv} S r1 h k _ => by
    obtain ⟨v, u, t, s, rfl, z, z2, h⟩ := look2_ok S r1 h
    have z := rp_any S z
    have z2 := rp_any S z2
    split at h
    · cases z; cases z2
      refine ⟨_, _, rfl, ?_⟩
      rw [min_if, Int.min_comm]
      exact kval k S (.int _) (by rw [Int.min_comm]; exact h)
    · exact h.elim
def rGcdU : List V → Hp → VK → Prop := rGcd
instance : VC K B E rGcd (ints2 fun a b => ((Nat.gcd a.natAbs b.natAbs : Nat) : Int)) where
  run := fun {as γ σ G H vs rs Q Qv Xv} S r1 h k _ => by
    obtain ⟨v, u, t, s, rfl, z, z2, h⟩ := look2_ok S r1 h
    have z := rp_any S z
    have z2 := rp_any S z2
    split at h
    · cases z; cases z2
      exact ⟨_, _, rfl, kval k S (.int _) h⟩
    · exact h.elim
/-- str of an int -/
def rStrI : List V → Hp → VK → Prop := fun xs H Q => ∃ i, xs = [.int i] ∧ i.natAbs.log2 < 1920 ∧ Q (.str (toString i)) H
theorem call_strU {X : Cx} : CallR X (.type "str") rStrI := call_str_int
end
end VL
set_option Elab.async false
set_option linter.all false
set_option maxRecDepth 100000
set_option maxHeartbeats 4000000
/-! readings over values: displays, conversions, slices, texts, tests -/
namespace VL
open PySem PySem.Spec PyProof.Rows L2 XR
section
variable {K : PySem.W.Frag} {B : Bs} {E : L2.St → XK}
section
variable {as : List Addr} {γ : Env} {σ : L2.St} {G H : Hp} {Q : VK} {Qv : RQ} {p : Addr} {ts : List T} {vs : List V}
/-- a new list is given -/
theorem knew (k : KontP K B as σ G (rR K B) Q Qv) (S : StR K B as γ σ G H) (rp : RpAll K G vs ts) (h : Qv (.ref γ.mem.length) (γ.push (.mu (.lst ts)))) (hp : H p = none) : Q (.ref p) (L2.upd H p (.lst vs)) := by
  have S' := S.alloc (t := .lst ts) (o := .lst vs) hp ⟨vs, upd_same, rp⟩
  refine k (.ref γ.mem.length) _ _ _ G _ (List.prefix_append _ _) (Same.refl _) S' ⟨p, ?_, rfl⟩ h
  rw [← S.mlen, List.getElem?_append_right (Nat.le_refl _), Nat.sub_self]
  rfl
/-- a new tuple is given -/
theorem ktup (k : KontP K B as σ G (rR K B) Q Qv) (S : StR K B as γ σ G H) (rp : RpAll K G vs ts) (h : Qv (.val (.tup ts)) γ) (hp : H p = none) : Q (.ref p) (L2.upd H p (.tup vs)) := by
  obtain ⟨S', g⟩ := S.lay (o := .tup vs) hp
  exact k (.val (.tup ts)) _ _ _ _ _ (List.prefix_refl _) g S' (Rp.tup (SqT.of upd_same) (rp.mono g)) h
theorem ktupS (k : KontP K B as σ G (rR K B) Q Qv) (S : StR K B as γ σ G H) {a : Addr} (sq : SqT K G a vs) (rp : RpAll K G vs ts) (h : Qv (.val (.tup ts)) γ) : Q (.ref a) H :=
  kval k S (.tup sq rp) h
end
def Env.new (γ : Env) (t : T) (Q : RQ) : Prop := Q (.ref γ.mem.length) (γ.push (.mu t))
/-! ### argument lists, displays -/
def vNil : Env → (List Rf → Env → Prop) → XQ → Prop := fun γ Q _ => Q [] γ
def vCons (wa : VW) (wr : Env → (List Rf → Env → Prop) → XQ → Prop) : Env → (List Rf → Env → Prop) → XQ → Prop := fun γ Q X => wa γ (fun r γ1 => wr γ1 (fun rs γ2 => Q (r :: rs) γ2) X) X
instance : VA K B E tNil vNil := ⟨fun {as γ σ G H Q Qv Xv} S h k _ => k [] γ as [] G H (List.prefix_refl _) (Same.refl _) S .nil h⟩
instance {ta : TE} {tr : TA} {wa : VW} {wr : Env → (List Rf → Env → Prop) → XQ → Prop} [ha : VE K B E ta wa] [hr : VA K B E tr wr] : VA K B E (tCons ta tr) (vCons wa wr) where
  run := fun {as γ σ G H Q Qv Xv} S h k kx => by
    refine ha.run S h (fun r1 γ1 as1 v1 G1 H1 p1 g1 S1 rr1 q1 => ?_) kx
    refine hr.run S1 q1 (fun rs γ2 as2 vs G2 H2 p2 g2 S2 rr2 q2 => ?_) (kx.mono p1 g1)
    exact k _ _ _ _ _ _ (p1.trans p2) (g1.trans g2) S2 (.cons (RR.mono rr1 p2 g2) rr2) q2
/-- settled, one after another -/
def toTs : List Rf → Env → (List T → Env → Prop) → Prop
  | [], γ, Q => Q [] γ
  | r :: rs, γ, Q => toT r γ fun t γ1 => toTs rs γ1 fun ts γ2 => Q (t :: ts) γ2
theorem toTs_ok {as : List Addr} {σ : L2.St} {H : Hp} : ∀ {rs : List Rf} {vs : List V} {γ : Env} {G : Hp} {Q : List T → Env → Prop}, StR K B as γ σ G H → RRs K B.ex as G rs vs → toTs rs γ Q → ∃ ts γ' G', Same G G' ∧ StR K B as γ' σ G' H ∧ RpAll K G' vs ts ∧ Q ts γ'
  | _, _, γ, G, Q, S, .nil, h => ⟨[], γ, G, Same.refl _, S, .nil, h⟩
  | _, _, γ, G, Q, S, .cons a b, h => by
    obtain ⟨t, γ1, G1, g1, S1, rp1, h1⟩ := toT_ok S a h
    obtain ⟨ts, γ2, G2, g2, S2, rp2, h2⟩ := toTs_ok S1 (RRs.mono (List.prefix_refl _) g1 b) h1
    exact ⟨t :: ts, γ2, G2, g1.trans g2, S2, .cons (rp1.mono g2) rp2, h2⟩
def small (n : Nat) : Prop := n ≤ sizeLine
def vLst (wa : Env → (List Rf → Env → Prop) → XQ → Prop) : VW := fun γ Q X => wa γ (fun rs γ1 => toTs rs γ1 fun ts γ2 => small ts.length ∧ γ2.new (.lst ts) Q) X
def vTup (wa : Env → (List Rf → Env → Prop) → XQ → Prop) : VW := fun γ Q X => wa γ (fun rs γ1 => toTs rs γ1 fun ts γ2 => small ts.length ∧ Q (.val (.tup ts)) γ2) X
instance {t : TA} {wa : Env → (List Rf → Env → Prop) → XQ → Prop} [ha : VA K B E t wa] : VE K B E (tLst t) (vLst wa) where
  run := fun {as γ σ G H Q Qv Xv} S h k kx => by
    refine ha.run S h (fun rs γ1 as1 vs G1 H1 p1 g1 S1 rr1 q1 => ?_) kx
    obtain ⟨ts, γ2, G2, g2, S2, rp, hz, q⟩ := toTs_ok S1 rr1 q1
    exact ⟨by rw [rp.length]; exact hz, fun p hp => knew (k.mono p1 (g1.trans g2)) S2 rp q hp⟩
instance {t : TA} {wa : Env → (List Rf → Env → Prop) → XQ → Prop} [ha : VA K B E t wa] : VE K B E (tTup t) (vTup wa) where
  run := fun {as γ σ G H Q Qv Xv} S h k kx => by
    refine ha.run S h (fun rs γ1 as1 vs G1 H1 p1 g1 S1 rr1 q1 => ?_) kx
    obtain ⟨ts, γ2, G2, g2, S2, rp, hz, q⟩ := toTs_ok S1 rr1 q1
    exact ⟨by rw [rp.length]; exact hz, fun p hp => ktup (k.mono p1 (g1.trans g2)) S2 rp q hp⟩
/-! ### built-in calls of arguments -/
def vCB (wr : List Rf → VW) (wa : Env → (List Rf → Env → Prop) → XQ → Prop) : VW := fun γ Q X => wa γ (fun rs γ1 => wr rs γ1 Q X) X
instance {r : List V → Hp → VK → Prop} {wr : List Rf → VW} {t : TA} {wa : Env → (List Rf → Env → Prop) → XQ → Prop} [ha : VA K B E t wa] [hr : VC K B E r wr] : VE K B E (tCB r t) (vCB wr wa) where
  run := fun {as γ σ G H Q Qv Xv} S h k kx => by
    refine ha.run S h (fun rs γ1 as1 vs G1 H1 p1 g1 S1 rr1 q1 => ?_) kx
    exact hr.run S1 rr1 q1 (k.mono p1 g1) (kx.mono p1 g1)
/-- list(s), tuple(s) -/
def rListU (K : PySem.W.Frag) : List V → Hp → VK → Prop := fun xs H Q => ∃ p ys, xs = [.ref p] ∧ (SqL K H p ys ∨ SqT K H p ys) ∧ ∀ l, H l = none → Q (.ref l) (L2.upd H l (.lst ys))
def rTupU (K : PySem.W.Frag) : List V → Hp → VK → Prop := fun xs H Q => ∃ p ys, xs = [.ref p] ∧ ((SqL K H p ys ∧ ∀ l, H l = none → Q (.ref l) (L2.upd H l (.tup ys))) ∨ (SqT K H p ys ∧ Q (.ref p) H))
theorem call_listU {X : Cx} : CallR X (.type "list") (rListU X.K) := call_list_of
theorem call_tupU {X : Cx} : CallR X (.type "tuple") (rTupU X.K) := call_tuple_of
def vList : List Rf → VW := look1 fun t Q γ => seqT t fun _ ts => γ.new (.lst ts) Q
def vTuple : List Rf → VW := look1 fun t Q γ => seqT t fun _ ts => Q (.val (.tup ts)) γ
section
variable {as : List Addr} {γ : Env} {σ : L2.St} {G H : Hp} {v : V} {t : T}
theorem seq_any (S : StR K B as γ σ G H) {Q : Bool → List T → Prop} (z : Rp K G v t ∨ ∃ a, v = .ref a ∧ MutR K G H a t) (h : seqT t Q) : ∃ b ts a acc, v = .ref a ∧ SqK2 K H a acc b ∧ RpAll K G acc ts ∧ Q b ts ∧ (b = false → t = .tup ts ∧ SqT K G a acc) := by
  cases t with
  | lst ts =>
    rcases z with z | ⟨a, rfl, acc, z1, z2⟩
    · cases z with | lst z1 z2 => exact ⟨true, ts, _, _, rfl, SqL.of (S.vw _ _ z1), z2, h, fun e => by cases e⟩
    · exact ⟨true, ts, a, acc, rfl, SqL.of z1, z2, h, fun e => by cases e⟩
  | scr ts =>
    rcases z with z | ⟨a, rfl, z1⟩
    · cases z with | scr z1 z2 => exact ⟨true, ts, _, _, rfl, SqL.same z1 S.vw, z2, h, fun e => by cases e⟩
    · exact z1.elim
  | tup ts =>
    rcases z with z | ⟨a, rfl, z1⟩
    · cases z with | tup z1 z2 => exact ⟨false, ts, _, _, rfl, SqT.same z1 S.vw, z2, h, fun _ => ⟨rfl, z1⟩⟩
    · exact z1.elim
  | _ => exact h.elim
end
instance : VC K B E (rListU K) vList where
  run := fun {as γ σ G H vs rs Q Qv Xv} S r1 h k _ => by
    obtain ⟨v, t, rfl, z, h⟩ := look1_ok S r1 h
    obtain ⟨b, ts, a, acc, rfl, sq, rp, q, _⟩ := seq_any S z h
    exact ⟨a, acc, rfl, sq.or, fun l hl => knew k S rp q hl⟩
instance : VC K B E (rTupU K) vTuple where
  run := fun {as γ σ G H vs rs Q Qv Xv} S r1 h k _ => by
    obtain ⟨v, t, rfl, z, h⟩ := look1_ok S r1 h
    obtain ⟨b, ts, a, acc, rfl, sq, rp, q, hb⟩ := seq_any S z h
    cases b with
    | true => exact ⟨a, acc, rfl, .inl ⟨sq, fun l hl => ktup k S rp q hl⟩⟩
    | false =>
      obtain ⟨_, sg⟩ := hb rfl
      exact ⟨a, acc, rfl, .inr ⟨sq, ktupS k S sg rp q⟩⟩
/-! ### slices -/
def rSlU (K : PySem.W.Frag) : V → Option Int → Option Int → Hp → VK → Prop := fun x lo hi H Q => rSlL K x lo hi H Q ∨ rSlA K x lo hi H Q ∨ rSlS x lo hi H Q
theorem sl_any {X : Cx} : SlR X (rSlU X.K) := by
  intro pins s σ H x v vl vu lo hi sl Q I r hs hl hu h
  rcases h with h | h | h
  · exact sl_list pins s σ H x v vl vu lo hi sl Q I r hs hl hu h
  · exact sl_tupA pins s σ H x v vl vu lo hi sl Q I r hs hl hu h
  · exact sl_str pins s σ H x v vl vu lo hi sl Q I r hs hl hu h
def cutT (xs : List T) (lo hi : Option Int) : List T := (xs.drop (HT.sIx xs.length 0 lo)).take (HT.sIx xs.length xs.length hi - HT.sIx xs.length 0 lo)
theorem RpAll.cut {G : Hp} {vs : List V} {ts : List T} (h : RpAll K G vs ts) (lo hi : Option Int) : RpAll K G (cutV vs lo hi) (cutT ts lo hi) := by
  unfold cutV cutT
  rw [h.length]
  exact (h.drop _).take _
theorem cut_whole {α : Type} (ts : List α) {a b : Nat} (h : a = 0 ∧ b = ts.length) : (ts.drop a).take (b - a) = ts := by
  rw [h.1, h.2, List.drop_zero, Nat.sub_zero, List.take_length]
def vNoPart : Env → (Option Int → Env → Prop) → XQ → Prop := fun γ Q _ => Q none γ
def vPart (wa : VW) : Env → (Option Int → Env → Prop) → XQ → Prop := fun γ Q X => wa γ (fun r γ1 => peek r γ1 fun t => match t with
  | .int i => Q (some i) γ1
  | _ => False) X
class VO (K : PySem.W.Frag) (B : Bs) (E : L2.St → XK) (t : TO) (w : outParam (Env → (Option Int → Env → Prop) → XQ → Prop)) : Prop where
  run : ∀ {as : List Addr} {γ : Env} {σ : L2.St} {G H : Hp} {Q : Option Int → Hp → Prop} {Qv : Option Int → Env → Prop} {Xv : XQ}, StR K B as γ σ G H → w γ Qv Xv → KontP K B as σ G (fun _ _ _ a b => a = b) Q Qv → KontX K B as σ G (E σ) Xv → t σ H Q
instance : VO K B E tNoPart vNoPart := ⟨fun {as γ σ G H Q Qv Xv} S h k _ => k none γ as none G H (List.prefix_refl _) (Same.refl _) S rfl h⟩
instance {ta : TE} {wa : VW} [ha : VE K B E ta wa] : VO K B E (tPart ta) (vPart wa) where
  run := fun {as γ σ G H Q Qv Xv} S h k kx => by
    refine ha.run S h (fun r1 γ1 as1 v1 G1 H1 p1 g1 S1 rr1 q1 => ?_) kx
    obtain ⟨t, q, z⟩ := peek_rp S1 rr1 q1
    split at q
    · cases z; exact ⟨_, rfl, k _ _ _ _ _ _ p1 g1 S1 rfl q⟩
    · exact q.elim
def slQ (t : T) (lo hi : Option Int) (Q : RQ) (γ : Env) : Prop :=
  match t with
  | .lst ts => γ.new (.lst (cutT ts lo hi)) Q
  | .scr ts => γ.new (.lst (cutT ts lo hi)) Q
  | .tup ts => Q (.val (.tup (cutT ts lo hi))) γ
  | .str z => z.length ≤ sizeLine ∧ Q (.val (.str (cutS z lo hi))) γ
  | _ => False
def vSl (we : VW) (wl wh : Env → (Option Int → Env → Prop) → XQ → Prop) : VW := fun γ Q X => we γ (fun r γ1 => wl γ1 (fun lo γ2 => wh γ2 (fun hi γ3 => peek r γ3 fun t => slQ t lo hi Q γ3) X) X) X
theorem strOk_cut {z : Str} (h : PyData.strOk z = true) (lo hi : Option Int) : PyData.strOk (cutS z lo hi) = true := (okS.cut (n := z.length) ⟨h, Nat.le_refl _⟩ lo hi).1
instance {te : TE} {tl th : TO} {we : VW} {wl wh : Env → (Option Int → Env → Prop) → XQ → Prop} [he : VE K B E te we] [hl : VO K B E tl wl] [hh : VO K B E th wh] : VE K B E (tSl (rSlU K) te tl th) (vSl we wl wh) where
  run := fun {as γ σ G H Q Qv Xv} S h k kx => by
    refine he.run S h (fun r1 γ1 as1 v1 G1 H1 p1 g1 S1 rr1 q1 => ?_) kx
    refine hl.run S1 q1 (fun lo γ2 as2 lo' G2 H2 p2 g2 S2 e2 q2 => ?_) (kx.mono p1 g1)
    subst e2
    refine hh.run S2 q2 (fun hi γ3 as3 hi' G3 H3 p3 g3 S3 e3 q3 => ?_) ((kx.mono p1 g1).mono p2 g2)
    subst e3
    have k3 := ((k.mono p1 g1).mono p2 g2).mono p3 g3
    have rr := RR.mono rr1 (p2.trans p3) (g2.trans g3)
    obtain ⟨t, q, z⟩ := peek_ok S3 rr q3
    unfold slQ at q
    split at q
    · rcases z with z | ⟨a, rfl, acc, z1, z2⟩
      · cases z with | lst z1 z2 => exact .inl ⟨_, _, rfl, SqL.of (S3.vw _ _ z1), fun p hp => knew k3 S3 (z2.cut lo hi) q hp⟩
      · exact .inl ⟨_, _, rfl, SqL.of z1, fun p hp => knew k3 S3 (z2.cut lo hi) q hp⟩
    · rcases z with z | ⟨a, rfl, z1⟩
      · cases z with | scr z1 z2 => exact .inl ⟨_, _, rfl, SqL.same z1 S3.vw, fun p hp => knew k3 S3 (z2.cut lo hi) q hp⟩
      · exact z1.elim
    · rename_i ts
      rcases z with z | ⟨a, rfl, z1⟩
      · cases z with | tup z1 z2 =>
        refine .inr (.inl ⟨_, _, rfl, SqT.same z1 S3.vw, fun hw => ?_, fun _ p hp => ktup k3 S3 (z2.cut lo hi) q hp⟩)
        refine ktupS k3 S3 z1 z2 ?_
        have e : cutT ts lo hi = ts := by
          unfold cutT
          rw [z2.length] at hw
          exact cut_whole ts hw
        rw [e] at q
        exact q
      · exact z1.elim
    · rcases z with z | ⟨a, rfl, z1⟩
      · cases z with | str _ ok => exact .inr (.inr ⟨_, rfl, q.1, kval k3 S3 (.str _ (strOk_cut ok lo hi)) q.2⟩)
      · exact z1.elim
    · exact q.elim
/-- s[::-1] of a list -/
def vRevL (we : VW) : VW := fun γ Q X => we γ (fun r γ1 => peek r γ1 fun t => match t with
  | .lst ts => γ1.new (.lst ts.reverse) Q
  | _ => False) X
instance {te : TE} {we : VW} [he : VE K B E te we] : VE K B E (tRevL K te) (vRevL we) where
  run := fun {as γ σ G H Q Qv Xv} S h k kx => by
    refine he.run S h (fun r1 γ1 as1 v1 G1 H1 p1 g1 S1 rr1 q1 => ?_) kx
    have k1 := k.mono p1 g1
    obtain ⟨t, q, z⟩ := peek_ok S1 rr1 q1
    split at q
    · rcases z with z | ⟨a, rfl, acc, z1, z2⟩
      · cases z with | lst z1 z2 => exact ⟨_, _, rfl, SqL.of (S1.vw _ _ z1), fun p hp => knew k1 S1 z2.reverse q hp⟩
      · exact ⟨_, _, rfl, SqL.of z1, fun p hp => knew k1 S1 z2.reverse q hp⟩
    · exact q.elim
/-! ### + and * of lists, tuples, texts -/
def rAddU (K : PySem.W.Frag) : R2 := fun x y H Q => (∃ i j, x = .int i ∧ y = .int j ∧ Q (.int (i + j)) H) ∨ rCat x y H Q ∨ rCatA K x y H Q ∨ (∃ i j, x = .str i ∧ y = .str j ∧ i.length + j.length ≤ sizeLine ∧ Q (.str (i ++ j)) H)
theorem op_addU {X : Cx} : OpR X (binaryOp .Add) (rAddU X.K) := by
  intro pins s σ H x y v u Q I rx ry h
  rcases h with ⟨i, j, e1, e2, q⟩ | h | h | h
  · exact op_add pins s σ H x y v u Q I rx ry ⟨i, j, e1, e2, q⟩
  · exact op_cat pins s σ H x y v u Q I rx ry h
  · exact op_catA pins s σ H x y v u Q I rx ry h
  · exact op_add_str pins s σ H x y v u Q I rx ry h
def addQ (x y : T) (Q : RQ) (γ : Env) : Prop :=
  match x with
  | .int i => match y with
    | .int j => Q (.val (.int (i + j))) γ
    | _ => False
  | .lst ts => match y with
    | .lst us => small (ts.length + us.length) ∧ γ.new (.lst (ts ++ us)) Q
    | _ => False
  | .tup ts => match y with
    | .tup us => small (ts.length + us.length) ∧ Q (.val (.tup (ts ++ us))) γ
    | _ => False
  | .str i => match y with
    | .str j => small (i.length + j.length) ∧ Q (.val (.str (i ++ j))) γ
    | _ => False
  | _ => False
def vAdd : Rf → Rf → VW := peek2 addQ
theorem strOk_app {a b : Str} (h : PyData.strOk a = true) (k : PyData.strOk b = true) : PyData.strOk (a ++ b) = true := (okS.add (n := a.length) (m := b.length) ⟨h, Nat.le_refl _⟩ ⟨k, Nat.le_refl _⟩).1
section
variable {as : List Addr} {γ : Env} {σ : L2.St} {G H : Hp} {r1 r2 : Rf} {x y : V}
theorem peek2_ok {f : T → T → RQ → Env → Prop} {Q : RQ} {X : XQ} (S : StR K B as γ σ G H) (h1 : RR K B.ex as G r1 x) (h2 : RR K B.ex as G r2 y) (h : peek2 f r1 r2 γ Q X) : ∃ t u, (Rp K G x t ∨ ∃ a, x = .ref a ∧ MutR K G H a t) ∧ (Rp K G y u ∨ ∃ a, y = .ref a ∧ MutR K G H a u) ∧ f t u Q γ := by
  obtain ⟨t, h, e1⟩ := peek_ok S h1 h
  obtain ⟨u, h, e2⟩ := peek_ok S h2 h
  exact ⟨t, u, e1, e2, h⟩
theorem lst_any {ts : List T} (S : StR K B as γ σ G H) (z : Rp K G x (.lst ts) ∨ ∃ a, x = .ref a ∧ MutR K G H a (.lst ts)) : ∃ a acc, x = .ref a ∧ H a = some (.lst acc) ∧ RpAll K G acc ts := by
  rcases z with z | ⟨a, rfl, acc, z1, z2⟩
  · cases z with | lst z1 z2 => exact ⟨_, _, rfl, S.vw _ _ z1, z2⟩
  · exact ⟨_, _, rfl, z1, z2⟩
theorem tup_any {ts : List T} (z : Rp K G x (.tup ts) ∨ ∃ a, x = .ref a ∧ MutR K G H a (.tup ts)) : ∃ a acc, x = .ref a ∧ SqT K G a acc ∧ RpAll K G acc ts := by
  rcases z with z | ⟨a, rfl, z1⟩
  · cases z with | tup z1 z2 => exact ⟨_, _, rfl, z1, z2⟩
  · exact z1.elim
theorem int_any {i : Int} (z : Rp K G x (.int i) ∨ ∃ a, x = .ref a ∧ MutR K G H a (.int i)) : x = .int i := by
  rcases z with z | ⟨a, rfl, z1⟩
  · cases z; rfl
  · exact z1.elim
theorem str_any {i : Str} (z : Rp K G x (.str i) ∨ ∃ a, x = .ref a ∧ MutR K G H a (.str i)) : x = .str i ∧ PyData.strOk i = true := by
  rcases z with z | ⟨a, rfl, z1⟩
  · cases z with | str _ ok => exact ⟨rfl, ok⟩
  · exact z1.elim
theorem bl_any {i : Bool} (z : Rp K G x (.bl i) ∨ ∃ a, x = .ref a ∧ MutR K G H a (.bl i)) : x = .bl i := by
  rcases z with z | ⟨a, rfl, z1⟩
  · cases z; rfl
  · exact z1.elim
end
instance : V2 K B E (rAddU K) vAdd where
  run := fun {as γ σ G H x y rx ry Q Qv Xv} S r1 r2 h k _ => by
    obtain ⟨t, u, z1, z2, h⟩ := peek2_ok S r1 r2 h
    unfold addQ at h
    split at h
    · split at h
      · exact .inl ⟨_, _, int_any z1, int_any z2, kval k S (.int _) h⟩
      · exact h.elim
    · split at h
      · obtain ⟨a, xs, rfl, e1, p1⟩ := lst_any S z1
        obtain ⟨b, ys, rfl, e2, p2⟩ := lst_any S z2
        exact .inr (.inl ⟨a, b, xs, ys, rfl, rfl, e1, e2, by rw [p1.length, p2.length]; exact h.1, fun p hp => knew k S (p2.append p1) h.2 hp⟩)
      · exact h.elim
    · split at h
      · obtain ⟨a, xs, rfl, e1, p1⟩ := tup_any z1
        obtain ⟨b, ys, rfl, e2, p2⟩ := tup_any z2
        refine .inr (.inr (.inl ⟨a, b, xs, ys, rfl, rfl, SqT.same e1 S.vw, SqT.same e2 S.vw, by rw [p1.length, p2.length]; exact h.1, fun e => ?_, fun _ e => ?_, fun _ _ p hp => ktup k S (p2.append p1) h.2 hp⟩))
        · subst e
          cases p1
          exact ktupS k S e2 p2 h.2
        · subst e
          cases p2
          have q := h.2
          rw [List.append_nil] at q
          exact ktupS k S e1 p1 q
      · exact h.elim
    · split at h
      · obtain ⟨rfl, o1⟩ := str_any z1
        obtain ⟨rfl, o2⟩ := str_any z2
        exact .inr (.inr (.inr ⟨_, _, rfl, rfl, h.1, kval k S (.str _ (strOk_app o1 o2)) h.2⟩))
      · exact h.elim
    · exact h.elim
/-- [..] * n -/
def vRep : Rf → Rf → VW := peek2 fun x y Q γ => match x with
  | .lst ts => match y with
    | .int n => (-(2 ^ 63) ≤ n ∧ n < 2 ^ 63 ∧ small (ts.length * n.toNat)) ∧ γ.new (.lst (List.replicate n.toNat ts).flatten) Q
    | _ => False
  | _ => False
end
section
variable {K : PySem.W.Frag} {B : Bs} {E : L2.St → XK}
instance (priority := 3000) eqNilI {ta : TE} {wa wb : VW} [ha : VE K B E ta wa] [hb : VE K B E (tLst tNil) wb] : VE K B E (tOp (rEqD K) ta (tLst tNil)) (vOp (vEqN false) wa wb) :=
  have := v2_eqN (K := K) (B := B) (E := E)
  inferInstanceAs (VE K B E (tOp (rEqD K) ta (tLst tNil)) (vOp (vEqN false) wa wb))
instance (priority := 3000) neNilI {ta : TE} {wa wb : VW} [ha : VE K B E ta wa] [hb : VE K B E (tLst tNil) wb] : VE K B E (tOp (rNeD K) ta (tLst tNil)) (vOp (vEqN true) wa wb) :=
  have := v2_neN (K := K) (B := B) (E := E)
  inferInstanceAs (VE K B E (tOp (rNeD K) ta (tLst tNil)) (vOp (vEqN true) wa wb))
end
end VL
set_option Elab.async false
set_option linter.all false
set_option maxRecDepth 100000
set_option maxHeartbeats 4000000
/-! readings over values: more operators, texts, isinstance, fields, tests -/
namespace VL
open PySem PySem.Spec PyProof.Rows L2 XR
section
variable {K : PySem.W.Frag} {B : Bs} {E : L2.St → XK}
/-! ### * of lists and texts -/
def rMulU (K : PySem.W.Frag) : R2 := fun x y H Q => (∃ i j, x = .int i ∧ y = .int j ∧ (CMul i j ∨ CMulW i j) ∧ Q (.int (i * j)) H) ∨ rRep x y H Q ∨ rMulS x y H Q
theorem op_mulU {X : Cx} : OpR X (binaryOp .Mult) (rMulU X.K) := by
  intro pins s σ H x y v u Q I rx ry h
  rcases h with ⟨i, j, e1, e2, c, q⟩ | h | h
  · rcases c with c | c
    · exact op_mul pins s σ H x y v u Q I rx ry ⟨i, j, e1, e2, c, q⟩
    · exact op_mulW pins s σ H x y v u Q I rx ry ⟨i, j, e1, e2, c, q⟩
  · exact op_rep pins s σ H x y v u Q I rx ry h
  · exact op_mul_str pins s σ H x y v u Q I rx ry h
def mulQ (x y : T) (Q : RQ) (γ : Env) : Prop :=
  match x with
  | .int i => match y with
    | .int j => (CMul i j ∨ CMulW i j) ∧ Q (.val (.int (i * j))) γ
    | _ => False
  | .lst ts => match y with
    | .int n => (-(2 ^ 63) ≤ n ∧ n < 2 ^ 63 ∧ ts.length * n.toNat ≤ sizeLine) ∧ γ.new (.lst (List.replicate n.toNat ts).flatten) Q
    | _ => False
  | .str z => match y with
    | .int n => (1 ≤ n ∧ n ≤ 30 ∧ z.length ≤ 30) ∧ Q (.val (.str (mulS z n))) γ
    | _ => False
  | _ => False
def vMul : Rf → Rf → VW := peek2 mulQ
theorem strOk_empty : PyData.strOk Str.empty = true := by decide +kernel
theorem strOk_mul {a : Str} (h : PyData.strOk a = true) (n : Int) : PyData.strOk (mulS a n) = true := by
  have h : a.cps.all (fun c => decide (c < 0x110000)) = true := h
  unfold mulS
  split
  · exact strOk_empty
  · split
    · exact h
    · exact fold_all (fun c => decide (c < 0x110000)) a.cps h _ _ (by simp)
instance : V2 K B E (rMulU K) vMul where
  run := fun {as γ σ G H x y rx ry Q Qv Xv} S r1 r2 h k _ => by
    obtain ⟨t, u, z1, z2, h⟩ := peek2_ok S r1 r2 h
    unfold mulQ at h
    split at h
    · split at h
      · exact .inl ⟨_, _, int_any z1, int_any z2, h.1, kval k S (.int _) h.2⟩
      · exact h.elim
    · split at h
      · obtain ⟨a, xs, rfl, e1, p1⟩ := lst_any S z1
        refine .inr (.inl ⟨a, _, xs, rfl, int_any z2, e1, h.1.1, h.1.2.1, by rw [p1.length]; exact h.1.2.2, fun p hp => knew k S (p1.rep _) h.2 hp⟩)
      · exact h.elim
    · split at h
      · obtain ⟨rfl, o1⟩ := str_any z1
        exact .inr (.inr ⟨_, _, rfl, int_any z2, h.1.1, h.1.2.1, h.1.2.2, kval k S (.str _ (strOk_mul o1 _)) h.2⟩)
      · exact h.elim
    · exact h.elim
/-! ### texts of numbers, f-strings -/
theorem strOk_digits {s : String} (h : ∀ c ∈ s.toList, c.toNat < 0x110000) : PyData.strOk (Str.ofString s) = true := by
  have e : (Str.ofString s).cps = (s.toList.map Char.toNat).toArray := by rw [Str.ofString_eq_toList]
  show (Str.ofString s).cps.all _ = true
  rw [e]
  simp only [List.all_toArray, List.all_map, List.all_eq_true, Function.comp_apply, decide_eq_true_eq]
  intro c hc
  exact h c hc
theorem strOk_of (s : String) : PyData.strOk (Str.ofString s) = true := strOk_digits fun c _ => by
  have := c.valid
  have h : c.toNat < 0x110000 := by
    rcases this with z | z
    · have : c.toNat < 0xd800 := z
      omega
    · exact z.2
  exact h
theorem strOk_int (i : Int) : PyData.strOk (toString i : String) = true := strOk_of _
def vStrI : List Rf → VW := look1 fun t Q γ => match t with
  | .int i => i.natAbs.log2 < 1920 ∧ Q (.val (.str (toString i : String))) γ
  | _ => False
instance : VC K B E rStrI vStrI where
  run := fun {as γ σ G H vs rs Q Qv Xv} S r1 h k _ => by
    obtain ⟨v, t, rfl, z, h⟩ := look1_ok S r1 h
    split at h
    · rw [int_any z]
      exact ⟨_, rfl, h.1, kval k S (.str _ (strOk_int _)) h.2⟩
    · exact h.elim
def vFmt (wa : VW) : VW := fun γ Q X => wa γ (fun r γ1 => peek r γ1 fun t => match t with
  | .int i => i.natAbs.log2 < 1920 ∧ Q (.val (.str (toString i : String))) γ1
  | .str y => small y.length ∧ Q (.val (.str y)) γ1
  | _ => False) X
instance {te : TE} {wa : VW} [ha : VE K B E te wa] : VE K B E (tFmt te) (vFmt wa) where
  run := fun {as γ σ G H Q Qv Xv} S h k kx => by
    refine ha.run S h (fun r1 γ1 as1 v1 G1 H1 p1 g1 S1 rr1 q1 => ?_) kx
    obtain ⟨t, q, z⟩ := peek_ok S1 rr1 q1
    have k1 := k.mono p1 g1
    split at q
    · exact .inr ⟨_, int_any z, q.1, kval k1 S1 (.str _ (strOk_int _)) q.2⟩
    · obtain ⟨rfl, o⟩ := str_any z
      exact .inl ⟨_, rfl, q.1, kval k1 S1 (.str _ o) q.2⟩
    · exact q.elim
class VJ (K : PySem.W.Frag) (B : Bs) (E : L2.St → XK) (ts : List TE) (w : outParam (Str → Env → (Str → Env → Prop) → XQ → Prop)) : Prop where
  run : ∀ {as : List Addr} {γ : Env} {σ : L2.St} {G H : Hp} {acc : Str} {Q : Str → Hp → Prop} {Qv : Str → Env → Prop} {Xv : XQ}, StR K B as γ σ G H → PyData.strOk acc = true → w acc γ Qv Xv → KontP K B as σ G (fun _ _ _ a b => a = b ∧ PyData.strOk a = true) Q Qv → KontX K B as σ G (E σ) Xv → tJs ts acc σ H Q
def vJnil : Str → Env → (Str → Env → Prop) → XQ → Prop := fun acc γ Q _ => Q acc γ
def vJcons (wa : VW) (wr : Str → Env → (Str → Env → Prop) → XQ → Prop) : Str → Env → (Str → Env → Prop) → XQ → Prop := fun acc γ Q X => wa γ (fun r γ1 => peek r γ1 fun t => match t with
  | .str y => small (acc ++ y).length ∧ wr (acc ++ y) γ1 Q X
  | _ => False) X
instance : VJ K B E [] vJnil := ⟨fun {as γ σ G H acc Q Qv Xv} S o h k _ => k acc γ as acc G H (List.prefix_refl _) (Same.refl _) S ⟨rfl, o⟩ h⟩
instance {t : TE} {ts : List TE} {wa : VW} {wr : Str → Env → (Str → Env → Prop) → XQ → Prop} [ha : VE K B E t wa] [hr : VJ K B E ts wr] : VJ K B E (t :: ts) (vJcons wa wr) where
  run := fun {as γ σ G H acc Q Qv Xv} S o h k kx => by
    refine ha.run S h (fun r1 γ1 as1 v1 G1 H1 p1 g1 S1 rr1 q1 => ?_) kx
    obtain ⟨t, q, z⟩ := peek_ok S1 rr1 q1
    split at q
    · obtain ⟨rfl, o2⟩ := str_any z
      exact ⟨_, rfl, q.1, hr.run S1 (strOk_app o o2) q.2 (k.mono p1 g1) (kx.mono p1 g1)⟩
    · exact q.elim
def tJoin (ts : List TE) : TE := fun σ H Q => tJs ts Str.empty σ H fun out H1 => Q (.str out) H1
theorem pe_joinedU {X : Cx} {v1 v2 : Expr} {rest : List Expr} {ts : List TE} {pos : Pos} (h : PJ X (v1 :: v2 :: rest) ts) : PE X (.JoinedStr (v1 :: v2 :: rest) pos) (tJoin ts) := pe_joined h
def vJoin (wr : Str → Env → (Str → Env → Prop) → XQ → Prop) : VW := fun γ Q X => wr Str.empty γ (fun out γ1 => Q (.val (.str out)) γ1) X
instance {ts : List TE} {wr : Str → Env → (Str → Env → Prop) → XQ → Prop} [hr : VJ K B E ts wr] : VE K B E (tJoin ts) (vJoin wr) where
  run := fun {as γ σ G H Q Qv Xv} S h k kx => by
    refine hr.run S strOk_empty h (fun out γ1 as1 out' G1 H1 p1 g1 S1 e q1 => ?_) kx
    obtain ⟨rfl, o⟩ := e
    exact kval (k.mono p1 g1) S1 (.str _ o) q1
/-! ### isinstance -/
/-- the class of a value -/
inductive TyR (K : PySem.W.Frag) : T → Value → Prop
  | non : TyR K .non (.type "NoneType")
  | bl (b : Bool) : TyR K (.bl b) (.type "bool")
  | int (i : Int) : TyR K (.int i) (.type "int")
  | str (s : Str) : TyR K (.str s) (.type "str")
  | lst (ts : List T) : TyR K (.lst ts) (.type "list")
  | tup (ts : List T) : TyR K (.tup ts) (.type "tuple")
  | dk (ts : List (Key × T)) : TyR K (.dk ts) (.type "dict")
  | obj {C : Addr} {gs : List (Str × T)} (h : ∀ (H : Hp) (a dx : Addr) (fs : List (Str × V)), H a = some (.ins C dx fs) → TyX K H (.ref a) (.ref C)) : TyR K (.obj C gs) (.ref C)
inductive ClR : T → Value → Prop
  | ty (n : String) : ClR (.ty n) (.type n)
  | cls (a : Addr) : ClR (.cls a) (.ref a)
/-- isinstance(x, c) is b -/
inductive IsI (K : PySem.W.Frag) (x c : T) (b : Bool) : Prop
  | mk (t u : Value) (h1 : TyR K x t) (h2 : ClR c u) (h3 : PySem.W.kitOne K t u = some b) : IsI K x c b
section
variable {H : Hp} {v : V} {t : T} {u : Value}
theorem TyR.ok (h : TyR K t u) (r : Rp K H v t) : TyX K H v u := by
  cases h with
  | non => cases r; exact .base .non
  | bl b => cases r; exact .base (.bl b)
  | int i => cases r; exact .base (.int i)
  | str s => cases r; exact .base (.str s)
  | lst ts => cases r with | lst e _ => exact .base (.lst e)
  | tup ts =>
    cases r with | tup e _ =>
    rcases e with (e | ⟨o, e⟩) | ⟨o, its, n, e, c, _⟩
    · exact .base (.tup e)
    · exact .fTuple e
    · exact .kTuple e c
  | dk ts => cases r with | dk e _ _ => exact .base (.dK e)
  | obj h => cases r with | obj e _ _ => exact h _ _ _ _ e
theorem ClR.ok (h : ClR t u) (r : Rp K H v t) : ClsV v u := by
  cases h with
  | ty n => cases r; exact .ty n
  | cls a => cases r; exact .own a
end
def vIsi : List Rf → VW := look2 fun x c Q γ => ∃ b, isI x c = some b ∧ Q (.val (.bl b)) γ
where isI (x c : T) : Option Bool := none
def vIsiK (K : PySem.W.Frag) : List Rf → VW := look2 fun x c Q γ => ∃ b, IsI K x c b ∧ Q (.val (.bl b)) γ
instance : VC K B E (rIsi K) (vIsiK K) where
  run := fun {as γ σ G H vs rs Q Qv Xv} S r1 h k _ => by
    obtain ⟨v, u, t, s, rfl, z1, z2, h⟩ := look2_ok S r1 h
    obtain ⟨b, ⟨t', u', h1, h2, h3⟩, q⟩ := h
    exact ⟨_, _, _, _, b, rfl, h2.ok (rp_any S z2), h1.ok (rp_any S z1), h3, kval k S (.bl _) q⟩
theorem IsI.b {x : T} {a n : String} {b : Bool} (h : TyR K x (.type a)) (e : kitB a n = some b) : IsI K x (.ty n) b := ⟨_, _, h, .ty n, kit_ty e⟩
theorem IsI.int_int (i : Int) : IsI K (.int i) (.ty "int") true := .b (.int i) (by decide +kernel)
theorem IsI.int_bool (i : Int) : IsI K (.int i) (.ty "bool") false := .b (.int i) (by decide +kernel)
theorem IsI.int_str (i : Int) : IsI K (.int i) (.ty "str") false := .b (.int i) (by decide +kernel)
theorem IsI.int_list (i : Int) : IsI K (.int i) (.ty "list") false := .b (.int i) (by decide +kernel)
theorem IsI.int_tuple (i : Int) : IsI K (.int i) (.ty "tuple") false := .b (.int i) (by decide +kernel)
theorem IsI.bl_int (i : Bool) : IsI K (.bl i) (.ty "int") true := .b (.bl i) (by decide +kernel)
theorem IsI.bl_bool (i : Bool) : IsI K (.bl i) (.ty "bool") true := .b (.bl i) (by decide +kernel)
theorem IsI.bl_str (i : Bool) : IsI K (.bl i) (.ty "str") false := .b (.bl i) (by decide +kernel)
theorem IsI.str_str (i : Str) : IsI K (.str i) (.ty "str") true := .b (.str i) (by decide +kernel)
theorem IsI.str_int (i : Str) : IsI K (.str i) (.ty "int") false := .b (.str i) (by decide +kernel)
theorem IsI.str_bool (i : Str) : IsI K (.str i) (.ty "bool") false := .b (.str i) (by decide +kernel)
theorem IsI.lst_list (i : List T) : IsI K (.lst i) (.ty "list") true := .b (.lst i) (by decide +kernel)
theorem IsI.lst_tuple (i : List T) : IsI K (.lst i) (.ty "tuple") false := .b (.lst i) (by decide +kernel)
theorem IsI.tup_list (i : List T) : IsI K (.tup i) (.ty "list") false := .b (.tup i) (by decide +kernel)
theorem IsI.tup_tuple (i : List T) : IsI K (.tup i) (.ty "tuple") true := .b (.tup i) (by decide +kernel)
theorem IsI.tup_str (i : List T) : IsI K (.tup i) (.ty "str") false := .b (.tup i) (by decide +kernel)
theorem IsI.tup_int (i : List T) : IsI K (.tup i) (.ty "int") false := .b (.tup i) (by decide +kernel)
theorem IsI.non_int : IsI K .non (.ty "int") false := .b .non (by decide +kernel)
theorem IsI.non_tuple : IsI K .non (.ty "tuple") false := .b .non (by decide +kernel)
theorem IsI.non_list : IsI K .non (.ty "list") false := .b .non (by decide +kernel)
theorem IsI.non_str : IsI K .non (.ty "str") false := .b .non (by decide +kernel)
theorem IsI.dk_dict (i : List (Key × T)) : IsI K (.dk i) (.ty "dict") true := .b (.dk i) (by decide +kernel)
/-- of an instance: by what the classes say -/
theorem IsI.obj {C : Addr} {gs : List (Str × T)} {c : T} {u : Value} {b : Bool} (h : ∀ (H : Hp) (a dx : Addr) (fs : List (Str × V)), H a = some (.ins C dx fs) → TyX K H (.ref a) (.ref C)) (k : ClR c u) (e : PySem.W.kitOne K (.ref C) u = some b) : IsI K (.obj C gs) c b := ⟨_, _, .obj h, k, e⟩
/-- isinstance(x, (c1, c2, ..)) -/
inductive IsIs (K : PySem.W.Frag) (x : T) : List T → Bool → Prop
  | nil (t : Value) (h : TyR K x t) : IsIs K x [] false
  | yes {c : T} {cs : List T} (h : IsI K x c true) (k : ∃ us, Paired ClR cs us) : IsIs K x (c :: cs) true
  | no {c : T} {cs : List T} {b : Bool} (h : IsI K x c false) (k : IsIs K x cs b) : IsIs K x (c :: cs) b
/-! ### fields -/
def vFld (K : PySem.W.Frag) (f : Str) (wa : VW) : VW := fun γ Q X => wa γ (fun r γ1 => peek r γ1 fun t => match t with
  | .obj C gs => (Cls K C ∧ NoAttr K C f) ∧ isS (gs.lookup f) fun t => Q (.val t) γ1
  | _ => False) X
theorem lookup_rp {G : Hp} {f : Str} {t : T} : ∀ {fs : List (Str × V)} {gs : List (Str × T)}, RpF K G fs gs → gs.lookup f = some t → ∃ v, fs.lookup f = some v ∧ Rp K G v t
  | fs, [], _, e => by cases e
  | [], g :: gs, h, e => by have := h.1; cases this
  | (n, v) :: fs, (m, u) :: gs, h, e => by
    have h1 := h.1
    simp only [List.map_cons, List.cons.injEq] at h1
    obtain ⟨rfl, h1⟩ := h1
    have h2 := h.2
    cases h2 with | cons a b =>
    unfold List.lookup at e ⊢
    cases hb : f == n with
    | true => rw [hb] at e; cases e; exact ⟨v, rfl, a⟩
    | false => rw [hb] at e; exact lookup_rp ⟨h1, b⟩ e
instance {f : Str} {ta : TE} {wa : VW} [ha : VE K B E ta wa] : VE K B E (tFld K ta f) (vFld K f wa) where
  run := fun {as γ σ G H Q Qv Xv} S h k kx => by
    refine ha.run S h (fun r1 γ1 as1 v1 G1 H1 p1 g1 S1 rr1 q1 => ?_) kx
    obtain ⟨t, q, z⟩ := peek_ok S1 rr1 q1
    split at q
    · obtain ⟨⟨c1, c2⟩, q⟩ := q
      obtain ⟨t, e, q⟩ := isS_e q
      rcases z with z | ⟨a, rfl, dx, fs, z1, z2⟩
      · cases z with | obj z1 z2 z3 =>
        obtain ⟨v, ev, rv⟩ := lookup_rp ⟨z2, z3⟩ e
        exact ⟨_, _, _, _, v, rfl, S1.vw _ _ z1, c1, c2, ev, kval (k.mono p1 g1) S1 rv q⟩
      · obtain ⟨v, ev, rv⟩ := lookup_rp z2 e
        exact ⟨_, _, _, _, v, rfl, z1, c1, c2, ev, kval (k.mono p1 g1) S1 rv q⟩
    · exact q.elim
/-! ### tests -/
/-- by a bool -/
def br (c : Bool) (P Q : Prop) : Prop := match c with
  | true => P
  | false => Q
theorem br_i {c : Bool} {P Q : Prop} (h1 : c = true → P) (h2 : c = false → Q) : br c P Q := by
  cases c
  · exact h2 rfl
  · exact h1 rfl
theorem br_e {c : Bool} {P Q : Prop} (h : br c P Q) : if c = true then P else Q := by
  cases c <;> exact h
def vTest (we : VW) : Env → (Bool → Env → Prop) → XQ → Prop := fun γ Q X => we γ (fun r γ1 => peek r γ1 fun t => match t with
  | .bl b => Q b γ1
  | _ => False) X
section
variable {te : TE} {we : VW} [he : VE K B E te we]
theorem vtest_run {as : List Addr} {γ : Env} {σ : L2.St} {G H : Hp} {Q : Bool → Hp → Prop} {Qv : Bool → Env → Prop} {Xv : XQ} (S : StR K B as γ σ G H) (h : vTest we γ Qv Xv) (k : KontP K B as σ G rB Q Qv) (kx : KontX K B as σ G (E σ) Xv) : te σ H fun x H' => ∃ b, x = .bl b ∧ Q b H' := by
  refine he.run S h (fun r1 γ1 as1 v1 G1 H1 p1 g1 S1 rr1 q1 => ?_) kx
  obtain ⟨t, q, z⟩ := peek_ok S1 rr1 q1
  split at q
  · exact ⟨_, bl_any z, k _ _ _ _ _ _ p1 g1 S1 rfl q⟩
  · exact q.elim
instance : VT K B E (tTest te) (vTest we) := ⟨fun S h k kx => vtest_run S h k kx⟩
instance : VT K B E (tB te) (vTest we) := ⟨fun S h k kx => vtest_run S h k kx⟩
end
/-- the value's truth -/
def truQ (t : T) (Q : Bool → Prop) : Prop :=
  match t with
  | .bl b => Q b
  | .non => Q false
  | .int i => Q (i != 0)
  | .str y => small y.length ∧ Q ((y.length : Int) != 0)
  | .lst ts => Q (!ts.isEmpty)
  | .tup ts => Q (!ts.isEmpty)
  | .scr ts => Q (!ts.isEmpty)
  | .dk ks => Q (!ks.isEmpty)
  | _ => False
def tTru (K : PySem.W.Frag) (ta : TE) : TT := fun σ H Q => ta σ H fun x H' => ∃ k, TruV K x H' k ∧ Q k H'
theorem pt_tru {X : Cx} {a : Expr} {ta : TE} (ha : PE X a ta) (he : ∀ whole, isTrue a X.env whole = (do let v ← whole; standAt a.pos; holding [v] (truthy v))) : PT X a (tTru X.K ta) := pt_truth ha he
theorem RpAll.emp {G : Hp} {vs : List V} {ts : List T} (h : RpAll K G vs ts) : vs.isEmpty = ts.isEmpty := by cases h <;> rfl
theorem tru_rp {H : Hp} {v : V} {t : T} {Q : Bool → Prop} (h : truQ t Q) (r : Rp K H v t) : ∃ k, TruV K v H k ∧ Q k := by
  cases r with
  | non => exact ⟨_, rfl, h⟩
  | bl b => exact ⟨_, rfl, h⟩
  | int i => exact ⟨_, rfl, h⟩
  | str s o => exact ⟨_, ⟨h.1, rfl⟩, h.2⟩
  | lst e a => exact ⟨_, .inl ⟨_, SqL.of e, rfl⟩, by rw [a.emp]; exact h⟩
  | scr e a => exact ⟨_, .inl ⟨_, e, rfl⟩, by rw [a.emp]; exact h⟩
  | tup e a => exact ⟨_, .inr (.inl ⟨_, e, rfl⟩), by rw [a.emp]; exact h⟩
  | @dk a kvs ks e e2 a2 =>
    refine ⟨_, .inr (.inr ⟨_, e, rfl⟩), ?_⟩
    have : kvs.isEmpty = ks.isEmpty := by
      have := congrArg List.isEmpty e2
      simpa using this
    rw [this]
    exact h
  | _ => exact h.elim
def vTru (we : VW) : Env → (Bool → Env → Prop) → XQ → Prop := fun γ Q X => we γ (fun r γ1 => peek r γ1 fun t => truQ t fun b => Q b γ1) X
instance {te : TE} {we : VW} [he : VE K B E te we] : VT K B E (tTru K te) (vTru we) where
  run := fun {as γ σ G H Q Qv Xv} S h k kx => by
    refine he.run S h (fun r1 γ1 as1 v1 G1 H1 p1 g1 S1 rr1 q1 => ?_) kx
    obtain ⟨t, q, z⟩ := peek_rp S1 rr1 q1
    obtain ⟨b, h1, h2⟩ := tru_rp q z
    exact ⟨b, h1, k _ _ _ _ _ _ p1 g1 S1 rfl h2⟩
/-- and, or: in one (d told), or way by way -/
def vAnd (wt wu : Env → (Bool → Env → Prop) → XQ → Prop) : Env → (Bool → Env → Prop) → XQ → Prop := fun γ Q X => wt γ (fun c γ1 => (∃ d : Bool, (c = true → wu γ1 (fun b γ2 => b = d ∧ γ2 = γ1) X) ∧ Q (c && d) γ1) ∨ br c (wu γ1 Q X) (Q false γ1)) X
def vOr (wt wu : Env → (Bool → Env → Prop) → XQ → Prop) : Env → (Bool → Env → Prop) → XQ → Prop := fun γ Q X => wt γ (fun c γ1 => (∃ d : Bool, (c = false → wu γ1 (fun b γ2 => b = d ∧ γ2 = γ1) X) ∧ Q (c || d) γ1) ∨ br c (Q true γ1) (wu γ1 Q X)) X
def vNot (wt : Env → (Bool → Env → Prop) → XQ → Prop) : Env → (Bool → Env → Prop) → XQ → Prop := fun γ Q X => wt γ (fun c γ1 => Q (!c) γ1) X
section
variable {t u : TT} {wt wu : Env → (Bool → Env → Prop) → XQ → Prop} [ht : VT K B E t wt] [hu : VT K B E u wu]
instance : VT K B E (tAnd t u) (vAnd wt wu) where
  run := fun {as γ σ G H Q Qv Xv} S h k kx => by
    refine ht.run S h (fun b γ1 as1 b' G1 H1 p1 g1 S1 e q1 => ?_) kx
    cases e
    have k1 := k.mono p1 g1
    have kx1 := kx.mono p1 g1
    rcases q1 with ⟨d, q1, q2⟩ | q1
    · cases b
      · exact k1 _ _ _ _ _ _ (List.prefix_refl _) (Same.refl _) S1 rfl q2
      · refine hu.run S1 (q1 rfl) (fun b γ2 as2 b' G2 H2 p2 g2 S2 e q => ?_) kx1
        cases e
        obtain ⟨rfl, rfl⟩ := q
        exact k1 _ _ _ _ _ _ p2 g2 S2 rfl q2
    · cases b
      · exact k1 _ _ _ _ _ _ (List.prefix_refl _) (Same.refl _) S1 rfl q1
      · exact hu.run S1 q1 k1 kx1
instance : VT K B E (tOr t u) (vOr wt wu) where
  run := fun {as γ σ G H Q Qv Xv} S h k kx => by
    refine ht.run S h (fun b γ1 as1 b' G1 H1 p1 g1 S1 e q1 => ?_) kx
    cases e
    have k1 := k.mono p1 g1
    have kx1 := kx.mono p1 g1
    rcases q1 with ⟨d, q1, q2⟩ | q1
    · cases b
      · refine hu.run S1 (q1 rfl) (fun b γ2 as2 b' G2 H2 p2 g2 S2 e q => ?_) kx1
        cases e
        obtain ⟨rfl, rfl⟩ := q
        exact k1 _ _ _ _ _ _ p2 g2 S2 rfl q2
      · exact k1 _ _ _ _ _ _ (List.prefix_refl _) (Same.refl _) S1 rfl q2
    · cases b
      · exact hu.run S1 q1 k1 kx1
      · exact k1 _ _ _ _ _ _ (List.prefix_refl _) (Same.refl _) S1 rfl q1
instance : VT K B E (tNot t) (vNot wt) where
  run := fun {as γ σ G H Q Qv Xv} S h k kx => by
    refine ht.run S h (fun b γ1 as1 b' G1 H1 p1 g1 S1 e q1 => ?_) kx
    cases e
    exact k _ _ _ _ _ _ p1 g1 S1 rfl q1
end
/-- as values -/
def vAndV (wa wb : VW) : VW := fun γ Q X => wa γ (fun r γ1 => peek r γ1 fun t => match t with
  | .bl c => br c (wb γ1 Q X) (Q (.val (.bl false)) γ1)
  | _ => False) X
def vOrV (wa wb : VW) : VW := fun γ Q X => wa γ (fun r γ1 => peek r γ1 fun t => match t with
  | .bl c => br c (Q (.val (.bl true)) γ1) (wb γ1 Q X)
  | _ => False) X
def vNotV (wa : VW) : VW := fun γ Q X => wa γ (fun r γ1 => peek r γ1 fun t => match t with
  | .bl c => Q (.val (.bl (!c))) γ1
  | _ => False) X
def vNotT (wa : VW) : VW := fun γ Q X => wa γ (fun r γ1 => peek r γ1 fun t => truQ t fun c => Q (.val (.bl (!c))) γ1) X
def vIfE (wt : Env → (Bool → Env → Prop) → XQ → Prop) (wa wb : VW) : VW := fun γ Q X => wt γ (fun c γ1 => br c (wa γ1 Q X) (wb γ1 Q X)) X
section
variable {ta tb : TE} {wa wb : VW} [ha : VE K B E ta wa] [hb : VE K B E tb wb]
instance : VE K B E (tAndV ta tb) (vAndV wa wb) where
  run := fun {as γ σ G H Q Qv Xv} S h k kx => by
    refine ha.run S h (fun r1 γ1 as1 v1 G1 H1 p1 g1 S1 rr1 q1 => ?_) kx
    obtain ⟨t, q, z⟩ := peek_ok S1 rr1 q1
    split at q
    · rename_i c
      refine ⟨c, bl_any z, ?_⟩
      cases c
      · exact kval (k.mono p1 g1) S1 (.bl _) q
      · exact hb.run S1 q (k.mono p1 g1) (kx.mono p1 g1)
    · exact q.elim
instance : VE K B E (tOrV ta tb) (vOrV wa wb) where
  run := fun {as γ σ G H Q Qv Xv} S h k kx => by
    refine ha.run S h (fun r1 γ1 as1 v1 G1 H1 p1 g1 S1 rr1 q1 => ?_) kx
    obtain ⟨t, q, z⟩ := peek_ok S1 rr1 q1
    split at q
    · rename_i c
      refine ⟨c, bl_any z, ?_⟩
      cases c
      · exact hb.run S1 q (k.mono p1 g1) (kx.mono p1 g1)
      · exact kval (k.mono p1 g1) S1 (.bl _) q
    · exact q.elim
instance : VE K B E (tNotV ta) (vNotV wa) where
  run := fun {as γ σ G H Q Qv Xv} S h k kx => by
    refine ha.run S h (fun r1 γ1 as1 v1 G1 H1 p1 g1 S1 rr1 q1 => ?_) kx
    obtain ⟨t, q, z⟩ := peek_ok S1 rr1 q1
    split at q
    · exact ⟨_, bl_any z, kval (k.mono p1 g1) S1 (.bl _) q⟩
    · exact q.elim
instance : VE K B E (tNotT K ta) (vNotT wa) where
  run := fun {as γ σ G H Q Qv Xv} S h k kx => by
    refine ha.run S h (fun r1 γ1 as1 v1 G1 H1 p1 g1 S1 rr1 q1 => ?_) kx
    obtain ⟨t, q, z⟩ := peek_rp S1 rr1 q1
    obtain ⟨b, h1, h2⟩ := tru_rp q z
    exact ⟨b, h1, kval (k.mono p1 g1) S1 (.bl _) h2⟩
instance {tc : TT} {wc : Env → (Bool → Env → Prop) → XQ → Prop} [hc : VT K B E tc wc] : VE K B E (tIf tc ta tb) (vIfE wc wa wb) where
  run := fun {as γ σ G H Q Qv Xv} S h k kx => by
    refine hc.run S h (fun b γ1 as1 b' G1 H1 p1 g1 S1 e q1 => ?_) kx
    cases e
    cases b
    · exact hb.run S1 q1 (k.mono p1 g1) (kx.mono p1 g1)
    · exact ha.run S1 q1 (k.mono p1 g1) (kx.mono p1 g1)
/-- a op1 b op2 c -/
def vChain (wr wr' : Rf → Rf → VW) (wa wb wc : VW) : VW := fun γ Q X => wa γ (fun r1 γ1 => wb γ1 (fun r2 γ2 => wr r1 r2 γ2 (fun r3 γ3 => peek r3 γ3 fun t => match t with
  | .bl c => br c (wc γ3 (fun r4 γ4 => wr' r2 r4 γ4 Q X) X) (Q (.val (.bl false)) γ3)
  | _ => False) X) X) X
instance {r r' : R2} {wr wr' : Rf → Rf → VW} {tc : TE} {wc : VW} [hc : VE K B E tc wc] [hr : V2 K B E r wr] [hr' : V2 K B E r' wr'] : VE K B E (tChain r r' ta tb tc) (vChain wr wr' wa wb wc) where
  run := fun {as γ σ G H Q Qv Xv} S h k kx => by
    refine ha.run S h (fun r1 γ1 as1 v1 G1 H1 p1 g1 S1 rr1 q1 => ?_) kx
    refine hb.run S1 q1 (fun r2 γ2 as2 v2 G2 H2 p2 g2 S2 rr2 q2 => ?_) (kx.mono p1 g1)
    refine hr.run S2 (RR.mono rr1 p2 g2) rr2 q2 (fun r3 γ3 as3 v3 G3 H3 p3 g3 S3 rr3 q3 => ?_) ((kx.mono p1 g1).mono p2 g2)
    have k3 := ((k.mono p1 g1).mono p2 g2).mono p3 g3
    have kx3 := ((kx.mono p1 g1).mono p2 g2).mono p3 g3
    obtain ⟨t, q, z⟩ := peek_ok S3 rr3 q3
    split at q
    · rename_i c
      refine ⟨c, bl_any z, ?_⟩
      cases c
      · exact kval k3 S3 (.bl _) q
      · refine hc.run S3 q (fun r4 γ4 as4 v4 G4 H4 p4 g4 S4 rr4 q4 => ?_) kx3
        exact hr'.run S4 (RR.mono rr2 (p3.trans p4) (g3.trans g4)) rr4 q4 (k3.mono p4 g4) (kx3.mono p4 g4)
    · exact q.elim
end
/-- x is None, is True, is False .. -/
def rIsC (neg : Bool) (c : V) : R2 := fun x y H Q => y = c ∧ Q (.bl (nb neg (decide (x = c)))) H
end
end VL
set_option Elab.async false
set_option linter.all false
set_option maxRecDepth 100000
set_option maxHeartbeats 4000000
/-! readings over values: statements, methods of lists, loops, comprehensions -/
namespace VL
open PySem PySem.Spec PyProof.Rows L2 XR
structure VEnds where
  nx : Env → Prop
  rt : RQ
  bk : Env → Prop
  ct : Env → Prop
  ex : XQ
abbrev VSW := Env → VEnds → Prop
def KontS (K : PySem.W.Frag) (B : Bs) (as : List Addr) (G : Hp) (Q : L2.St → Hp → Prop) (Qv : Env → Prop) : Prop :=
  ∀ (γ' : Env) (as' : List Addr) (σ' : L2.St) (G' H' : Hp), as <+: as' → Same G G' → StR K B as' γ' σ' G' H' → Qv γ' → Q σ' H'
structure KontD (K : PySem.W.Frag) (B : Bs) (E : L2.St → XK) (as : List Addr) (G : Hp) (D : Ends) (Dv : VEnds) : Prop where
  nx : KontS K B as G D.nx Dv.nx
  bk : KontS K B as G D.bk Dv.bk
  ct : KontS K B as G D.ct Dv.ct
  rt : ∀ (σ' : L2.St), KontP K B as σ' G (rR K B) D.rt Dv.rt
  ex : ∀ (σ' : L2.St), KontX K B as σ' G (E σ') Dv.ex
theorem KontS.mono {K : PySem.W.Frag} {B : Bs} {as as1 : List Addr} {G G1 : Hp} {Q : L2.St → Hp → Prop} {Qv : Env → Prop} (k : KontS K B as G Q Qv) (p : as <+: as1) (g : Same G G1) : KontS K B as1 G1 Q Qv :=
  fun γ' as' σ' G' H' p' g' S q => k γ' as' σ' G' H' (p.trans p') (g.trans g') S q
theorem KontD.mono {K : PySem.W.Frag} {B : Bs} {E : L2.St → XK} {as as1 : List Addr} {G G1 : Hp} {D : Ends} {Dv : VEnds} (k : KontD K B E as G D Dv) (p : as <+: as1) (g : Same G G1) : KontD K B E as1 G1 D Dv :=
  ⟨k.nx.mono p g, k.bk.mono p g, k.ct.mono p g, fun σ => (k.rt σ).mono p g, fun σ => (k.ex σ).mono p g⟩
class VS (K : PySem.W.Frag) (B : Bs) (E : L2.St → XK) (t : TS) (w : outParam VSW) : Prop where
  run : ∀ {as : List Addr} {γ : Env} {σ : L2.St} {G H : Hp} {D : Ends} {Dv : VEnds}, StR K B as γ σ G H → w γ Dv → KontD K B E as G D Dv → t D σ H
/-- a target: the value is stored; is: the slots that it sets -/
class VG (K : PySem.W.Frag) (B : Bs) (E : L2.St → XK) (g : TG) (w : outParam (Rf → Env → (Env → Prop) → XQ → Prop)) (is : outParam (List Nat)) : Prop where
  run : ∀ {as : List Addr} {γ : Env} {σ : L2.St} {G H : Hp} {x : V} {r : Rf} {Q : L2.St → Hp → Prop} {Qv : Env → Prop} {Xv : XQ}, StR K B as γ σ G H → RR K B.ex as G r x → w r γ Qv Xv →
    (∀ (γ' : Env) (as' : List Addr) (σ' : L2.St) (G' H' : Hp), as <+: as' → Same G G' → StR K B as' γ' σ' G' H' → (∀ vs : List Nat, (∀ i ∈ is, i ∈ vs) → wipe σ' vs = wipe σ vs) → Qv γ' → Q σ' H') → KontX K B as σ G (E σ) Xv → g x σ H Q
class VGs (K : PySem.W.Frag) (B : Bs) (E : L2.St → XK) (g : TGs) (w : outParam (List Rf → Env → (Env → Prop) → XQ → Prop)) (is : outParam (List Nat)) : Prop where
  run : ∀ {as : List Addr} {γ : Env} {σ : L2.St} {G H : Hp} {xs : List V} {rs : List Rf} {Q : L2.St → Hp → Prop} {Qv : Env → Prop} {Xv : XQ}, StR K B as γ σ G H → RRs K B.ex as G rs xs → w rs γ Qv Xv →
    (∀ (γ' : Env) (as' : List Addr) (σ' : L2.St) (G' H' : Hp), as <+: as' → Same G G' → StR K B as' γ' σ' G' H' → (∀ vs : List Nat, (∀ i ∈ is, i ∈ vs) → wipe σ' vs = wipe σ vs) → Qv γ' → Q σ' H') → (∀ σ', KontX K B as σ' G (E σ') Xv) → g xs σ H Q
theorem wipe_set {σ : L2.St} {i : Nat} {x : Option V} : ∀ {vs : List Nat}, i ∈ vs → wipe (σ.set i x) vs = wipe σ vs := by
  intro vs
  induction vs with
  | nil => intro h; cases h
  | cons v vs ih =>
    intro h
    show (wipe (σ.set i x) vs).set v none = (wipe σ vs).set v none
    by_cases e : i ∈ vs
    · rw [ih e]
    · have hv : i = v := by
        rcases List.mem_cons.mp h with z | z
        · exact z
        · exact absurd z e
      subst hv
      apply List.ext_getElem?
      intro j
      by_cases hj : j = i
      · subst hj
        by_cases hl : j < σ.length
        · rw [List.getElem?_set_self (by rw [wipe_length, List.length_set]; exact hl), List.getElem?_set_self (by rw [wipe_length]; exact hl)]
        · rw [List.getElem?_eq_none (by rw [List.length_set, wipe_length, List.length_set]; omega), List.getElem?_eq_none (by rw [List.length_set, wipe_length]; omega)]
      · rw [List.getElem?_set_ne (Ne.symm hj), List.getElem?_set_ne (Ne.symm hj)]
        by_cases hm : j ∈ vs
        · have aux : ∀ (τ : L2.St), (wipe τ vs)[j]? = if j < τ.length then some none else none := fun τ => by
            clear ih h e
            induction vs with
            | nil => cases hm
            | cons w ws ih2 =>
              show ((wipe τ ws).set w none)[j]? = _
              by_cases hw : j = w
              · subst hw
                by_cases hl : j < τ.length
                · rw [List.getElem?_set_self (by rw [wipe_length]; exact hl), if_pos hl]
                · rw [List.getElem?_eq_none (by rw [List.length_set, wipe_length]; omega), if_neg hl]
              · rw [List.getElem?_set_ne (Ne.symm hw)]
                rcases List.mem_cons.mp hm with z | z
                · exact absurd z hw
                · exact ih2 z
          rw [aux, aux, List.length_set]
        · rw [wipe_out hm, wipe_out hm, List.getElem?_set_ne (Ne.symm hj)]
section
variable {K : PySem.W.Frag} {B : Bs} {E : L2.St → XK}
/-! ### targets -/
def vgName (i : Nat) : Rf → Env → (Env → Prop) → XQ → Prop := fun r γ Q _ => Q (γ.set i r)
instance {i : Nat} : VG K B E (gName i) (vgName i) [i] where
  run := fun {as γ σ G H x r Q Qv Xv} S rr h k _ => k _ _ _ G H (List.prefix_refl _) (Same.refl _) (S.store rr i) (fun vs hv => wipe_set (hv i List.mem_cons_self)) h
def vgNil : List Rf → Env → (Env → Prop) → XQ → Prop := fun rs γ Q _ => match rs with
  | [] => Q γ
  | _ => False
def vgCons (wg : Rf → Env → (Env → Prop) → XQ → Prop) (wr : List Rf → Env → (Env → Prop) → XQ → Prop) : List Rf → Env → (Env → Prop) → XQ → Prop := fun rs γ Q X => match rs with
  | r :: rs => wg r γ (fun γ1 => wr rs γ1 Q X) X
  | _ => False
instance : VGs K B E gNil vgNil [] where
  run := fun {as γ σ G H xs rs Q Qv Xv} S rr h k _ => by
    unfold vgNil at h
    split at h
    · cases rr; exact ⟨rfl, k _ _ _ _ _ (List.prefix_refl _) (Same.refl _) S (fun _ _ => rfl) h⟩
    · exact h.elim
instance {g : TG} {u : TGs} {wg : Rf → Env → (Env → Prop) → XQ → Prop} {wr : List Rf → Env → (Env → Prop) → XQ → Prop} {is js : List Nat} [hg : VG K B E g wg is] [hr : VGs K B E u wr js] : VGs K B E (gCons g u) (vgCons wg wr) (is ++ js) where
  run := fun {as γ σ G H xs rs Q Qv Xv} S rr h k kx => by
    unfold vgCons at h
    split at h
    · cases rr with | cons a b =>
      refine ⟨_, _, rfl, hg.run S a h (fun γ1 as1 σ1 G1 H1 p1 g1 S1 w1 q1 => ?_) (kx σ)⟩
      refine hr.run S1 (RRs.mono p1 g1 b) q1 (fun γ2 as2 σ2 G2 H2 p2 g2 S2 w2 q2 => ?_) fun σ' => (kx σ').mono p1 g1
      exact k _ _ _ _ _ (p1.trans p2) (g1.trans g2) S2 (fun vs hv => (w2 vs fun i hi => hv i (List.mem_append_right _ hi)).trans (w1 vs fun i hi => hv i (List.mem_append_left _ hi))) q2
    · exact h.elim
/-- (a, b, ..) = a tuple -/
def vgTup (n : Nat) (wr : List Rf → Env → (Env → Prop) → XQ → Prop) : Rf → Env → (Env → Prop) → XQ → Prop := fun r γ Q X => peek r γ fun t => match t with
  | .tup ts => ts.length = n ∧ wr (ts.map Rf.val) γ Q X
  | _ => False
theorem RpAll.rrs {G : Hp} {as : List Addr} {ex : Addr × Value × Option Addr} : ∀ {vs : List V} {ts : List T}, RpAll K G vs ts → RRs K ex as G (ts.map Rf.val) vs
  | _, _, .nil => .nil
  | _, _, .cons a b => .cons a (RpAll.rrs b)
class VGT (K : PySem.W.Frag) (B : Bs) (E : L2.St → XK) (g : TGs) (w : outParam (List Rf → Env → (Env → Prop) → XQ → Prop)) (is : outParam (List Nat)) : Prop where
  run : ∀ {as : List Addr} {γ : Env} {σ : L2.St} {G H : Hp} {xs : List V} {rs : List Rf} {Q : L2.St → Hp → Prop} {Qv : Env → Prop} {Xv : XQ}, StR K B as γ σ G H → RRs K B.ex as G rs xs → w rs γ Qv Xv →
    (∀ (γ' : Env) (as' : List Addr) (σ' : L2.St) (G' H' : Hp), as <+: as' → Same G G' → StR K B as' γ' σ' G' H' → (∀ vs : List Nat, (∀ i ∈ is, i ∈ vs) → wipe σ' vs = wipe σ vs) → Qv γ' → Q σ' H') → g xs σ H Q
instance : VGT K B E gNil vgNil [] where
  run := fun {as γ σ G H xs rs Q Qv Xv} S rr h k => by
    unfold vgNil at h
    split at h
    · cases rr; exact ⟨rfl, k _ _ _ _ _ (List.prefix_refl _) (Same.refl _) S (fun _ _ => rfl) h⟩
    · exact h.elim
instance {i : Nat} {u : TGs} {wr : List Rf → Env → (Env → Prop) → XQ → Prop} {js : List Nat} [hr : VGT K B E u wr js] : VGT K B E (gCons (gName i) u) (vgCons (vgName i) wr) (i :: js) where
  run := fun {as γ σ G H xs rs Q Qv Xv} S rr h k => by
    unfold vgCons at h
    split at h
    · cases rr with | cons a b =>
      refine ⟨_, _, rfl, ?_⟩
      refine hr.run (S.store a i) b h (fun γ2 as2 σ2 G2 H2 p2 g2 S2 w2 q2 => ?_)
      exact k _ _ _ _ _ p2 g2 S2 (fun vs hv => (w2 vs fun i hi => hv i (List.mem_cons_of_mem _ hi)).trans (wipe_set (hv i List.mem_cons_self))) q2
    · exact h.elim
instance {n : Nat} {u : TGs} {wr : List Rf → Env → (Env → Prop) → XQ → Prop} {is : List Nat} [hr : VGT K B E u wr is] : VG K B E (gTup K n u) (vgTup n wr) is where
  run := fun {as γ σ G H x r Q Qv Xv} S rr h k _ => by
    obtain ⟨t, q, z⟩ := peek_ok S rr h
    split at q
    · obtain ⟨a, xs, rfl, sq, rp⟩ := tup_any z
      exact ⟨a, xs, rfl, SqT.same sq S.vw, rp.length.trans q.1, hr.run S rp.rrs q.2 k⟩
    · exact q.elim
/-- o[i] = .., of an open list -/
def setQ (ro : Rf) (n : Int) (t : T) (γ : Env) (Q : Env → Prop) : Prop :=
  match ro with
  | .ref k => match nth γ.mem k with
    | some (.mu (.lst ts)) => isS (setL ts n t) fun us => Q (γ.put k (.mu (.lst us)))
    | _ => False
  | _ => False
def vgSub (wo wi : VW) : Rf → Env → (Env → Prop) → XQ → Prop := fun r γ Q X => wo γ (fun ro γ1 => wi γ1 (fun ri γ2 => peek ri γ2 fun ti => match ti with
  | .int n => toT r γ2 fun t γ3 => setQ ro n t γ3 Q
  | _ => False) X) X
instance {to ti : TE} {wo wi : VW} [ho : VE K B E to wo] [hi : VE K B E ti wi] : VG K B E (gSub to ti rSetL) (vgSub wo wi) [] where
  run := fun {as γ σ G H x r Q Qv Xv} S rr h k kx => by
    refine ho.run S h (fun r1 γ1 as1 v1 G1 H1 p1 g1 S1 rr1 q1 => ?_) kx
    refine hi.run S1 q1 (fun r2 γ2 as2 v2 G2 H2 p2 g2 S2 rr2 q2 => ?_) (kx.mono p1 g1)
    obtain ⟨t, q, z⟩ := peek_ok S2 rr2 q2
    split at q
    · have ei := int_any z
      obtain ⟨t, γ3, G3, g3, S3, rp, q⟩ := toT_ok S2 (RR.mono rr (p1.trans p2) (g1.trans g2)) q
      have rr3 := RR.mono rr1 p2 (g2.trans g3)
      unfold setQ at q
      split at q
      · rename_i kk
        obtain ⟨a, ea, e3⟩ := rr3
        simp only [nth_eq] at q
        split at q
        · rename_i ts e
          obtain ⟨us, e0, q⟩ := isS_e q
          obtain ⟨j, hj, rfl⟩ := setL_ix e0
          obtain ⟨_, acc, hacc, rpa⟩ := S3.mem _ a _ ea e
          refine ⟨a, acc, _, j, e3, ei, hacc, by rw [rpa.length]; exact hj, ?_⟩
          have S4 := S3.write (o := .lst (acc.set j x)) (t := .lst (ts.set j t)) e ea ⟨_, upd_same, rpa.set rp j⟩
          exact k _ _ _ _ _ (p1.trans p2) ((g1.trans g2).trans g3) S4 (fun _ _ => rfl) q
        · exact q.elim
      · exact q.elim
    · exact q.elim
/-! ### statements -/
def vSeq (wt wu : VSW) : VSW := fun γ D => wt γ { D with nx := fun γ1 => wu γ1 D }
instance {t u : TS} {wt wu : VSW} [ht : VS K B E t wt] [hu : VS K B E u wu] : VS K B E (tSeq t u) (vSeq wt wu) where
  run := fun {as γ σ G H D Dv} S h k => ht.run S h ⟨fun γ1 as1 σ1 G1 H1 p1 g1 S1 q1 => hu.run S1 q1 (k.mono p1 g1), k.bk, k.ct, k.rt, k.ex⟩
def vNext : VSW := fun γ D => D.nx γ
def vBreak : VSW := fun γ D => D.bk γ
def vCont : VSW := fun γ D => D.ct γ
instance : VS K B E tNext vNext := ⟨fun S h k => k.nx _ _ _ _ _ (List.prefix_refl _) (Same.refl _) S h⟩
instance : VS K B E tBreak vBreak := ⟨fun S h k => k.bk _ _ _ _ _ (List.prefix_refl _) (Same.refl _) S h⟩
instance : VS K B E tCont vCont := ⟨fun S h k => k.ct _ _ _ _ _ (List.prefix_refl _) (Same.refl _) S h⟩
def vDrop (we : VW) : VSW := fun γ D => we γ (fun _ γ1 => D.nx γ1) D.ex
def vRet (we : VW) : VSW := fun γ D => we γ D.rt D.ex
def vRetN : VSW := fun γ D => D.rt (.val .non) γ
def vAsg (we : VW) (wg : Rf → Env → (Env → Prop) → XQ → Prop) : VSW := fun γ D => we γ (fun r γ1 => wg r γ1 D.nx D.ex) D.ex
section
variable {te : TE} {we : VW} [he : VE K B E te we]
instance : VS K B E (tDrop te) (vDrop we) where
  run := fun {as γ σ G H D Dv} S h k => he.run S h (fun r γ1 as1 v G1 H1 p1 g1 S1 _ q1 => k.nx _ _ _ _ _ p1 g1 S1 q1) (k.ex σ)
instance : VS K B E (tRet te) (vRet we) where
  run := fun {as γ σ G H D Dv} S h k => he.run S h (k.rt σ) (k.ex σ)
instance : VS K B E tRetN vRetN where
  run := fun {as γ σ G H D Dv} S h k => k.rt σ (.val .non) _ _ _ _ _ (List.prefix_refl _) (Same.refl _) S Rp.non h
instance {g : TG} {wg : Rf → Env → (Env → Prop) → XQ → Prop} {is : List Nat} [hg : VG K B E g wg is] : VS K B E (tAsg te g) (vAsg we wg) where
  run := fun {as γ σ G H D Dv} S h k => by
    refine he.run S h (fun r γ1 as1 v G1 H1 p1 g1 S1 rr q1 => ?_) (k.ex σ)
    exact hg.run S1 rr q1 (fun γ2 as2 σ2 G2 H2 p2 g2 S2 _ q2 => k.nx _ _ _ _ _ (p1.trans p2) (g1.trans g2) S2 q2) ((k.ex σ).mono p1 g1)
end
def vIf (wc : Env → (Bool → Env → Prop) → XQ → Prop) (wt wu : VSW) : VSW := fun γ D => wc γ (fun c γ1 => br c (wt γ1 D) (wu γ1 D)) D.ex
instance {c : TT} {t u : TS} {wc : Env → (Bool → Env → Prop) → XQ → Prop} {wt wu : VSW} [hc : VT K B E c wc] [ht : VS K B E t wt] [hu : VS K B E u wu] : VS K B E (tIfS c t u) (vIf wc wt wu) where
  run := fun {as γ σ G H D Dv} S h k => by
    refine hc.run S h (fun b γ1 as1 b' G1 H1 p1 g1 S1 e q1 => ?_) (k.ex σ)
    cases e
    cases b
    · exact hu.run S1 q1 (k.mono p1 g1)
    · exact ht.run S1 q1 (k.mono p1 g1)
/-- a, b = x, y -/
def vPar (i j : Nat) (wa : Env → (List Rf → Env → Prop) → XQ → Prop) : VSW := fun γ D => wa γ (fun rs γ1 => match rs with
  | [r, s] => D.nx ((γ1.set i r).set j s)
  | _ => False) D.ex
def vAug (i : Nat) (f : Int → Int → Int) (we : VW) : VSW := fun γ D => match nth γ.sl i with
  | some (some (.val (.int x))) => we γ (fun r γ1 => peek r γ1 fun t => match t with
    | .int y => D.nx (γ1.set i (.val (.int (f x y))))
    | _ => False) D.ex
  | _ => False
instance {i : Nat} {f : Int → Int → Int} {te : TE} {we : VW} [he : VE K B E te we] : VS K B E (tAug i te (ipI f)) (vAug i f we) where
  run := fun {as γ σ G H D Dv} S h k => by
    unfold vAug at h
    rw [nth_eq] at h
    split at h
    · rename_i x e
      obtain ⟨v, e1, e2⟩ := S.sl i _ e
      have e2 : Rp K G v (.int x) := e2
      cases e2
      refine ⟨_, e1, ?_⟩
      refine he.run S h (fun r γ1 as1 v G1 H1 p1 g1 S1 rr q1 => ?_) (k.ex σ)
      obtain ⟨t, q, z⟩ := peek_ok S1 rr q1
      split at q
      · exact ⟨_, _, rfl, int_any z, k.nx _ _ _ _ _ p1 g1 (S1.store (r := .val (.int _)) (Rp.int _) i) q⟩
      · exact q.elim
    · exact h.elim
/-- behind this statement R holds -/
structure CutI (n0 : Nat) (fst : (Env → Prop) → Prop) (snd : Env → Prop) : Prop where
  ex : ∃ R : Env → Prop, fst (fun γ1 => ∃ γ2, Le n0 γ1 γ2 ∧ R γ2) ∧ ∀ γ2, R γ2 → snd γ2
def vCut (wt wu : VSW) : VSW := fun γ D => CutI γ.mem.length (fun N => wt γ { D with nx := N }) fun γ2 => wu γ2 D
instance {t u : TS} {wt wu : VSW} [ht : VS K B E t wt] [hu : VS K B E u wu] : VS K B E (Evl.tCut t u) (vCut wt wu) where
  run := fun {as γ σ G H D Dv} S h k => by
    obtain ⟨⟨R, h1, h2⟩⟩ := h
    refine ⟨fun σ' H' => ∃ as' γ' G', as <+: as' ∧ Same G G' ∧ StR K B as' γ' σ' G' H' ∧ R γ', ?_, ?_⟩
    · refine ht.run S h1 ⟨fun γ1 as1 σ1 G1 H1 p1 g1 S1 q1 => ?_, k.bk, k.ct, k.rt, k.ex⟩
      obtain ⟨γ2, le, r⟩ := q1
      obtain ⟨as2, G2, p2, g2, S2⟩ := StR.le le S1 p1 S.mlen
      exact ⟨as2, γ2, G2, p2, g1.trans g2, S2, r⟩
    · rintro σ' H' ⟨as', γ', G', p, g, S', r⟩
      exact hu.run S' (h2 γ' r) (k.mono p g)
/-! ### methods of open lists -/
def mtQ (r : Rf) (γ : Env) (Q : Nat → List T → Prop) : Prop :=
  match r with
  | .ref k => match nth γ.mem k with
    | some (.mu (.lst ts)) => Q k ts
    | _ => False
  | _ => False
section
variable {as : List Addr} {γ : Env} {σ : L2.St} {G H : Hp} {x : V} {r : Rf}
theorem mtQ_ok {Q : Nat → List T → Prop} (S : StR K B as γ σ G H) (rr : RR K B.ex as G r x) (h : mtQ r γ Q) : ∃ k ts a acc, r = .ref k ∧ γ.mem[k]? = some (.mu (.lst ts)) ∧ as[k]? = some a ∧ x = .ref a ∧ H a = some (.lst acc) ∧ RpAll K G acc ts ∧ Q k ts := by
  unfold mtQ at h
  split at h
  · rename_i k
    obtain ⟨a, ea, rfl⟩ := rr
    simp only [nth_eq] at h
    split at h
    · rename_i ts e
      obtain ⟨_, acc, hacc, rpa⟩ := S.mem _ a _ ea e
      exact ⟨k, ts, a, acc, rfl, e, ea, rfl, hacc, rpa, h⟩
    · exact h.elim
  · exact h.elim
end
def vBM (wr : Rf → List Rf → VW) (wo : VW) (wa : Env → (List Rf → Env → Prop) → XQ → Prop) : VW := fun γ Q X => wo γ (fun r γ1 => peek r γ1 (fun t => seqT t fun b _ => b = true) ∧ wa γ1 (fun rs γ2 => wr r rs γ2 Q X) X) X
def vBM0 (wr : Rf → List Rf → VW) (wo : VW) : VW := fun γ Q X => wo γ (fun r γ1 => peek r γ1 (fun t => seqT t fun b _ => b = true) ∧ wr r [] γ1 Q X) X
section
variable {r : V → List V → Hp → VK → Prop} {wr : Rf → List Rf → VW} {to : TE} {wo : VW} [ho : VE K B E to wo] [hr : VM K B E r wr]
theorem tyV_lst {as : List Addr} {γ : Env} {σ : L2.St} {G H : Hp} {x : V} {r : Rf} (S : StR K B as γ σ G H) (rr : RR K B.ex as G r x) (h : peek r γ (fun t => seqT t fun b _ => b = true)) : tyV K "list" x H := by
  obtain ⟨b, ts, a, acc, rfl, sq, _, rfl⟩ := peek_seq S rr h
  exact .inl ⟨rfl, acc, sq⟩
instance {t : TA} {wa : Env → (List Rf → Env → Prop) → XQ → Prop} [ha : VA K B E t wa] : VE K B E (tBM K "list" r to t) (vBM wr wo wa) where
  run := fun {as γ σ G H Q Qv Xv} S h k kx => by
    refine ho.run S h (fun r1 γ1 as1 v1 G1 H1 p1 g1 S1 rr1 q1 => ?_) kx
    obtain ⟨ty, q1⟩ := q1
    refine ⟨tyV_lst S1 rr1 ty, ?_⟩
    refine ha.run S1 q1 (fun rs γ2 as2 vs G2 H2 p2 g2 S2 rr2 q2 => ?_) (kx.mono p1 g1)
    exact hr.run S2 (RR.mono rr1 p2 g2) rr2 q2 ((k.mono p1 g1).mono p2 g2) ((kx.mono p1 g1).mono p2 g2)
instance : VE K B E (tBM0 K "list" r to) (vBM0 wr wo) where
  run := fun {as γ σ G H Q Qv Xv} S h k kx => by
    refine ho.run S h (fun r1 γ1 as1 v1 G1 H1 p1 g1 S1 rr1 q1 => ?_) kx
    obtain ⟨ty, q1⟩ := q1
    exact ⟨tyV_lst S1 rr1 ty, hr.run S1 rr1 .nil q1 (k.mono p1 g1) (kx.mono p1 g1)⟩
end
def arg1 (rs : List Rf) (Q : Rf → Prop) : Prop := match rs with
  | [r] => Q r
  | _ => False
def arg0 (rs : List Rf) (Q : Prop) : Prop := match rs with
  | [] => Q
  | _ => False
/-- append: the item is settled first, then the list is looked up -/
def vAppend : Rf → List Rf → VW := fun r rs γ Q _ => arg1 rs fun y => toT y γ fun t γ1 => mtQ r γ1 fun k ts => ts.length < sizeLine ∧ Q (.val .non) (γ1.put k (.mu (.lst (ts ++ [t]))))
theorem put_non {as : List Addr} {γ : Env} {σ : L2.St} {G H : Hp} {k : Nat} {a : Addr} {m0 t : T} {o : HO} {Q : VK} {Qv : RQ} (kk : KontP K B as σ G (rR K B) Q Qv) (S : StR K B as γ σ G H) (e : γ.mem[k]? = some (.mu m0)) (ea : as[k]? = some a) (q : MutR K G (L2.upd H a o) a t) (h : Qv (.val .non) (γ.put k (.mu t))) : Q .non (L2.upd H a o) :=
  kval kk (S.write e ea q) .non h
theorem put_lst {as : List Addr} {γ : Env} {σ : L2.St} {G H : Hp} {k : Nat} {a : Addr} {m0 : T} {us : List T} {ys : List V} {Q : VK} {Qv : RQ} (kk : KontP K B as σ G (rR K B) Q Qv) (S : StR K B as γ σ G H) (e : γ.mem[k]? = some (.mu m0)) (ea : as[k]? = some a) (q : RpAll K G ys us) (h : Qv (.val .non) (γ.put k (.mu (.lst us)))) : Q .non (L2.upd H a (.lst ys)) :=
  put_non (t := .lst us) kk S e ea ⟨_, upd_same, q⟩ h
instance : VM K B E rAppend vAppend where
  run := fun {as γ σ G H x rx vs rs Q Qv Xv} S rr rrs h kk _ => by
    unfold vAppend arg1 at h
    split at h
    · cases rrs with | cons a b =>
      cases b
      obtain ⟨t, γ1, G1, g1, S1, rp, h⟩ := toT_ok S a h
      obtain ⟨k, ts, a, acc, rfl, e, ea, rfl, hacc, rpa, h1, h2⟩ := mtQ_ok S1 (RR.mono rr (List.prefix_refl _) g1) h
      exact ⟨a, acc, _, rfl, rfl, hacc, by rw [rpa.length]; exact h1, put_lst (kk.mono (List.prefix_refl _) g1) S1 e ea (rpa.snoc rp) h2⟩
    · exact h.elim
def vInsert : Rf → List Rf → VW := fun r rs γ Q _ => match rs with
  | [ri, y] => peek ri γ fun ti => match ti with
    | .int i => toT y γ fun t γ1 => mtQ r γ1 fun k ts => (ts.length < sizeLine ∧ 0 ≤ i ∧ i < 2 ^ 63) ∧ Q (.val .non) (γ1.put k (.mu (.lst (ts.take i.toNat ++ [t] ++ ts.drop i.toNat))))
    | _ => False
  | _ => False
def rInsertU : V → List V → Hp → VK → Prop := fun x vs H Q => ∃ (l : Addr) (xs : List V) (i : Int) (y : V), x = .ref l ∧ vs = [.int i, y] ∧ H l = some (.lst xs) ∧ xs.length < sizeLine ∧ 0 ≤ i ∧ i < 2 ^ 63 ∧ Q .non (L2.upd H l (.lst (xs.take i.toNat ++ [y] ++ xs.drop i.toNat)))
theorem mt_insertU {X : Cx} : MtR X "list.insert" rInsertU := mt_insert
instance : VM K B E rInsertU vInsert where
  run := fun {as γ σ G H x rx vs rs Q Qv Xv} S rr rrs h kk _ => by
    unfold vInsert at h
    split at h
    · cases rrs with | cons a0 b =>
      cases b with | cons a b =>
      cases b
      obtain ⟨ti, h, zi⟩ := peek_ok S a0 h
      split at h
      · have ei := int_any zi
        obtain ⟨t, γ1, G1, g1, S1, rp, h⟩ := toT_ok S a h
        obtain ⟨k, ts, a, acc, rfl, e, ea, rfl, hacc, rpa, h1, h2⟩ := mtQ_ok S1 (RR.mono rr (List.prefix_refl _) g1) h
        exact ⟨a, acc, _, _, rfl, by rw [ei], hacc, by rw [rpa.length]; exact h1.1, h1.2.1, h1.2.2, put_lst (kk.mono (List.prefix_refl _) g1) S1 e ea (((rpa.drop _).append ((RpAll.cons rp .nil).append (rpa.take _)))) h2⟩
      · exact h.elim
    · exact h.elim
def vPop : Rf → List Rf → VW := fun r rs γ Q _ => arg0 rs (mtQ r γ fun k ts => isS (popL ts) fun p => Q (.val p.1) (γ.put k (.mu (.lst p.2))))
instance : VM K B E rPop vPop where
  run := fun {as γ σ G H x rx vs rs Q Qv Xv} S rr rrs h kk _ => by
    unfold vPop arg0 at h
    split at h
    · cases rrs
      obtain ⟨k, ts, a, acc, rfl, e, ea, rfl, hacc, rpa, h⟩ := mtQ_ok S rr h
      obtain ⟨⟨t, us⟩, e0, h2⟩ := isS_e h
      obtain ⟨h1, rfl⟩ := popL_eq e0
      obtain ⟨v, hv, rv⟩ := rpa.get' h1
      exact ⟨a, acc, v, rfl, rfl, hacc, by rw [rpa.length]; exact hv, kval kk (S.write (t := .lst ts.dropLast) e ea ⟨_, upd_same, rpa.dropLast⟩) rv h2⟩
    · exact h.elim
def vPopAt : Rf → List Rf → VW := fun r rs γ Q _ => arg1 rs fun ri => peek ri γ fun ti => match ti with
  | .int i => mtQ r γ fun k ts => (0 ≤ i ∧ i < 2 ^ 63) ∧ isS (popN ts i.toNat) fun p => Q (.val p.1) (γ.put k (.mu (.lst p.2)))
  | _ => False
instance : VM K B E rPopAt vPopAt where
  run := fun {as γ σ G H x rx vs rs Q Qv Xv} S rr rrs h kk _ => by
    unfold vPopAt arg1 at h
    split at h
    · cases rrs with | cons a0 b =>
      cases b
      obtain ⟨ti, h, zi⟩ := peek_ok S a0 h
      split at h
      · rename_i i
        have ei := int_any zi
        obtain ⟨k, ts, a, acc, rfl, e, ea, rfl, hacc, rpa, ⟨b1, b2⟩, h⟩ := mtQ_ok S rr h
        obtain ⟨⟨t, us⟩, e0, h2⟩ := isS_e h
        rw [popN_eq] at e0
        obtain ⟨h1, rfl⟩ : ts[i.toNat]? = some t ∧ ts.eraseIdx i.toNat = us := by
          cases e9 : ts[i.toNat]? with
          | none => rw [e9] at e0; cases e0
          | some x => rw [e9] at e0; cases e0; exact ⟨rfl, rfl⟩
        have hlt : i.toNat < ts.length := (List.getElem?_eq_some_iff.mp h1).1
        have h0 : seqIndex? i ts.length = some i.toNat := seq_ix b1 (by omega)
        obtain ⟨v, hv, rv⟩ := rpa.get' h1
        have j := i.toNat
        exact ⟨a, acc, _, i.toNat, v, rfl, by rw [ei], hacc, by omega, b2, by rw [rpa.length]; exact h0, hv, kval kk (S.write (t := .lst (ts.eraseIdx i.toNat)) e ea ⟨_, upd_same, rpa.eraseIdx _⟩) rv h2⟩
      · exact h.elim
    · exact h.elim
def vReverse : Rf → List Rf → VW := fun r rs γ Q _ => arg0 rs (mtQ r γ fun k ts => Q (.val .non) (γ.put k (.mu (.lst ts.reverse))))
instance : VM K B E rReverse vReverse where
  run := fun {as γ σ G H x rx vs rs Q Qv Xv} S rr rrs h kk _ => by
    unfold vReverse arg0 at h
    split at h
    · cases rrs
      obtain ⟨k, ts, a, acc, rfl, e, ea, rfl, hacc, rpa, h2⟩ := mtQ_ok S rr h
      exact ⟨a, acc, rfl, rfl, hacc, put_lst kk S e ea (rpa.reverse) h2⟩
    · exact h.elim
def vClear : Rf → List Rf → VW := fun r rs γ Q _ => arg0 rs (mtQ r γ fun k ts => Q (.val .non) (γ.put k (.mu (.lst []))))
instance : VM K B E rClear vClear where
  run := fun {as γ σ G H x rx vs rs Q Qv Xv} S rr rrs h kk _ => by
    unfold vClear arg0 at h
    split at h
    · cases rrs
      obtain ⟨k, ts, a, acc, rfl, e, ea, rfl, hacc, rpa, h2⟩ := mtQ_ok S rr h
      exact ⟨a, acc, rfl, rfl, hacc, put_lst kk S e ea (.nil) h2⟩
    · exact h.elim
/-- extend by a list -/
def vExtend : Rf → List Rf → VW := fun r rs γ Q _ => arg1 rs fun y => peek y γ fun t => match t with
  | .lst us => mtQ r γ fun k ts => ts.length + us.length ≤ sizeLine ∧ Q (.val .non) (γ.put k (.mu (.lst (ts ++ us))))
  | _ => False
instance : VM K B E rExtend vExtend where
  run := fun {as γ σ G H x rx vs rs Q Qv Xv} S rr rrs h kk _ => by
    unfold vExtend arg1 at h
    split at h
    · cases rrs with | cons a0 b =>
      cases b
      obtain ⟨ti, h, zi⟩ := peek_ok S a0 h
      split at h
      · obtain ⟨b, ys, rfl, e2, p2⟩ := lst_any S zi
        obtain ⟨k, ts, a, acc, rfl, e, ea, rfl, hacc, rpa, h1, h2⟩ := mtQ_ok S rr h
        exact ⟨a, b, acc, ys, rfl, rfl, hacc, e2, by rw [rpa.length, p2.length]; exact h1, put_lst kk S e ea (p2.append rpa) h2⟩
      · exact h.elim
    · exact h.elim
/-- index: the first equal one -/
def vIndex : Rf → List Rf → VW := fun r rs γ Q _ => arg1 rs fun y => peek y γ fun u => peek r γ fun t => match t with
  | .lst ts => (okD u = true ∧ okD (.lst ts) = true) ∧ ∃ (j : Nat) (z : T), ts[j]? = some z ∧ eqT z u = true ∧ (∀ (m : Nat) (z' : T), m < j → ts[m]? = some z' → eqT z' u = false) ∧ Q (.val (.int (j : Nat))) γ
  | .scr ts => (okD u = true ∧ okD (.lst ts) = true) ∧ ∃ (j : Nat) (z : T), ts[j]? = some z ∧ eqT z u = true ∧ (∀ (m : Nat) (z' : T), m < j → ts[m]? = some z' → eqT z' u = false) ∧ Q (.val (.int (j : Nat))) γ
  | _ => False
theorem toDs_at (ts : List T) (j : Nat) : (toDs ts)[j]? = ts[j]?.map toD := by rw [toDs_map, List.getElem?_map]
instance : VM K B E (rIndexD K) vIndex where
  run := fun {as γ σ G H x rx vs rs Q Qv Xv} S rr rrs h kk _ => by
    unfold vIndex arg1 at h
    split at h
    · cases rrs with | @cons _ v1 _ _ a0 b =>
      cases b
      obtain ⟨u, h, z0⟩ := peek_rp S a0 h
      obtain ⟨t, h, z⟩ := peek_rp S rr h
      have fin : ∀ (ts : List T) (a : Addr), x = .ref a → Dp K H (.ref a) (.list (toDs ts)) → SeqAt.shaped (.list (toDs ts)) = true → (okD u = true ∧ okD (.lst ts) = true) ∧ (∃ (j : Nat) (z : T), ts[j]? = some z ∧ eqT z u = true ∧ (∀ (m : Nat) (z' : T), m < j → ts[m]? = some z' → eqT z' u = false) ∧ Qv (.val (.int (j : Nat))) γ) → rIndexD K x [v1] H Q := by
        rintro ts a rfl hd hs ⟨⟨o1, o2⟩, j, z, e1, e2, e3, q⟩
        refine ⟨a, _, toD u, toDs ts, j, toD z, rfl, rfl, hd, z0.dp (okD_data o1), hs, z0.shaped o1, by rw [toDs_at, e1]; rfl, e2, fun m z' hm e => ?_, kval kk S (.int _) q⟩
        rw [toDs_at] at e
        cases et : ts[m]? with
        | none => rw [et] at e; cases e
        | some z2 =>
          rw [et] at e
          cases e
          exact e3 m z2 hm et
      split at h
      · rename_i ts
        have o2 := h.1.2
        have d := z.dp (okD_data o2)
        have s := z.shaped o2
        cases z with | lst ea rp => exact fin ts _ rfl d s h
      · rename_i ts
        have o2 : okD (.scr ts) = true := h.1.2
        have d := z.dp (okD_data o2)
        have s := z.shaped o2
        cases z with | scr ea rp => exact fin ts _ rfl d s h
      · exact h.elim
    · exact h.elim
end
end VL
set_option Elab.async false
set_option linter.all false
set_option maxRecDepth 100000
set_option maxHeartbeats 4000000
/-! readings over values: loops, comprehensions -/
namespace VL
open PySem PySem.Spec PyProof.Rows L2 XR
/-- what is walked: settled items; an open list as it stands -/
inductive Src where
  | fix (ts : List T) | live (k : Nat) (ts : List T)
def Src.ts : Src → List T
  | .fix ts => ts
  | .live _ ts => ts
def Src.on (s : Src) (γ : Env) : Prop := match s with
  | .fix _ => True
  | .live k ts => nth γ.mem k = some (.mu (.lst ts))
def SrcOk (K : PySem.W.Frag) (B : Bs) (as0 : List Addr) (G0 : Hp) (J : It) (src : Src) : Prop :=
  ∀ {as : List Addr} {γ : Env} {σ : L2.St} {G H : Hp}, as0 <+: as → Same G0 G → StR K B as γ σ G H → src.on γ → (∀ i, i < src.ts.length → J.go i H) ∧ J.stop src.ts.length H ∧
    ∀ (i : Nat) (x : V) (H' : Hp), i < src.ts.length → J.yld i H x H' → ∃ (G' : Hp) (t : T), src.ts[i]? = some t ∧ Same G G' ∧ StR K B as γ σ G' H' ∧ Rp K G' x t
class VI (K : PySem.W.Frag) (B : Bs) (E : L2.St → XK) (t : TI) (w : outParam (Env → (Src → Env → Prop) → XQ → Prop)) : Prop where
  run : ∀ {as : List Addr} {γ : Env} {σ : L2.St} {G H : Hp} {R : It → Hp → Prop} {Qv : Src → Env → Prop} {Xv : XQ}, StR K B as γ σ G H → w γ Qv Xv →
    (∀ (src : Src) (γ' : Env) (as' : List Addr) (G' H' : Hp) (J : It), as <+: as' → Same G G' → StR K B as' γ' σ G' H' → SrcOk K B as' G' J src → Qv src γ' → R J H') → KontX K B as σ G (E σ) Xv → t σ H R
/-! ### a list or a tuple -/
def iDyn (K : PySem.W.Frag) (tl : TE) : TI := fun σ H R => tl σ H fun x H1 => ∃ a, x = .ref a ∧ (((∃ xs, SqL K H1 a xs) ∧ R (Itl K a) H1) ∨ ((∃ xs, SqT K H1 a xs) ∧ R (Itt K a) H1))
def iDynL (K : PySem.W.Frag) (tl : TE) : TI := iDyn K tl
section
variable {X : Cx} {tg : Expr}
theorem pi_dyn {l : Expr} {tl : TE} (hl : PE X l tl) : PI X tg l (iDyn X.K tl) := by
  refine ⟨fun pins s σ H R I h => ?_⟩
  refine thn (hl.run pins s σ H _ I h) fun v s1 ⟨x, H1, I1, r1, q1⟩ => ?_
  obtain ⟨a, e, q1⟩ := q1
  subst e
  cases r1
  rcases q1 with ⟨⟨xs, hq⟩, q⟩ | ⟨⟨xs, hq⟩, q⟩
  · obtain ⟨its, rv, p, hz⟩ := I1.list hq
    refine wpAny_pyIter_list p.isList ?_
    refine ⟨s1.heap.objs.size, [s1.heap.objs.size], _, _, H1, rfl, I1.kept (t' := s1.toks) fun b o e => Heap.get?_push_of_some _ e, turn_list a _, ⟨_, Heap.get?_push_size _ rfl, rfl, rfl⟩, fun b hb => ?_, q⟩
    have e : b = s1.heap.objs.size := by simpa using hb
    subst e
    exact I1.fpOk (Nat.le_refl _) (I1.hok.fresh (Nat.le_refl _))
  · obtain ⟨its, rv, p, hz⟩ := I1.tuple hq
    refine wpAny_pyIter_tuple (show s1.heap.IsTuple a its.toArray from p) ?_
    refine ⟨s1.heap.objs.size, [s1.heap.objs.size], _, _, H1, rfl, I1.kept (t' := s1.toks) fun b o e => Heap.get?_push_of_some _ e, turn_tuple a _, ⟨_, Heap.get?_push_size _ rfl, rfl, rfl⟩, fun b hb => ?_, q⟩
    have e : b = s1.heap.objs.size := by simpa using hb
    subst e
    exact I1.fpOk (Nat.le_refl _) (I1.hok.fresh (Nat.le_refl _))
theorem pi_dynL {l : Expr} {tl : TE} (hl : PE X l tl) : PI X tg l (iDynL X.K tl) := pi_dyn hl
end
section
variable {K : PySem.W.Frag} {B : Bs} {E : L2.St → XK}
section
variable {as0 : List Addr} {G0 : Hp} {a : Addr} {acc : List V} {ts : List T}
theorem src_list (e : SqL K G0 a acc) (rp : RpAll K G0 acc ts) : SrcOk K B as0 G0 (Itl K a) (.fix ts) := fun {as γ σ G H} _ g S _ => by
  have hs : SqL K H a acc := SqL.same e (g.trans S.vw)
  have hl : acc.length = ts.length := rp.length
  refine ⟨fun i hi => ⟨acc, acc[i]'(by rw [hl]; exact hi), hs, List.getElem?_eq_getElem _⟩, ⟨acc, hs, Nat.le_of_eq hl⟩, fun i x H' hi y => ?_⟩
  obtain ⟨rfl, y⟩ := y
  obtain ⟨t, et, rt⟩ := rp.get (y acc hs)
  exact ⟨G, t, et, Same.refl _, S, rt.mono g⟩
theorem src_tup (e : SqT K G0 a acc) (rp : RpAll K G0 acc ts) : SrcOk K B as0 G0 (Itt K a) (.fix ts) := fun {as γ σ G H} _ g S _ => by
  have hs : SqT K H a acc := SqT.same e (g.trans S.vw)
  have hl : acc.length = ts.length := rp.length
  refine ⟨fun i hi => ⟨acc, acc[i]'(by rw [hl]; exact hi), hs, List.getElem?_eq_getElem _⟩, ⟨acc, hs, Nat.le_of_eq hl⟩, fun i x H' hi y => ?_⟩
  obtain ⟨rfl, y⟩ := y
  obtain ⟨t, et, rt⟩ := rp.get (y acc hs)
  exact ⟨G, t, et, Same.refl _, S, rt.mono g⟩
theorem src_live {k : Nat} (ea : as0[k]? = some a) : SrcOk K B as0 G0 (Itl K a) (.live k ts) := fun {as γ σ G H} p g S on => by
  have on : nth γ.mem k = some (.mu (.lst ts)) := on
  rw [nth_eq] at on
  obtain ⟨_, acc, hacc, rp⟩ := S.mem k a _ (pre_get p ea) on
  have hs : SqL K H a acc := SqL.of hacc
  have hl : acc.length = ts.length := rp.length
  refine ⟨fun i hi => ⟨acc, acc[i]'(by rw [hl]; exact hi), hs, List.getElem?_eq_getElem _⟩, ⟨acc, hs, Nat.le_of_eq hl⟩, fun i x H' hi y => ?_⟩
  obtain ⟨rfl, y⟩ := y
  obtain ⟨t, et, rt⟩ := rp.get (y acc hs)
  exact ⟨G, t, et, Same.refl _, S, rt⟩
end
def vIter (wl : VW) : Env → (Src → Env → Prop) → XQ → Prop := fun γ Q X => wl γ (fun r γ1 => toT r γ1 fun t γ2 => seqT t fun _ ts => Q (.fix ts) γ2) X
instance {tl : TE} {wl : VW} [hl : VE K B E tl wl] : VI K B E (iDyn K tl) (vIter wl) where
  run := fun {as γ σ G H R Qv Xv} S h k kx => by
    refine hl.run S h (fun r1 γ1 as1 v1 G1 H1 p1 g1 S1 rr1 q1 => ?_) kx
    obtain ⟨t, γ2, G2, g2, S2, rp, q⟩ := toT_ok S1 rr1 q1
    cases rp with
    | lst e a => exact ⟨_, rfl, .inl ⟨⟨_, SqL.of (S2.vw _ _ e)⟩, k _ _ _ _ _ _ p1 (g1.trans g2) S2 (src_list (SqL.of e) a) q⟩⟩
    | scr e a => exact ⟨_, rfl, .inl ⟨⟨_, SqL.same e S2.vw⟩, k _ _ _ _ _ _ p1 (g1.trans g2) S2 (src_list e a) q⟩⟩
    | tup e a => exact ⟨_, rfl, .inr ⟨⟨_, SqT.same e S2.vw⟩, k _ _ _ _ _ _ p1 (g1.trans g2) S2 (src_tup e a) q⟩⟩
    | _ => exact q.elim
def vIterL (wl : VW) : Env → (Src → Env → Prop) → XQ → Prop := fun γ Q X => wl γ (fun r γ1 => mtQ r γ1 fun k ts => Q (.live k ts) γ1) X
instance {tl : TE} {wl : VW} [hl : VE K B E tl wl] : VI K B E (iDynL K tl) (vIterL wl) where
  run := fun {as γ σ G H R Qv Xv} S h k kx => by
    refine hl.run S h (fun r1 γ1 as1 v1 G1 H1 p1 g1 S1 rr1 q1 => ?_) kx
    obtain ⟨kk, ts, a, acc, rfl, e, ea, rfl, hacc, rpa, q⟩ := mtQ_ok S1 rr1 q1
    exact ⟨a, rfl, .inl ⟨⟨acc, SqL.of hacc⟩, k _ _ _ _ _ _ p1 g1 S1 (src_live ea) q⟩⟩
/-! ### ranges -/
def rngT (lo : Int) (n : Nat) : List T := (List.range n).map fun i => .int (lo + (i : Nat))
theorem rngT_at {lo : Int} {n i : Nat} {t : T} (h : (rngT lo n)[i]? = some t) : i < n ∧ t = .int (lo + (i : Nat)) := by
  unfold rngT at h
  have hl : i < n := by
    rcases Nat.lt_or_ge i n with z | z
    · exact z
    · rw [List.getElem?_eq_none (by simpa using z)] at h; cases h
  rw [List.getElem?_map, List.getElem?_range hl] at h
  exact ⟨hl, (Option.some.inj h).symm⟩
theorem rngT_len {lo : Int} {n : Nat} : (rngT lo n).length = n := by simp [rngT]
theorem src_rng {as0 : List Addr} {G0 : Hp} {lo : Int} {n : Nat} : SrcOk K B as0 G0 (Itr lo n) (.fix (rngT lo n)) := fun {as γ σ G H} _ g S _ => by
  have hl : (Src.fix (rngT lo n)).ts.length = n := rngT_len
  rw [hl]
  refine ⟨fun i hi => hi, Nat.le_refl _, fun i x H' hi y => ?_⟩
  obtain ⟨rfl, rfl⟩ := y
  refine ⟨G, .int (lo + (i : Nat)), ?_, Same.refl _, S, .int _⟩
  show (rngT lo n)[i]? = _
  unfold rngT
  rw [List.getElem?_map, List.getElem?_range hi]
  rfl
def intsQ (rs : List Rf) (γ : Env) (Q : List Int → Prop) : Prop := match rs with
  | [] => Q []
  | r :: rs => peek r γ fun t => match t with
    | .int i => intsQ rs γ fun is => Q (i :: is)
    | _ => False
theorem intsQ_ok {as : List Addr} {γ : Env} {σ : L2.St} {G H : Hp} (S : StR K B as γ σ G H) : ∀ {rs : List Rf} {vs : List V} {Q : List Int → Prop}, RRs K B.ex as G rs vs → intsQ rs γ Q → ∃ is : List Int, vs = is.map V.int ∧ Q is
  | _, _, Q, .nil, h => ⟨[], rfl, h⟩
  | _, _, Q, .cons a b, h => by
    obtain ⟨t, q, z⟩ := peek_ok S a h
    split at q
    · obtain ⟨is, rfl, q⟩ := intsQ_ok S b q
      exact ⟨_ :: is, by rw [int_any z]; rfl, q⟩
    · exact q.elim
def vRng1 (wa : Env → (List Rf → Env → Prop) → XQ → Prop) : Env → (Src → Env → Prop) → XQ → Prop := fun γ Q X => wa γ (fun rs γ1 => intsQ rs γ1 fun is => match is with
  | [j] => (-(2 ^ 62) ≤ j ∧ j < 2 ^ 62) ∧ Q (.fix (rngT 0 j.toNat)) γ1
  | _ => False) X
def vRng2 (wa : Env → (List Rf → Env → Prop) → XQ → Prop) : Env → (Src → Env → Prop) → XQ → Prop := fun γ Q X => wa γ (fun rs γ1 => intsQ rs γ1 fun is => match is with
  | [i, j] => (-(2 ^ 62) ≤ i ∧ i < 2 ^ 62 ∧ -(2 ^ 62) ≤ j ∧ j < 2 ^ 62) ∧ Q (.fix (rngT i (j - i).toNat)) γ1
  | _ => False) X
section
variable {ta : TA} {wa : Env → (List Rf → Env → Prop) → XQ → Prop} [ha : VA K B E ta wa]
instance : VI K B E (iRng1 ta) (vRng1 wa) where
  run := fun {as γ σ G H R Qv Xv} S h k kx => by
    refine ha.run S h (fun rs γ1 as1 vs G1 H1 p1 g1 S1 rr1 q1 => ?_) kx
    obtain ⟨is, rfl, q⟩ := intsQ_ok S1 rr1 q1
    split at q
    · exact ⟨_, rfl, q.1.1, q.1.2, k _ _ _ _ _ _ p1 g1 S1 src_rng q.2⟩
    · exact q.elim
instance : VI K B E (iRng2 ta) (vRng2 wa) where
  run := fun {as γ σ G H R Qv Xv} S h k kx => by
    refine ha.run S h (fun rs γ1 as1 vs G1 H1 p1 g1 S1 rr1 q1 => ?_) kx
    obtain ⟨is, rfl, q⟩ := intsQ_ok S1 rr1 q1
    split at q
    · exact ⟨_, _, rfl, q.1, k _ _ _ _ _ _ p1 g1 S1 src_rng q.2⟩
    · exact q.elim
end
/-! ### enumerate, zip -/
def enumT : Int → List T → List T
  | _, [] => []
  | n, t :: r => .tup [.int n, t] :: enumT (n + 1) r
theorem enumT_len : ∀ (n : Int) (ts : List T), (enumT n ts).length = ts.length
  | _, [] => rfl
  | n, _ :: r => congrArg (· + 1) (enumT_len (n + 1) r)
theorem enumT_at : ∀ (n : Int) (ts : List T) (i : Nat), (enumT n ts)[i]? = ts[i]?.map fun t => .tup [.int (n + (i : Nat)), t]
  | _, [], i => by simp [enumT]
  | n, t :: r, 0 => by simp [enumT]
  | n, t :: r, i + 1 => by
    show (enumT (n + 1) r)[i]? = _
    rw [enumT_at (n + 1) r i]
    have e : n + 1 + (i : Int) = n + ((i + 1 : Nat) : Int) := by omega
    rw [e]; rfl
def zipT : List T → List T → List T
  | a :: as, b :: bs => .tup [a, b] :: zipT as bs
  | _, _ => []
theorem zipT_len : ∀ (as bs : List T), (zipT as bs).length = min as.length bs.length
  | [], _ => by simp [zipT]
  | _ :: _, [] => by simp [zipT]
  | a :: as, b :: bs => by
    show (zipT as bs).length + 1 = min (as.length + 1) (bs.length + 1)
    rw [zipT_len as bs]; omega
theorem zipT_at : ∀ (as bs : List T) (i : Nat) {a b : T}, as[i]? = some a → bs[i]? = some b → (zipT as bs)[i]? = some (.tup [a, b])
  | x :: as, y :: bs, 0, a, b, h1, h2 => by cases h1; cases h2; rfl
  | x :: as, y :: bs, i + 1, a, b, h1, h2 => zipT_at as bs i h1 h2
  | [], _, _, _, _, h1, _ => by cases h1
  | _ :: _, [], _, _, _, _, h2 => by cases h2
theorem zipT_inv {as bs : List T} {i : Nat} {t : T} (h : (zipT as bs)[i]? = some t) : ∃ a b, as[i]? = some a ∧ bs[i]? = some b ∧ t = .tup [a, b] := by
  have hl : i < (zipT as bs).length := (List.getElem?_eq_some_iff.mp h).1
  rw [zipT_len] at hl
  have h1 : as[i]? = some as[i] := List.getElem?_eq_getElem (by omega)
  have h2 : bs[i]? = some bs[i] := List.getElem?_eq_getElem (by omega)
  refine ⟨_, _, h1, h2, ?_⟩
  rw [zipT_at as bs i h1 h2] at h
  exact (Option.some.inj h).symm
theorem src_pair {as0 : List Addr} {G0 : Hp} {J : It} {n : Nat} {xs ys : Nat → Option V} {ts : List T} (w : Walk J n (Same G0) (YPair xs ys)) (hn : ts.length = n)
    (hp : ∀ (i : Nat) (x y : V), i < n → xs i = some x → ys i = some y → ∃ a b, ts[i]? = some (.tup [a, b]) ∧ Rp K G0 x a ∧ Rp K G0 y b) : SrcOk K B as0 G0 J (.fix ts) := fun {as γ σ G H} _ g S _ => by
  have hl : (Src.fix ts).ts.length = n := hn
  rw [hl]
  have gv := g.trans S.vw
  refine ⟨fun i hi => w.goes i H hi gv, w.stops H gv, fun i x H' hi y => ?_⟩
  obtain ⟨Tp, u, v, rfl, hT, rfl, h1, h2⟩ := w.yields i H x H' hi gv y
  obtain ⟨a, b, e, ra, rb⟩ := hp i u v hi h1 h2
  obtain ⟨S', g'⟩ := S.lay (o := .tup [u, v]) hT
  exact ⟨_, _, e, g', S', .tup (SqT.of upd_same) (.cons (ra.mono (g.trans g')) (.cons (rb.mono (g.trans g')) .nil))⟩
def vEnum (wa : Env → (List Rf → Env → Prop) → XQ → Prop) : Env → (Src → Env → Prop) → XQ → Prop := fun γ Q X => wa γ (fun rs γ1 => arg1 rs fun r => toT r γ1 fun t γ2 => seqT t fun _ ts => Q (.fix (enumT 0 ts)) γ2) X
def vZip (wa : Env → (List Rf → Env → Prop) → XQ → Prop) : Env → (Src → Env → Prop) → XQ → Prop := fun γ Q X => wa γ (fun rs γ1 => match rs with
  | [r, r2] => toT r γ1 fun t γ2 => toT r2 γ2 fun t2 γ3 => seqT t fun _ ts => seqT t2 fun _ us => Q (.fix (zipT ts us)) γ3
  | _ => False) X
theorem seq_rp {G : Hp} {v : V} {t : T} {Q : Bool → List T → Prop} (rp : Rp K G v t) (h : seqT t Q) : ∃ b ts a acc, v = .ref a ∧ SqA K G a acc ∧ RpAll K G acc ts ∧ Q b ts := by
  cases rp with
  | lst e a => exact ⟨true, _, _, _, rfl, .inl (SqL.of e), a, h⟩
  | scr e a => exact ⟨true, _, _, _, rfl, .inl e, a, h⟩
  | tup e a => exact ⟨false, _, _, _, rfl, .inr e, a, h⟩
  | _ => exact h.elim
section
variable {ta : TA} {wa : Env → (List Rf → Env → Prop) → XQ → Prop} [ha : VA K B E ta wa]
instance : VI K B E (iEnumQ K ta) (vEnum wa) where
  run := fun {as γ σ G H R Qv Xv} S h k kx => by
    refine ha.run S h (fun rs γ1 as1 vs G1 H1 p1 g1 S1 rr1 q1 => ?_) kx
    unfold arg1 at q1
    split at q1
    · cases rr1 with | cons a0 b =>
      cases b
      obtain ⟨t, γ2, G2, g2, S2, rp, q⟩ := toT_ok S1 a0 q1
      obtain ⟨b, ts, a, acc, rfl, sq, rpa, q⟩ := seq_rp rp q
      refine ⟨a, acc, G2, rfl, sq, S2.vw, fun J w => k _ _ _ _ _ _ p1 (g1.trans g2) S2 (src_pair w (by rw [enumT_len]; exact rpa.length.symm) fun i x y hi h1 h2 => ?_) q⟩
      cases h1
      obtain ⟨t, et, rt⟩ := rpa.get h2
      exact ⟨_, t, by rw [enumT_at, et, Int.zero_add]; rfl, .int _, rt⟩
    · exact q1.elim
instance : VI K B E (iZipQ K ta) (vZip wa) where
  run := fun {as γ σ G H R Qv Xv} S h k kx => by
    refine ha.run S h (fun rs γ1 as1 vs G1 H1 p1 g1 S1 rr1 q1 => ?_) kx
    split at q1
    · cases rr1 with | cons a0 b =>
      cases b with | cons a1 b =>
      cases b
      obtain ⟨t, γ2, G2, g2, S2, rp, q⟩ := toT_ok S1 a0 q1
      obtain ⟨t2, γ3, G3, g3, S3, rp2, q⟩ := toT_ok S2 (RR.mono a1 (List.prefix_refl _) g2) q
      obtain ⟨b, ts, a, acc, rfl, sq, rpa, q⟩ := seq_rp (rp.mono g3) q
      obtain ⟨b2, us, a2, acc2, rfl, sq2, rpa2, q⟩ := seq_rp rp2 q
      refine ⟨a, a2, acc, acc2, G3, rfl, sq, sq2, S3.vw, fun J w => k _ _ _ _ _ _ p1 ((g1.trans g2).trans g3) S3 (src_pair w (by rw [zipT_len, rpa.length, rpa2.length]) fun i x y hi h1 h2 => ?_) q⟩
      obtain ⟨t, et, rt⟩ := rpa.get h1
      obtain ⟨t2, et2, rt2⟩ := rpa2.get h2
      exact ⟨t, t2, zipT_at _ _ _ et et2, rt, rt2⟩
    · exact q1.elim
end
/-! ### for -/
/-- I: the invariant by the turn -/
structure ForI (src : Src) (n0 : Nat) (γ1 : Env) (step : T → Env → (Env → Prop) → Prop) (done : Env → Prop) : Prop where
  ex : ∃ I : Nat → Env → Prop, (∃ γ2, Le n0 γ1 γ2 ∧ I 0 γ2) ∧ (∀ i γ2, I i γ2 → src.on γ2) ∧
    (∀ i t γ2, src.ts[i]? = some t → I i γ2 → step t γ2 fun γ4 => ∃ γ5, Le n0 γ4 γ5 ∧ I (i + 1) γ5) ∧ ∀ γ2, I src.ts.length γ2 → done γ2
def vFor (wi : Env → (Src → Env → Prop) → XQ → Prop) (wg : Rf → Env → (Env → Prop) → XQ → Prop) (wb : VSW) : VSW := fun γ D => wi γ (fun src γ1 =>
  ForI src γ1.mem.length γ1 (fun t γ2 N => wg (.val t) γ2 (fun γ3 => wb γ3 { D with nx := N, ct := N, bk := D.nx }) D.ex) D.nx) D.ex
instance {wi : TI} {g : TG} {tb : TS} {vi : Env → (Src → Env → Prop) → XQ → Prop} {vg : Rf → Env → (Env → Prop) → XQ → Prop} {is : List Nat} {vb : VSW} [hi : VI K B E wi vi] [hg : VG K B E g vg is] [hb : VS K B E tb vb] : VS K B E (tFor wi g tb) (vFor vi vg vb) where
  run := fun {as γ σ G H D Dv} S h k => by
    refine hi.run S h (fun src γ1 as1 G1 H1 J p1 g1 S1 ok q1 => ?_) (k.ex σ)
    obtain ⟨⟨I, ⟨γ0, le0, i0⟩, on, step, done⟩⟩ := q1
    obtain ⟨as0, G0, pp0, gg0, SS0⟩ := StR.le le0 S1 (List.prefix_refl _) S1.mlen
    refine ⟨fun i m σ' H' => m = src.ts.length - i ∧ i ≤ src.ts.length ∧ ∃ as' γ' G', as1 <+: as' ∧ Same G1 G' ∧ StR K B as' γ' σ' G' H' ∧ I i γ', ⟨_, rfl, Nat.zero_le _, as0, γ0, G0, pp0, gg0, SS0, i0⟩, ?_⟩
    rintro i m σ' H' ⟨rfl, hi', as', γ', G', p', g', S', inv⟩
    obtain ⟨go, stop, yld⟩ := ok p' g' S' (on i γ' inv)
    by_cases hlt : i < src.ts.length
    · refine .inr ⟨go i hlt, fun σ'' H'' => i + 1 ≤ src.ts.length ∧ ∃ as'' γ'' G'', as1 <+: as'' ∧ Same G1 G'' ∧ StR K B as'' γ'' σ'' G'' H'' ∧ I (i + 1) γ'', fun σ'' H'' q => ⟨_, by omega, rfl, q.1, q.2⟩, fun x H'' hy => ?_⟩
      obtain ⟨G2, t, et, g2, S2, rp⟩ := yld i x H'' hlt hy
      have k2 : KontD K B E as' G2 D Dv := (k.mono p1 g1).mono p' (g'.trans g2)
      refine hg.run S2 (r := .val t) rp (step i t γ' et inv) (fun γ3 as3 σ3 G3 H3 p3 g3 S3 _ q3 => ?_) (k2.ex σ')
      have k3 := k2.mono p3 g3
      have again : KontS K B as3 G3 (fun σ'' H'' => i + 1 ≤ src.ts.length ∧ ∃ as'' γ'' G'', as1 <+: as'' ∧ Same G1 G'' ∧ StR K B as'' γ'' σ'' G'' H'' ∧ I (i + 1) γ'') (fun γ4 => ∃ γ5, Le γ1.mem.length γ4 γ5 ∧ I (i + 1) γ5) := by
        rintro γ4 as4 σ4 G4 H4 p4 g4 S4 ⟨γ5, le5, i5⟩
        obtain ⟨as5, G5, p5, g5, S5⟩ := StR.le le5 S4 ((p'.trans p3).trans p4) S1.mlen
        exact ⟨hlt, as5, γ5, G5, p5, (((g'.trans g2).trans g3).trans g4).trans g5, S5, i5⟩
      exact hb.run S3 q3 ⟨again, k3.nx, again, k3.rt, k3.ex⟩
    · have e : i = src.ts.length := by omega
      subst e
      exact .inl ⟨stop, k.nx _ _ _ _ _ (p1.trans p') (g1.trans g') S' (done γ' inv)⟩
/-! ### while -/
structure WhileI (n0 : Nat) (γ1 : Env) (step : Env → (Env → Prop) → Prop) : Prop where
  ex : ∃ I : Nat → Env → Prop, (∃ m γ2, Le n0 γ1 γ2 ∧ I m γ2) ∧ ∀ m γ2, I m γ2 → step γ2 fun γ4 => ∃ γ5 m', Le n0 γ4 γ5 ∧ m' < m ∧ I m' γ5
def vWhile (wc : Env → (Bool → Env → Prop) → XQ → Prop) (wb : VSW) : VSW := fun γ D => WhileI γ.mem.length γ fun γ2 N => wc γ2 (fun c γ3 => br c (wb γ3 { D with nx := N, ct := N, bk := D.nx }) (D.nx γ3)) D.ex
instance {c : TT} {tb : TS} {wc : Env → (Bool → Env → Prop) → XQ → Prop} {vb : VSW} [hc : VT K B E c wc] [hb : VS K B E tb vb] : VS K B E (tWhile c tb) (vWhile wc vb) where
  run := fun {as γ σ G H D Dv} S h k => by
    obtain ⟨⟨I, ⟨m0, γ0, le0, i0⟩, step⟩⟩ := h
    obtain ⟨as0, G0, pp0, gg0, SS0⟩ := StR.le le0 S (List.prefix_refl _) S.mlen
    refine ⟨fun m σ' H' => ∃ as' γ' G', as <+: as' ∧ Same G G' ∧ StR K B as' γ' σ' G' H' ∧ I m γ', ⟨m0, as0, γ0, G0, pp0, gg0, SS0, i0⟩, ?_⟩
    rintro m σ' H' ⟨as', γ', G', p', g', S', inv⟩
    have k2 : KontD K B E as' G' D Dv := k.mono p' g'
    refine hc.run S' (step m γ' inv) (fun b γ3 as3 b' G3 H3 p3 g3 S3 e q3 => ?_) (k2.ex σ')
    cases e
    have k3 := k2.mono p3 g3
    cases b with
    | false => exact k3.nx _ _ _ _ _ (List.prefix_refl _) (Same.refl _) S3 q3
    | true =>
      refine ⟨fun σ'' H'' => ∃ m', m' < m ∧ ∃ as'' γ'' G'', as <+: as'' ∧ Same G G'' ∧ StR K B as'' γ'' σ'' G'' H'' ∧ I m' γ'', fun _ _ q => q, ?_⟩
      have again : KontS K B as3 G3 (fun σ'' H'' => ∃ m', m' < m ∧ ∃ as'' γ'' G'', as <+: as'' ∧ Same G G'' ∧ StR K B as'' γ'' σ'' G'' H'' ∧ I m' γ'') (fun γ4 => ∃ γ5 m', Le γ.mem.length γ4 γ5 ∧ m' < m ∧ I m' γ5) := by
        rintro γ4 as4 σ4 G4 H4 p4 g4 S4 ⟨γ5, m', le5, hm, i5⟩
        obtain ⟨as5, G5, p5, g5, S5⟩ := StR.le le5 S4 ((p'.trans p3).trans p4) S.mlen
        exact ⟨m', hm, as5, γ5, G5, p5, ((g'.trans g3).trans g4).trans g5, S5, i5⟩
      exact hb.run S3 q3 ⟨again, k3.nx, again, k3.rt, k3.ex⟩
/-! ### comprehensions -/
class MemL (i : Nat) (vs : List Nat) : Prop where
  h : i ∈ vs
class SubL (is vs : List Nat) : Prop where
  h : ∀ i ∈ is, i ∈ vs
instance memL0 {i : Nat} {vs : List Nat} : MemL i (i :: vs) := ⟨List.mem_cons_self⟩
instance memL1 {i v : Nat} {vs : List Nat} [h : MemL i vs] : MemL i (v :: vs) := ⟨List.mem_cons_of_mem _ h.h⟩
instance subL0 {vs : List Nat} : SubL [] vs := ⟨fun _ h => by cases h⟩
instance subL1 {i : Nat} {is vs : List Nat} [h : MemL i vs] [k : SubL is vs] : SubL (i :: is) vs := ⟨fun j hj => by
  rcases List.mem_cons.mp hj with rfl | hj
  · exact h.h
  · exact k.h j hj⟩
def Env.wipe (γ : Env) : List Nat → Env
  | [] => γ
  | v :: vs => (Env.wipe γ vs).unset v
theorem StR.wipe {as : List Addr} {γ : Env} {σ : L2.St} {G H : Hp} (S : StR K B as γ σ G H) : ∀ vs : List Nat, StR K B as (γ.wipe vs) σ G H
  | [] => S
  | v :: vs => (StR.wipe S vs).unset v
theorem Env.wipe_len (γ : Env) : ∀ vs : List Nat, (γ.wipe vs).sl.length = γ.sl.length
  | [] => rfl
  | v :: vs => by show ((γ.wipe vs).sl.set v none).length = _; rw [List.length_set, Env.wipe_len γ vs]
theorem Env.wipe_none (γ : Env) {i : Nat} {r : Rf} : ∀ {vs : List Nat}, (γ.wipe vs).sl[i]? = some (some r) → i ∉ vs
  | [], _ => by simp
  | v :: vs, h => by
    have h : ((γ.wipe vs).sl.set v none)[i]? = some (some r) := h
    by_cases e : v = i
    · subst e
      rcases Nat.lt_or_ge v (γ.wipe vs).sl.length with z | z
      · rw [List.getElem?_set_self z] at h; cases h
      · rw [List.getElem?_eq_none (by simpa using z)] at h; cases h
    · rw [List.getElem?_set_ne e] at h
      have := Env.wipe_none γ h
      exact fun hm => (List.mem_cons.mp hm).elim (fun z => e z.symm) this
theorem wipe_wipe (σ : L2.St) : ∀ vs : List Nat, wipe (wipe σ vs) vs = wipe σ vs := fun vs => by
  apply List.ext_getElem?
  intro j
  by_cases hm : j ∈ vs
  · have aux : ∀ (ws : List Nat) (τ : L2.St), j ∈ ws → (wipe τ ws)[j]? = if j < τ.length then some none else none := fun ws => by
      induction ws with
      | nil => intro τ h; cases h
      | cons w ws ih2 =>
        intro τ h
        show ((wipe τ ws).set w none)[j]? = _
        by_cases hw : j = w
        · subst hw
          by_cases hl : j < τ.length
          · rw [List.getElem?_set_self (by rw [wipe_length]; exact hl), if_pos hl]
          · rw [List.getElem?_eq_none (by rw [List.length_set, wipe_length]; omega), if_neg hl]
        · rw [List.getElem?_set_ne (Ne.symm hw)]
          exact ih2 τ ((List.mem_cons.mp h).elim (fun z => absurd z hw) fun z => z)
    rw [aux vs _ hm, aux vs _ hm, wipe_length]
  · rw [wipe_out hm]
/-- the slots that are told nothing of may hold anything -/
theorem StR.rewipe {as : List Addr} {γ : Env} {σ σ' : L2.St} {G H : Hp} {vs : List Nat} (S : StR K B as γ σ G H) (h : L2.wipe σ' vs = L2.wipe σ vs) (hn : ∀ (i : Nat) (r : Rf), γ.sl[i]? = some (some r) → i ∉ vs) : StR K B as γ σ' G H := by
  refine S.slots ?_ fun i r e => ?_
  · have := congrArg List.length h
    rw [wipe_length, wipe_length] at this
    exact this
  · have e2 : (L2.wipe σ' vs)[i]? = (L2.wipe σ vs)[i]? := by rw [h]
    rw [wipe_out (hn i r e), wipe_out (hn i r e)] at e2
    exact e2
def noX : XQ := fun _ _ => False
theorem kxno {K : PySem.W.Frag} {B : Bs} {as : List Addr} {σ : L2.St} {G : Hp} {E : XK} : KontX K B as σ G E noX := fun _ _ _ _ _ _ _ _ _ _ h => h.elim
def appQ (k : Nat) (t : T) (γ : Env) (Q : Env → Prop) : Prop := match nth γ.mem k with
  | some (.mu (.lst ts)) => ts.length < sizeLine ∧ Q (γ.put k (.mu (.lst (ts ++ [t]))))
  | _ => False
structure LcI (src : Src) (γ1 : Env) (vs : List Nat) (step : T → Env → (Env → Prop) → Prop) (Q : RQ) : Prop where
  ex : ∃ I : Nat → Env → Prop, (∃ γ2, Le (γ1.mem.length + 1) ((γ1.push (.mu (.lst []))).wipe vs) γ2 ∧ I 0 γ2) ∧ (∀ i γ2, I i γ2 → src.on γ2) ∧
    (∀ i t γ2, src.ts[i]? = some t → I i γ2 → step t (γ2.wipe vs) fun γ4 => ∃ γ5, Le (γ1.mem.length + 1) (γ4.wipe vs) γ5 ∧ I (i + 1) γ5) ∧ ∀ γ2, I src.ts.length γ2 → Q (.ref γ1.mem.length) γ2
def vLc (wi : Env → (Src → Env → Prop) → XQ → Prop) (wg : Rf → Env → (Env → Prop) → XQ → Prop) (wt : Env → (Bool → Env → Prop) → XQ → Prop) (we : VW) (vs : List Nat) : VW := fun γ Q X => wi γ (fun src γ1 =>
  LcI src γ1 vs (fun t γ2 N => wg (.val t) γ2 (fun γ3 => wt γ3 (fun c γ4 => br c (we γ4 (fun r γ5 => toT r γ5 fun t' γ6 => appQ γ1.mem.length t' γ6 N) noX) (N γ4)) noX) noX) Q) X
def vYes : Env → (Bool → Env → Prop) → XQ → Prop := fun γ Q _ => Q true γ
instance : VT K B E tYes vYes := ⟨fun {as γ σ G H Q Qv Xv} S h k _ => k true γ as true G H (List.prefix_refl _) (Same.refl _) S rfl h⟩
theorem app_ok {as : List Addr} {γ : Env} {σ : L2.St} {G H : Hp} {k : Nat} {a : Addr} {t : T} {v : V} {Q : Env → Prop} (S : StR K B as γ σ G H) (ea : as[k]? = some a) (rp : Rp K G v t) (h : appQ k t γ Q) :
    ∃ acc, H a = some (.lst acc) ∧ acc.length < sizeLine ∧ ∃ γ', StR K B as γ' σ G (L2.upd H a (.lst (acc ++ [v]))) ∧ Q γ' := by
  unfold appQ at h
  rw [nth_eq] at h
  split at h
  · rename_i ts e
    obtain ⟨_, acc, hacc, rpa⟩ := S.mem k a _ ea e
    exact ⟨acc, hacc, by rw [rpa.length]; exact h.1, _, S.write (t := .lst (ts ++ [t])) e ea ⟨_, upd_same, rpa.snoc rp⟩, h.2⟩
  · exact h.elim
instance {wi : TI} {g : TG} {tt : TT} {te : TE} {vs is : List Nat} {vi : Env → (Src → Env → Prop) → XQ → Prop} {vg : Rf → Env → (Env → Prop) → XQ → Prop} {vt : Env → (Bool → Env → Prop) → XQ → Prop} {ve : VW} [hi : VI K B E wi vi] [hg : VG K B E g vg is] [ht : VT K B E tt vt] [he : VE K B E te ve] [hs : SubL is vs] :
    VE K B E (tLc wi g tt te vs) (vLc vi vg vt ve vs) where
  run := fun {as γ σ G H Q Qv Xv} S h k kx => by
    refine hi.run S h (fun src γ1 as1 G1 H1 J p1 g1 S1 ok q1 => ?_) kx
    intro Da hD
    obtain ⟨⟨I, ⟨γ0, le0, i0⟩, on, step, done⟩⟩ := q1
    have SD := (S1.alloc (t := .lst []) (o := .lst []) hD ⟨[], upd_same, .nil⟩)
    have lD : (as1 ++ [Da]).length = γ1.mem.length + 1 := by rw [List.length_append, S1.mlen]; rfl
    have aD : (as1 ++ [Da])[γ1.mem.length]? = some Da := by rw [← S1.mlen, List.getElem?_append_right (Nat.le_refl _), Nat.sub_self]; rfl
    obtain ⟨as0, G0, pp0, gg0, SS0⟩ := StR.le le0 (SD.wipe vs) (List.prefix_refl _) lD
    refine ⟨fun i m H' => m = src.ts.length - i ∧ i ≤ src.ts.length ∧ ∃ as' γ' G', as1 ++ [Da] <+: as' ∧ Same G1 G' ∧ StR K B as' γ' σ G' H' ∧ I i γ', ⟨_, rfl, Nat.zero_le _, as0, γ0, G0, pp0, gg0, SS0, i0⟩, ?_⟩
    rintro i m H' ⟨rfl, hi', as', γ', G', p', g', S', inv⟩
    have pq : as1 <+: as' := (List.prefix_append _ _).trans p'
    obtain ⟨go, stop, yld⟩ := ok pq g' S' (on i γ' inv)
    by_cases hlt : i < src.ts.length
    · refine .inr ⟨go i hlt, fun H'' => i + 1 ≤ src.ts.length ∧ ∃ as'' γ'' G'', as1 ++ [Da] <+: as'' ∧ Same G1 G'' ∧ StR K B as'' γ'' σ G'' H'' ∧ I (i + 1) γ'', fun H'' q => ⟨_, by omega, rfl, q.1, q.2⟩, fun x H'' hy => ?_⟩
      obtain ⟨G2, t, et, g2, S2, rp⟩ := yld i x H'' hlt hy
      have S2' : StR K B as' (γ'.wipe vs) (L2.wipe σ vs) G2 H'' := (S2.wipe vs).rewipe (vs := vs) (wipe_wipe σ vs) fun i r e => Env.wipe_none γ' e
      refine hg.run S2' (r := .val t) rp (step i t γ' et inv) (fun γ3 as3 σ3 G3 H3 p3 g3 S3 w3 q3 => ?_) kxno
      have ws : L2.wipe σ3 vs = L2.wipe σ vs := (w3 vs hs.h).trans (wipe_wipe σ vs)
      refine ⟨ws, ht.run S3 q3 (fun b γ4 as4 b' G4 H4 p4 g4 S4 e q4 => ?_) kxno⟩
      cases e
      have gG : Same G1 G4 := (g'.trans g2).trans (g3.trans g4)
      have pP : as1 ++ [Da] <+: as4 := p'.trans (p3.trans p4)
      have fin : ∀ {γ5 : Env} {as5 : List Addr} {G5 H5 : Hp}, Same G1 G5 → as1 ++ [Da] <+: as5 → StR K B as5 γ5 σ3 G5 H5 → (∃ γ6, Le (γ1.mem.length + 1) (γ5.wipe vs) γ6 ∧ I (i + 1) γ6) → i + 1 ≤ src.ts.length ∧ ∃ as'' γ'' G'', as1 ++ [Da] <+: as'' ∧ Same G1 G'' ∧ StR K B as'' γ'' σ G'' H5 ∧ I (i + 1) γ'' := by
        rintro γ5 as5 G5 H5 gg pp S5 ⟨γ6, le6, i6⟩
        have S6 : StR K B as5 (γ5.wipe vs) σ G5 H5 := (S5.wipe vs).rewipe (vs := vs) ws.symm fun i r e => Env.wipe_none γ5 e
        obtain ⟨as7, G7, p7, g7, S7⟩ := StR.le le6 S6 pp lD
        exact ⟨hlt, as7, γ6, G7, p7, gg.trans g7, S7, i6⟩
      cases b with
      | false => exact fin gG pP S4 q4
      | true =>
        refine he.run S4 q4 (fun r γ5 as5 v G5 H5 p5 g5 S5 rr5 q5 => ?_) kxno
        obtain ⟨t', γ6, G6, g6, S6, rp6, q6⟩ := toT_ok S5 rr5 q5
        have pp : as1 ++ [Da] <+: as5 := pP.trans p5
        obtain ⟨acc, e1, e2, γ7, S7, q7⟩ := app_ok S6 (pre_get pp aD) rp6 q6
        exact ⟨acc, e1, e2, fin (gG.trans (g5.trans g6)) pp S7 q7⟩
    · have e : i = src.ts.length := by omega
      subst e
      refine .inl ⟨stop, k (.ref γ1.mem.length) _ _ _ _ _ (p1.trans pq) (g1.trans g') S' ⟨Da, pre_get p' aD, rfl⟩ (done γ' inv)⟩
end
end VL
set_option Elab.async false
set_option linter.all false
set_option maxRecDepth 100000
set_option maxHeartbeats 4000000
/-! promises over values: defs, calls -/
namespace VL
open PySem PySem.Spec PyProof.Rows L2 XR
/-- what a def gives: a settled value, a new open object -/
inductive Rt where
  | val (t : T) | new (t : T)
abbrev VSp := List T → (Rt → List T → Prop) → (VErr → List T → Prop) → Prop
def ioA : List Bool → List V → List Addr
  | true :: ks, .ref a :: vs => a :: ioA ks vs
  | _ :: ks, _ :: vs => ioA ks vs
  | _, _ => []
inductive ArgsR (K : PySem.W.Frag) (G H : Hp) : List Bool → List V → List T → Prop
  | nil : ArgsR K G H [] [] []
  | val {ks : List Bool} {vs : List V} {ts : List T} {v : V} {t : T} : Rp K G v t → ArgsR K G H ks vs ts → ArgsR K G H (false :: ks) (v :: vs) (t :: ts)
  | io {ks : List Bool} {vs : List V} {ts : List T} {a : Addr} {t : T} : G a = none → MutR K G H a t → ArgsR K G H ks vs ts → ArgsR K G H (true :: ks) (.ref a :: vs) (t :: ts)
structure Fin (K : PySem.W.Frag) (G H : Hp) (io : List Addr) (G' H' : Hp) (outs : List T) : Prop where
  gg : Same G G'
  vw : Same G' H'
  hh : ∀ a o, H a = some o → a ∉ io → H' a = some o
  out : ∀ a, H a ≠ none → G a = none → G' a = none
  outs : Paired (fun a t => MutR K G' H' a t) io outs
def RtR (K : PySem.W.Frag) (H G' H' : Hp) : Rt → V → Prop
  | .val t, v => Rp K G' v t
  | .new t, v => ∃ a, v = .ref a ∧ H a = none ∧ G' a = none ∧ MutR K G' H' a t
/-- the promise of a def: ks tells which parameters it changes -/
def vsp (K : PySem.W.Frag) (ks : List Bool) (fv : VSp) : Sp := fun vs H Q E => ∃ (G : Hp) (ts : List T) (Qv : Rt → List T → Prop) (Xv : VErr → List T → Prop),
  Same G H ∧ ArgsR K G H ks vs ts ∧ (ioA ks vs).Nodup ∧ fv ts Qv Xv ∧
  (∀ (rt : Rt) (outs : List T) (v : V) (G' H' : Hp), Fin K G H (ioA ks vs) G' H' outs → RtR K H G' H' rt v → Qv rt outs → Q v H') ∧
  (∀ (e : VErr) (outs : List T) (d : Option Addr) (G' H' : Hp), Fin K G H (ioA ks vs) G' H' outs → ErrF K G' d e.2 → Xv e outs → E (.ref e.1) d H')
theorem ArgsR.len {K : PySem.W.Frag} {G H : Hp} {ks : List Bool} {vs : List V} {ts : List T} (h : ArgsR K G H ks vs ts) : vs.length = ks.length := by
  induction h with
  | nil => rfl
  | val _ _ ih => simp [ih]
  | io _ _ _ ih => simp [ih]
/-! ### at the entry of a def -/
def slots0 : List Bool → List T → Nat → List (Option Rf)
  | true :: ks, _ :: ts, n => some (.ref n) :: slots0 ks ts (n + 1)
  | false :: ks, t :: ts, n => some (.val t) :: slots0 ks ts n
  | _, _, _ => []
def mem0 : List Bool → List T → List MO
  | true :: ks, t :: ts => .mu t :: mem0 ks ts
  | false :: ks, _ :: ts => mem0 ks ts
  | _, _ => []
def nones : Nat → List (Option Rf)
  | 0 => []
  | n + 1 => none :: nones n
theorem nones_len : ∀ n, (nones n).length = n
  | 0 => rfl
  | n + 1 => congrArg (· + 1) (nones_len n)
theorem nones_at : ∀ (n i : Nat) (r : Rf), (nones n)[i]? ≠ some (some r)
  | 0, i, r => by simp [nones]
  | n + 1, 0, r => by simp [nones]
  | n + 1, i + 1, r => nones_at n i r
def env0 (ks : List Bool) (ts : List T) (more : Nat) : Env := ⟨(mem0 ks ts).length, slots0 ks ts 0 ++ nones more, mem0 ks ts⟩
section
variable {K : PySem.W.Frag} {G H : Hp}
theorem mem0_ok : ∀ {ks : List Bool} {vs : List V} {ts : List T}, ArgsR K G H ks vs ts → (ioA ks vs).length = (mem0 ks ts).length ∧ ∀ (k : Nat) (a : Addr) (m : MO), (ioA ks vs)[k]? = some a → (mem0 ks ts)[k]? = some m → MemR K G H a m
  | _, _, _, .nil => ⟨rfl, fun k a m e _ => by cases e⟩
  | _, _, _, .val (v := v) a b => by
    obtain ⟨h1, h2⟩ := mem0_ok b
    cases v <;> exact ⟨h1, h2⟩
  | _, _, _, .io g a b => by
    obtain ⟨h1, h2⟩ := mem0_ok b
    refine ⟨congrArg (· + 1) h1, fun k c m e1 e2 => ?_⟩
    cases k with
    | zero => cases e1; cases e2; exact ⟨g, a⟩
    | succ k => exact h2 k c m e1 e2
theorem slots0_ok {ex : Addr × Value × Option Addr} : ∀ {ks : List Bool} {vs : List V} {ts : List T} (pre : List Addr), ArgsR K G H ks vs ts → (slots0 ks ts pre.length).length = vs.length ∧
    ∀ (i : Nat) (r : Rf), (slots0 ks ts pre.length)[i]? = some (some r) → ∃ v, vs[i]? = some v ∧ RR K ex (pre ++ ioA ks vs) G r v
  | _, _, _, pre, .nil => ⟨rfl, fun i r e => by cases e⟩
  | _, _, _, pre, .val (ks := ks) (vs := vs) (v := v) a b => by
    obtain ⟨h1, h2⟩ := slots0_ok (ex := ex) pre b
    have e0 : ioA (false :: ks) (v :: vs) = ioA ks vs := by cases v <;> rfl
    refine ⟨congrArg (· + 1) h1, fun i r e => ?_⟩
    rw [e0]
    cases i with
    | zero => cases e; exact ⟨_, rfl, a⟩
    | succ i => exact h2 i r e
  | _, _, _, pre, .io (ks := ks) (vs := vs) (a := p) g a b => by
    obtain ⟨h1, h2⟩ := slots0_ok (ex := ex) (pre ++ [p]) b
    rw [List.length_append, List.length_singleton] at h1 h2
    refine ⟨congrArg (· + 1) h1, fun i r e => ?_⟩
    have e0 : pre ++ ioA (true :: ks) (V.ref p :: vs) = (pre ++ [p]) ++ ioA ks vs := by
      show pre ++ (p :: ioA ks vs) = _
      simp
    cases i with
    | zero =>
      cases e
      refine ⟨_, rfl, p, ?_, rfl⟩
      show (pre ++ p :: ioA ks vs)[pre.length]? = some p
      rw [List.getElem?_append_right (Nat.le_refl _), Nat.sub_self]; rfl
    | succ i =>
      obtain ⟨v, e1, e2⟩ := h2 i r e
      exact ⟨v, e1, by rw [e0]; exact e2⟩
end
section
variable {K : PySem.W.Frag} {G H : Hp} {ks : List Bool} {vs : List V} {ts : List T} {N : List Str}
theorem start_ok (vw : Same G H) (ar : ArgsR K G H ks vs ts) (nd : (ioA ks vs).Nodup) (hN : vs.length ≤ N.length) : StR K ⟨G, H, ioA ks vs, (0, .none, none)⟩ (ioA ks vs) (env0 ks ts (N.length - vs.length)) (L2.start N vs) G H := by
  obtain ⟨m1, m2⟩ := mem0_ok ar
  obtain ⟨s1, s2⟩ := slots0_ok (ex := ((0 : Addr), Value.none, (none : Option Addr))) [] ar
  refine ⟨vw, Same.refl _, fun a _ h => h, fun a o e _ => e, m1.symm, List.prefix_refl _, m1, nd, fun k a e hk => ?_, m2, ?_, fun i r e => ?_⟩
  · have hl : k < (ioA ks vs).length := (List.getElem?_eq_some_iff.mp e).1
    have hk : (ioA ks vs).length ≤ k := hk
    omega
  · show (L2.start N vs).length = (slots0 ks ts 0 ++ nones _).length
    unfold L2.start
    rw [List.length_append, List.length_map, List.length_replicate, List.length_append, nones_len, show (slots0 ks ts 0).length = vs.length from s1]
  · have e : (slots0 ks ts 0 ++ nones (N.length - vs.length))[i]? = some (some r) := e
    have s1 : (slots0 ks ts 0).length = vs.length := s1
    rcases Nat.lt_or_ge i vs.length with hi | hi
    · rw [List.getElem?_append_left (by rw [s1]; exact hi)] at e
      obtain ⟨v, e1, e2⟩ := s2 i r e
      refine ⟨v, ?_, by simpa using e2⟩
      unfold L2.start
      rw [List.getElem?_append_left (by rw [List.length_map]; exact hi), List.getElem?_map, e1]
      rfl
    · rw [List.getElem?_append_right (by rw [s1]; exact hi)] at e
      exact absurd e (nones_at _ _ _)
end
/-! ### at its end -/
def outs : Nat → List MO → (List T → Prop) → Prop
  | 0, _, Q => Q []
  | n + 1, .mu t :: r, Q => outs n r fun ts => Q (t :: ts)
  | _ + 1, _, _ => False
def outsQ (γ : Env) (Q : List T → Prop) : Prop := outs γ.nio γ.mem Q
def finQ (Qv : Rt → List T → Prop) : RQ := fun r γ => match r with
  | .val t => outsQ γ fun o => Qv (.val t) o
  | .ref k => match nth γ.mem k with
    | some (.fz t) => outsQ γ fun o => Qv (.val t) o
    | some (.mu t) => match Nat.blt k γ.nio with
      | true => False
      | false => outsQ γ fun o => Qv (.new t) o
    | none => False
  | .err _ _ => False
def endsV (Qv : Rt → List T → Prop) : VEnds := ⟨fun γ => outsQ γ fun o => Qv (.val .non) o, finQ Qv, fun _ => False, fun _ => False, noX⟩
def endsX (Qv : Rt → List T → Prop) (Xv : VErr → List T → Prop) : VEnds := ⟨fun γ => outsQ γ fun o => Qv (.val .non) o, finQ Qv, fun _ => False, fun _ => False, fun e γ => outsQ γ fun o => Xv e o⟩
section
variable {K : PySem.W.Frag} {G H : Hp} {ks : List Bool} {vs : List V} {ts : List T} {as : List Addr} {γ : Env} {σ : L2.St} {G' H' : Hp}
theorem outs_ok {K : PySem.W.Frag} {G' H' : Hp} : ∀ {io : List Addr} {mem : List MO} {Q : List T → Prop}, (∀ (k : Nat) (a : Addr) (m : MO), io[k]? = some a → mem[k]? = some m → MemR K G' H' a m) → outs io.length mem Q → ∃ o, Paired (fun a t => MutR K G' H' a t) io o ∧ Q o
  | [], mem, Q, hm, h => ⟨[], .nil, h⟩
  | a :: io, [], Q, hm, h => by cases h
  | a :: io, .fz t :: mem, Q, hm, h => by cases h
  | a :: io, .mu t :: mem, Q, hm, h => by
    obtain ⟨o, p, q⟩ := outs_ok (io := io) (mem := mem) (fun k b m e1 e2 => hm (k + 1) b m e1 e2) h
    exact ⟨t :: o, .cons (hm 0 a _ rfl rfl).2 p, q⟩
theorem fin_of {io : List Addr} {ex : Addr × Value × Option Addr} {Q : List T → Prop} (S : StR K ⟨G, H, io, ex⟩ as γ σ G' H') (h : outsQ γ Q) : ∃ o, Fin K G H io G' H' o ∧ Q o := by
  unfold outsQ at h
  rw [S.nio] at h
  obtain ⟨o, p, q⟩ := outs_ok (K := K) (G' := G') (H' := H') (io := io) (mem := γ.mem) (fun k a m e1 e2 => S.mem k a m (pre_get S.pre e1) e2) h
  exact ⟨o, ⟨S.gg, S.vw, fun a o e n => S.hh a o e n, S.out, p⟩, q⟩
theorem rt_of {io : List Addr} {ex : Addr × Value × Option Addr} {Qv : Rt → List T → Prop} {r : Rf} {v : V} (S : StR K ⟨G, H, io, ex⟩ as γ σ G' H') (rr : RR K ex as G' r v) (h : finQ Qv r γ) : ∃ rt o, Fin K G H io G' H' o ∧ RtR K H G' H' rt v ∧ Qv rt o := by
  unfold finQ at h
  cases r with
  | val t =>
    obtain ⟨o, f, q⟩ := fin_of S h
    exact ⟨.val t, o, f, rr, q⟩
  | ref k =>
    obtain ⟨a, ea, rfl⟩ := rr
    simp only [nth_eq] at h
    split at h
    · rename_i t e
      obtain ⟨o, f, q⟩ := fin_of S h
      exact ⟨.val t, o, f, (S.mem k a _ ea e).2, q⟩
    · rename_i t e
      split at h
      · exact h.elim
      · rename_i hb
        have hk : io.length ≤ k := by
          have hn : γ.nio = io.length := S.nio
          rcases Nat.lt_or_ge k γ.nio with z | z
          · have : Nat.blt k γ.nio = true := by simpa [Nat.blt_eq] using z
            rw [this] at hb; cases hb
          · omega
        obtain ⟨o, f, q⟩ := fin_of S h
        obtain ⟨g1, g2⟩ := S.mem k a _ ea e
        exact ⟨.new t, o, f, ⟨a, rfl, S.fresh k a ea hk, g1, g2⟩, q⟩
    · exact h.elim
  | err D gs => exact h.elim
end
section
variable {P : Program} {w : World} {K : PySem.W.Frag} {mg : Str → Option Value} {base : Heap}
theorem okV {x qual : Str} {st : Stmt} {f : Addr} {fd : FuncData} {N ps : List Str} {k : Nat} {ks : List Bool} {fv : VSp} (F : Fun K x qual st f fd) (S : FnScope N ps (defScope st)) (hk : ks.length = ps.length) (hN : ps.length ≤ N.length)
    (body : ∀ (cdv : Value) (A : Around) (outer : List PySem.Env) (s : Shared) (H : Hp) (E : XK), Room k (A.deeper (envOfC qual (defScope st) s.heap.objs.size f cdv)) →
      ∃ t, PSs (cxOf CX0 P w K mg base N qual (defScope st) f cdv A outer s H E).nox (defBody st) t ∧ ∃ wv, (∀ B : Bs, VS K B (fun _ => E) t wv) ∧ ∀ (ts : List T) (Qv : Rt → List T → Prop) (Xv : VErr → List T → Prop), fv ts Qv Xv → wv (env0 ks ts (N.length - ps.length)) (endsV Qv)) :
    FnOk P w K mg base CX0 (k + 1) f fd ps (vsp K ks fv) := by
  refine F.ok S (fun vs H Q E h => ?_) fun cdv A outer s H vs Q E hr h => ?_
  · obtain ⟨G, ts, Qv, Xv, _, ar, _⟩ := h
    exact ar.len.trans hk
  · obtain ⟨t, hp, wv, hv, go⟩ := body cdv A outer s H E hr
    obtain ⟨G, ts, Qv, Xv, vw, ar, nd, hf, kr, kx⟩ := h
    refine ⟨t, hp, ?_⟩
    have hl : vs.length = ps.length := ar.len.trans hk
    have S0 := start_ok (N := N) vw ar nd (by omega)
    have q := go ts Qv Xv hf
    rw [← hl] at q
    refine (hv _).run S0 q ⟨fun γ' as' σ' G' H' _ _ S' z => ?_, fun _ _ _ _ _ _ _ _ z => z.elim, fun _ _ _ _ _ _ _ _ z => z.elim, fun σ' r γ' as' v G' H' _ _ S' rr z => ?_, fun σ' => kxno⟩
    · obtain ⟨o, f, z⟩ := fin_of S' z
      exact kr (.val .non) _ _ _ _ f Rp.non z
    · obtain ⟨rt, o, f, rr, z⟩ := rt_of S' rr z
      exact kr _ _ _ _ _ f rr z
theorem okVX {x qual : Str} {st : Stmt} {f : Addr} {fd : FuncData} {N ps : List Str} {k : Nat} {ks : List Bool} {fv : VSp} (F : Fun K x qual st f fd) (S : FnScope N ps (defScope st)) (hk : ks.length = ps.length) (hN : ps.length ≤ N.length)
    (body : ∀ (cdv : Value) (A : Around) (outer : List PySem.Env) (s : Shared) (H : Hp) (E : XK), Room k (A.deeper (envOfC qual (defScope st) s.heap.objs.size f cdv)) →
      ∃ t, PSs (cxOf (L2.CX P w) P w K mg base N qual (defScope st) f cdv A outer s H E) (defBody st) t ∧ ∃ wv, (∀ B : Bs, VS K B (fun _ => E) t wv) ∧ ∀ (ts : List T) (Qv : Rt → List T → Prop) (Xv : VErr → List T → Prop), fv ts Qv Xv → wv (env0 ks ts (N.length - ps.length)) (endsX Qv Xv)) :
    FnOk P w K mg base (L2.CX P w) (k + 1) f fd ps (vsp K ks fv) := by
  refine F.okX S (fun vs H Q E h => ?_) fun cdv A outer s H vs Q E hr h => ?_
  · obtain ⟨G, ts, Qv, Xv, _, ar, _⟩ := h
    exact ar.len.trans hk
  · obtain ⟨t, hp, wv, hv, go⟩ := body cdv A outer s H E hr
    obtain ⟨G, ts, Qv, Xv, vw, ar, nd, hf, kr, kx⟩ := h
    refine ⟨t, hp, ?_⟩
    have hl : vs.length = ps.length := ar.len.trans hk
    have S0 := start_ok (N := N) vw ar nd (by omega)
    have q := go ts Qv Xv hf
    rw [← hl] at q
    refine (hv _).run S0 q ⟨fun γ' as' σ' G' H' _ _ S' z => ?_, fun _ _ _ _ _ _ _ _ z => z.elim, fun _ _ _ _ _ _ _ _ z => z.elim, fun σ' r γ' as' v G' H' _ _ S' rr z => ?_, fun σ' e γ' as' d G' H' _ _ S' er z => ?_⟩
    · obtain ⟨o, f, z⟩ := fin_of S' z
      exact kr (.val .non) _ _ _ _ f Rp.non z
    · obtain ⟨rt, o, f, rr, z⟩ := rt_of S' rr z
      exact kr _ _ _ _ _ f rr z
    · obtain ⟨o, f, z⟩ := fin_of S' z
      exact kx e _ d G' H' f er z
end
/-! ### a call -/
inductive Ag where
  | v (t : T) | m (k : Nat)
def settle : List Bool → List Rf → Env → (List Ag → Env → Prop) → Prop
  | [], [], γ, Q => Q [] γ
  | false :: ks, r :: rs, γ, Q => toT r γ fun t γ1 => settle ks rs γ1 fun as γ2 => Q (.v t :: as) γ2
  | true :: ks, .ref k :: rs, γ, Q => settle ks rs γ fun as γ2 => Q (.m k :: as) γ2
  | _, _, _, _ => False
def agT : List Ag → Env → (List T → List Nat → Prop) → Prop
  | [], _, Q => Q [] []
  | .v t :: r, γ, Q => agT r γ fun ts kk => Q (t :: ts) kk
  | .m k :: r, γ, Q => match nth γ.mem k with
    | some (.mu t) => agT r γ fun ts kk => Q (t :: ts) (k :: kk)
    | _ => False
def putM : List Nat → List T → Env → (Env → Prop) → Prop
  | [], [], γ, Q => Q γ
  | k :: kk, t :: ts, γ, Q => putM kk ts (γ.put k (.mu t)) Q
  | _, _, _, _ => False
def retQ (rt : Rt) (γ : Env) (Q : RQ) : Prop := match rt with
  | .val t => Q (.val t) γ
  | .new t => γ.new t Q
def ndB : List Nat → Bool
  | [] => true
  | k :: r => match r.contains k with
    | true => false
    | false => ndB r
theorem ndB_ok : ∀ {kk : List Nat}, ndB kk = true → kk.Nodup
  | [], _ => .nil
  | k :: r, h => by
    unfold ndB at h
    split at h
    · cases h
    · rename_i e
      exact List.nodup_cons.mpr ⟨fun hm => by simp [hm] at e, ndB_ok h⟩
def callQ (ks : List Bool) (fv : VSp) (rs : List Rf) (γ : Env) (Q : RQ) (X : XQ) : Prop :=
  settle ks rs γ fun ags γ1 => agT ags γ1 fun ts kk => match ndB kk with
    | true => fv ts (fun rt o => putM kk o γ1 fun γ2 => retQ rt γ2 Q) (fun e o => putM kk o γ1 fun γ2 => X e γ2)
    | false => False
section
variable {K : PySem.W.Frag} {B : Bs} {as : List Addr} {σ : L2.St} {H : Hp}
def AgR (K : PySem.W.Frag) (as : List Addr) (G : Hp) : Ag → V → Prop
  | .v t, v => Rp K G v t
  | .m k, v => ∃ a, as[k]? = some a ∧ v = .ref a
theorem AgR.mono {G G' : Hp} (g : Same G G') : ∀ {ags : List Ag} {vs : List V}, Paired (AgR K as G) ags vs → Paired (AgR K as G') ags vs
  | _, _, .nil => .nil
  | .v t :: _, _, .cons a b => .cons (Rp.mono g a) (AgR.mono g b)
  | .m k :: _, _, .cons a b => .cons a (AgR.mono g b)
theorem settle_ok : ∀ {ks : List Bool} {rs : List Rf} {vs : List V} {γ : Env} {G : Hp} {Q : List Ag → Env → Prop}, StR K B as γ σ G H → RRs K B.ex as G rs vs → settle ks rs γ Q → ∃ ags γ' G', Same G G' ∧ StR K B as γ' σ G' H ∧ Paired (AgR K as G') ags vs ∧ ags.map (fun g => match g with | .v _ => false | .m _ => true) = ks ∧ Q ags γ'
  | [], _, _, γ, G, Q, S, .nil, h => ⟨[], γ, G, Same.refl _, S, .nil, rfl, h⟩
  | [], _, _, γ, G, Q, S, .cons _ _, h => by cases h
  | false :: ks, _, _, γ, G, Q, S, .cons a b, h => by
    obtain ⟨t, γ1, G1, g1, S1, rp, h⟩ := toT_ok S a h
    obtain ⟨ags, γ2, G2, g2, S2, p, e, q⟩ := settle_ok S1 (RRs.mono (List.prefix_refl _) g1 b) h
    exact ⟨.v t :: ags, γ2, G2, g1.trans g2, S2, .cons (rp.mono g2) p, by rw [List.map_cons, e], q⟩
  | true :: ks, .ref k :: _, _, γ, G, Q, S, .cons a b, h => by
    obtain ⟨ags, γ2, G2, g2, S2, p, e, q⟩ := settle_ok S b h
    exact ⟨.m k :: ags, γ2, G2, g2, S2, .cons a p, by rw [List.map_cons, e], q⟩
  | false :: _, _, _, _, _, _, _, .nil, h => by cases h
  | true :: _, _, _, _, _, _, _, .nil, h => by cases h
  | true :: _, .val _ :: _, _, _, _, _, _, .cons _ _, h => by cases h
  | true :: _, .err _ _ :: _, _, _, _, _, _, .cons _ _, h => by cases h
theorem agT_ok {γ : Env} {G : Hp} (S : StR K B as γ σ G H) : ∀ {ags : List Ag} {vs : List V} {Q : List T → List Nat → Prop}, Paired (AgR K as G) ags vs → agT ags γ Q → ∃ ts kk, ArgsR K G H (ags.map (fun g => match g with | .v _ => false | .m _ => true)) vs ts ∧
    Paired (fun (k : Nat) (a : Addr) => as[k]? = some a ∧ ∃ t, γ.mem[k]? = some (.mu t)) kk (ioA (ags.map (fun g => match g with | .v _ => false | .m _ => true)) vs) ∧ Q ts kk
  | [], _, Q, .nil, h => ⟨[], [], .nil, .nil, h⟩
  | .v t :: ags, v :: vs, Q, .cons a b, h => by
    obtain ⟨ts, kk, h1, h2, h3⟩ := agT_ok S b h
    refine ⟨t :: ts, kk, .val a h1, ?_, h3⟩
    cases v <;> exact h2
  | .m k :: ags, _, Q, .cons a b, h => by
    obtain ⟨p, ea, rfl⟩ := a
    unfold agT at h
    rw [nth_eq] at h
    split at h
    · rename_i t e
      obtain ⟨ts, kk, h1, h2, h3⟩ := agT_ok S b h
      obtain ⟨g1, g2⟩ := S.mem k p _ ea e
      exact ⟨t :: ts, k :: kk, .io g1 g2 h1, .cons ⟨ea, t, e⟩ h2, h3⟩
    · exact h.elim
def putAll : List Nat → List T → Env → Env
  | k :: kk, t :: ts, γ => putAll kk ts (γ.put k (.mu t))
  | _, _, γ => γ
theorem putM_all : ∀ (kk : List Nat) {ts : List T} {γ : Env} {Q : Env → Prop}, putM kk ts γ Q → Q (putAll kk ts γ)
  | [], [], _, _, h => h
  | _ :: kk, _ :: _, _, _, h => putM_all kk h
  | [], _ :: _, _, _, h => by cases h
  | _ :: _, [], _, _, h => by cases h
theorem putAll_sl : ∀ (kk : List Nat) (ts : List T) (γ : Env), (putAll kk ts γ).sl = γ.sl ∧ (putAll kk ts γ).nio = γ.nio ∧ (putAll kk ts γ).mem.length = γ.mem.length
  | [], _, _ => ⟨rfl, rfl, rfl⟩
  | _ :: _, [], _ => ⟨rfl, rfl, rfl⟩
  | k :: kk, t :: ts, γ => by
    obtain ⟨h1, h2, h3⟩ := putAll_sl kk ts (γ.put k (.mu t))
    exact ⟨h1, h2, h3.trans (by show (γ.mem.set _ _).length = _; simp)⟩
theorem putAll_at : ∀ (kk : List Nat) (ts : List T) (γ : Env) (j : Nat) (m : MO), kk.Nodup → kk.length = ts.length → (putAll kk ts γ).mem[j]? = some m → (j ∉ kk ∧ γ.mem[j]? = some m) ∨ ∃ (i : Nat) (t : T), kk[i]? = some j ∧ ts[i]? = some t ∧ m = .mu t
  | [], _, γ, j, m, _, _, e => .inl ⟨by simp, e⟩
  | _ :: _, [], γ, j, m, _, hl, e => by cases hl
  | k :: kk, t :: ts, γ, j, m, nd, hl, e => by
    obtain ⟨n1, n2⟩ := List.nodup_cons.mp nd
    rcases putAll_at kk ts (γ.put k (.mu t)) j m n2 (by simpa using hl) e with ⟨h1, h2⟩ | ⟨i, u, h1, h2, h3⟩
    · have h2 : (γ.mem.set k (.mu t))[j]? = some m := h2
      by_cases hj : j = k
      · subst hj
        have hlt : j < γ.mem.length := by
          rcases Nat.lt_or_ge j γ.mem.length with z | z
          · exact z
          · rw [List.getElem?_eq_none (by simpa using z)] at h2; cases h2
        rw [List.getElem?_set_self hlt] at h2
        cases h2
        exact .inr ⟨0, t, rfl, rfl, rfl⟩
      · rw [List.getElem?_set_ne (Ne.symm hj)] at h2
        exact .inl ⟨fun hm => (List.mem_cons.mp hm).elim hj h1, h2⟩
    · exact .inr ⟨i + 1, u, h1, h2, h3⟩
theorem paired_len {α β : Type} {F : α → β → Prop} : ∀ {xs : List α} {ys : List β}, Paired F xs ys → xs.length = ys.length
  | _, _, .nil => rfl
  | _, _, .cons _ t => congrArg (· + 1) (paired_len t)
theorem paired_get {α β : Type} {F : α → β → Prop} : ∀ {xs : List α} {ys : List β} {i : Nat} {x : α}, Paired F xs ys → xs[i]? = some x → ∃ y, ys[i]? = some y ∧ F x y
  | _, _, _, _, .nil, e => by cases e
  | _, _, 0, _, .cons a _, e => by cases e; exact ⟨_, rfl, a⟩
  | _, _, i + 1, _, .cons _ b, e => paired_get (i := i) b e
/-- behind the callee -/
theorem StR.called {γ : Env} {G G' H' : Hp} {io : List Addr} {kk : List Nat} {o : List T} (S : StR K B as γ σ G H) (pk : Paired (fun (k : Nat) (a : Addr) => as[k]? = some a ∧ ∃ t, γ.mem[k]? = some (.mu t)) kk io) (nd : kk.Nodup) (F : Fin K G H io G' H' o) : StR K B as (putAll kk o γ) σ G' H' := by
  obtain ⟨e1, e2, e3⟩ := putAll_sl kk o γ
  have hio : ∀ a ∈ io, ∃ k, as[k]? = some a := fun a ha => by
    obtain ⟨i, hi, e⟩ := List.getElem_of_mem ha
    have hk : i < kk.length := by rw [paired_len pk]; exact hi
    obtain ⟨y, hy, q, _⟩ := paired_get pk (List.getElem?_eq_getElem hk)
    rw [List.getElem?_eq_getElem hi, e] at hy
    cases hy
    exact ⟨_, q⟩
  have hl : kk.length = o.length := (paired_len pk).trans (paired_len F.outs)
  have known : ∀ (k : Nat) (a : Addr), as[k]? = some a → H a ≠ none := fun k a e => S.known e
  refine ⟨F.vw, S.gg.trans F.gg, fun a h1 h2 => F.out a ?_ (S.out a h1 h2), fun a u h1 h2 => F.hh a u (S.hh a u h1 h2) fun hm => ?_, e2.trans S.nio, S.pre, S.mlen.trans e3.symm, S.nd, S.fresh, fun j b m x1 x2 => ?_, S.slen.trans (by rw [e1]), fun i r x => ?_⟩
  · by_cases hm : a ∈ B.io
    · exact S.io_known hm
    · obtain ⟨u, hu⟩ := Option.ne_none_iff_exists'.mp h1
      rw [S.hh a u hu hm]; exact fun z => by cases z
  · obtain ⟨k, ek⟩ := hio a hm
    by_cases hk : k < B.io.length
    · refine h2 ?_
      obtain ⟨r, hr⟩ := S.pre
      rw [← hr, List.getElem?_append_left hk] at ek
      exact List.mem_of_getElem? ek
    · rw [S.fresh k a ek (by omega)] at h1; cases h1
  · rcases putAll_at kk o γ j m nd hl x2 with ⟨h1, h2⟩ | ⟨i, t, h1, h2, rfl⟩
    · have nb : b ∉ io := fun hm => by
        obtain ⟨i, hi, e⟩ := List.getElem_of_mem hm
        have hk : i < kk.length := by rw [paired_len pk]; exact hi
        obtain ⟨y, hy, q, _⟩ := paired_get pk (List.getElem?_eq_getElem hk)
        rw [List.getElem?_eq_getElem hi, e] at hy
        cases hy
        have : kk[i] = j := nodup_at S.nd q x1
        exact h1 (this ▸ List.getElem_mem hk)
      obtain ⟨u, hu⟩ := Option.ne_none_iff_exists'.mp (known j b x1)
      exact (S.mem j b m x1 h2).mono F.gg (by rw [hu]; exact F.hh b u hu nb) fun z => F.out b (known j b x1) z
    · obtain ⟨a, ha, q, t0, qt⟩ := paired_get pk h1
      have : a = b := by rw [q] at x1; exact Option.some.inj x1
      subst this
      have hi : i < io.length := (List.getElem?_eq_some_iff.mp ha).1
      obtain ⟨u, hu, mu⟩ := paired_get F.outs ha
      rw [h2] at hu
      cases hu
      exact ⟨F.out a (known j a x1) (S.mem j a _ x1 qt).1, mu⟩
  · rw [e1] at x
    obtain ⟨v, x1, x2⟩ := S.sl i r x
    exact ⟨v, x1, x2.mono (List.prefix_refl _) F.gg⟩
/-- an object that stands already is taken in -/
theorem StR.adopt {γ : Env} {G : Hp} {p : Addr} {t : T} (S : StR K B as γ σ G H) (h1 : B.H0 p = none) (h2 : p ∉ as) (h3 : G p = none) (q : MutR K G H p t) : StR K B (as ++ [p]) (γ.push (.mu t)) σ G H := by
  refine ⟨S.vw, S.gg, S.out, S.hh, S.nio, S.pre.trans (List.prefix_append _ _), by show (as ++ [p]).length = (γ.mem ++ [_]).length; simp [S.mlen], ?_, ?_, ?_, S.slen, fun i r e => ?_⟩
  · rw [List.nodup_append]
    exact ⟨S.nd, by simp, fun a ha b hb => by rw [List.mem_singleton.mp hb]; exact fun z => h2 (z ▸ ha)⟩
  · intro k a e hk
    rcases Nat.lt_trichotomy k as.length with hlt | rfl | hgt
    · rw [List.getElem?_append_left hlt] at e; exact S.fresh k a e hk
    · rw [List.getElem?_append_right (Nat.le_refl _), Nat.sub_self] at e
      obtain rfl : p = a := by simpa using e
      exact h1
    · rw [List.getElem?_eq_none (by simp; omega)] at e; cases e
  · intro k a m e1 e2
    rcases Nat.lt_trichotomy k as.length with hlt | rfl | hgt
    · rw [List.getElem?_append_left hlt] at e1
      have e2 : (γ.mem ++ [MO.mu t])[k]? = some m := e2
      rw [List.getElem?_append_left (by rw [← S.mlen]; exact hlt)] at e2
      exact S.mem k a m e1 e2
    · rw [List.getElem?_append_right (Nat.le_refl _), Nat.sub_self] at e1
      obtain rfl : p = a := by simpa using e1
      have e2 : (γ.mem ++ [MO.mu t])[as.length]? = some m := e2
      rw [S.mlen, List.getElem?_append_right (Nat.le_refl _), Nat.sub_self] at e2
      obtain rfl : MO.mu t = m := by simpa using e2
      exact ⟨h3, q⟩
    · rw [List.getElem?_eq_none (by simp; omega)] at e1; cases e1
  · obtain ⟨v, e1, e2⟩ := S.sl i r e
    exact ⟨v, e1, e2.mono (List.prefix_append _ _) (Same.refl _)⟩
/-- the callee's promise from the caller's side -/
theorem call_ok {ks : List Bool} {fv : VSp} {rs : List Rf} {vs : List V} {γ : Env} {G : Hp} {Q : VK} {E1 : XK} {Qv : RQ} {Xv : XQ} (S : StR K B as γ σ G H) (rr : RRs K B.ex as G rs vs) (h : callQ ks fv rs γ Qv Xv) (k : KontP K B as σ G (rR K B) Q Qv) (kx : KontX K B as σ G E1 Xv) : vsp K ks fv vs H Q E1 := by
  obtain ⟨ags, γ1, G1, g1, S1, p, e, h⟩ := settle_ok S rr h
  obtain ⟨ts, kk, ar, pk, h⟩ := agT_ok S1 p h
  rw [e] at ar pk
  split at h
  · rename_i nd
    have nd := ndB_ok nd
    refine ⟨G1, ts, _, _, S1.vw, ar, ?_, h, fun rt o v G' H' F r q => ?_, fun er o d G' H' F r q => ?_⟩
    · -- the open arguments are different objects
      rw [List.Nodup, List.pairwise_iff_getElem]
      intro i j hi0 hj0 hij e2
      have hl := paired_len pk
      have hi : i < kk.length := by omega
      have hj' : j < kk.length := by omega
      obtain ⟨a, ha, qa, _⟩ := paired_get pk (List.getElem?_eq_getElem hi)
      obtain ⟨b, hb, qb, _⟩ := paired_get pk (List.getElem?_eq_getElem hj')
      rw [List.getElem?_eq_getElem hi0] at ha
      rw [List.getElem?_eq_getElem hj0] at hb
      cases ha
      cases hb
      rw [e2] at qa
      have e3 : kk[i] = kk[j] := nodup_at S1.nd qa qb
      have e4 : i = j := (List.getElem_inj nd).mp e3
      omega
    · have S2 := S1.called pk nd F
      have q := putM_all _ q
      cases rt with
      | val t => exact k (.val t) _ _ _ _ _ (List.prefix_refl _) (g1.trans F.gg) S2 r q
      | new t =>
        obtain ⟨a, rfl, ha, hg, mu⟩ := r
        have S3 := S2.adopt (S1.new0 ha) (S1.newA ha) hg mu
        refine k (.ref (putAll kk o γ1).mem.length) _ _ _ _ _ (List.prefix_append _ _) (g1.trans F.gg) S3 ⟨a, ?_, rfl⟩ q
        rw [← S2.mlen, List.getElem?_append_right (Nat.le_refl _), Nat.sub_self]
        rfl
    · exact kx er _ _ d G' H' (List.prefix_refl _) (g1.trans F.gg) (S1.called pk nd F) r (putM_all _ q)
  · exact h.elim
end
end VL
set_option Elab.async false
set_option linter.all false
set_option maxRecDepth 100000
set_option maxHeartbeats 4000000
/-! readings over values: calls, methods, instances, own operators -/
namespace VL
open PySem PySem.Spec PyProof.Rows L2 XR
/-! ### a def that changes nothing and gives a flat value: its arguments are only looked at -/
def flatT : T → Bool
  | .non => true
  | .bl _ => true
  | .int _ => true
  | .str _ => true
  | _ => false
abbrev VSpF := List T → (T → Prop) → Prop
def falses : Nat → List Bool
  | 0 => []
  | n + 1 => false :: falses n
/-- .. as a promise with nothing open -/
def ofF (fv : VSpF) : VSp := fun ts Q _ => ∃ Q0 : T → Prop, fv ts Q0 ∧ ∀ t, flatT t = true → Q0 t → Q (.val t) []
def vspF (K : PySem.W.Frag) (fv : VSpF) : Sp := fun vs H Q _ => ∃ (G : Hp) (ts : List T) (Qv : T → Prop), Same G H ∧ RpAll K G vs ts ∧ fv ts Qv ∧ ∀ (t : T) (v : V) (H' : Hp), Same H H' → (∀ G' : Hp, Rp K G' v t) → Qv t → Q v H'
theorem flat_any {K : PySem.W.Frag} {G G' : Hp} {v : V} {t : T} (r : Rp K G v t) (f : flatT t = true) : Rp K G' v t := by
  cases r with
  | non => exact .non
  | bl b => exact .bl b
  | int i => exact .int i
  | str s h => exact .str s h
  | _ => cases f
theorem argsF {K : PySem.W.Frag} {G H : Hp} : ∀ {vs : List V} {ts : List T}, RpAll K G vs ts → ArgsR K G H (falses vs.length) vs ts
  | _, _, .nil => .nil
  | _, _, .cons a b => .val a (argsF b)
theorem ioF : ∀ (vs : List V), ioA (falses vs.length) vs = []
  | [] => rfl
  | v :: vs => by show ioA (false :: falses vs.length) (v :: vs) = []; cases v <;> exact ioF vs
theorem okF {P : Program} {w : World} {K : PySem.W.Frag} {mg : Str → Option Value} {base : Heap} {CX : CXT} {k : Nat} {f : Addr} {fd : FuncData} {ps : List Str} {fv : VSpF} (F : FnOk P w K mg base CX k f fd ps (vsp K (falses ps.length) (ofF fv)))
    (len : ∀ ts Q, fv ts Q → ts.length = ps.length) : FnOk P w K mg base CX k f fd ps (vspF K fv) := by
  refine F.imp fun vs H Q E h => ?_
  obtain ⟨G, ts, Qv, vw, rp, hf, kk⟩ := h
  have hl : ps.length = vs.length := (len ts Qv hf).symm.trans rp.length.symm
  rw [hl]
  refine ⟨G, ts, fun rt o => ∃ t, rt = .val t ∧ flatT t = true ∧ Qv t, fun _ _ => False, vw, argsF rp, by rw [ioF]; exact .nil, ⟨Qv, hf, fun t fl q => ⟨t, rfl, fl, q⟩⟩, fun rt o v G' H' F' r q => ?_, fun _ _ _ _ _ _ _ q => q.elim⟩
  · obtain ⟨t, rfl, fl, q⟩ := q
    rw [ioF] at F'
    exact kk t v H' (fun a o e => F'.hh a o e (by simp)) (fun G'' => flat_any r fl) q
/-- looked at, one after another -/
def peeks : List Rf → Env → (List T → Prop) → Prop
  | [], _, Q => Q []
  | r :: rs, γ, Q => peek r γ fun t => peeks rs γ fun ts => Q (t :: ts)
section
variable {K : PySem.W.Frag} {B : Bs} {as : List Addr} {γ : Env} {σ : L2.St} {G H : Hp}
/-- all that is open, settled for a while -/
def openG (as : List Addr) (G H : Hp) : Hp := fun a => match G a with
  | some o => some o
  | none => if a ∈ as then H a else none
theorem openG_same (S : StR K B as γ σ G H) : Same (openG as G H) H ∧ Same G (openG as G H) := by
  refine ⟨fun a o e => ?_, fun a o e => ?_⟩
  · unfold openG at e
    split at e
    · rename_i o' e2; cases e; exact S.vw _ _ e2
    · split at e
      · exact e
      · cases e
  · unfold openG; rw [e]
theorem openG_at {a : Addr} (h1 : a ∈ as) (h2 : G a = none) : openG as G H a = H a := by
  unfold openG; rw [h2]; simp [h1]
theorem MutR.openG {a : Addr} {t : T} (g : Same G (openG as G H)) (e : openG as G H a = H a) (h : MutR K G H a t) : Rp K (openG as G H) (.ref a) t := by
  cases t with
  | lst ts => obtain ⟨acc, q, z⟩ := h; exact .lst (e.trans q) (z.mono g)
  | obj C gs => obtain ⟨dx, fs, q, z⟩ := h; exact .obj (e.trans q) z.1 (z.2.mono g)
  | dk ks => obtain ⟨kvs, q, z⟩ := h; exact .dk (e.trans q) z.1 (z.2.mono g)
  | _ => exact h.elim
theorem peek_open {r : Rf} {v : V} {Q : T → Prop} (S : StR K B as γ σ G H) (rr : RR K B.ex as G r v) (h : peek r γ Q) : ∃ t, Q t ∧ Rp K (openG as G H) v t := by
  have g := (openG_same S).2
  cases r with
  | val t => exact ⟨t, h, Rp.mono g rr⟩
  | ref k =>
    obtain ⟨a, ea, rfl⟩ := rr
    unfold peek at h
    simp only [nth_eq] at h
    split at h
    · rename_i t e
      obtain ⟨_, q⟩ := S.mem k a _ ea e
      exact ⟨t, h, q.mono g⟩
    · rename_i t e
      obtain ⟨hn, q⟩ := S.mem k a _ ea e
      exact ⟨t, h, q.openG g (openG_at (List.mem_of_getElem? ea) hn)⟩
    · exact h.elim
  | err D gs => exact h.elim
theorem peeks_open (S : StR K B as γ σ G H) : ∀ {rs : List Rf} {vs : List V} {Q : List T → Prop}, RRs K B.ex as G rs vs → peeks rs γ Q → ∃ ts, RpAll K (openG as G H) vs ts ∧ Q ts
  | _, _, Q, .nil, h => ⟨[], .nil, h⟩
  | _, _, Q, .cons a b, h => by
    obtain ⟨t, h, rp⟩ := peek_open S a h
    obtain ⟨ts, rps, q⟩ := peeks_open S b h
    exact ⟨t :: ts, .cons rp rps, q⟩
def callF (fv : VSpF) (rs : List Rf) (γ : Env) (Q : RQ) : Prop := peeks rs γ fun ts => fv ts fun t => Q (.val t) γ
theorem callF_ok {fv : VSpF} {rs : List Rf} {vs : List V} {Q : VK} {E1 : XK} {Qv : RQ} (S : StR K B as γ σ G H) (rr : RRs K B.ex as G rs vs) (h : callF fv rs γ Qv) (k : KontP K B as σ G (rR K B) Q Qv) : vspF K fv vs H Q E1 := by
  obtain ⟨ts, rp, h⟩ := peeks_open S rr h
  exact ⟨_, ts, _, (openG_same S).1, rp, h, fun t v H' x r q => k (.val t) γ as v G H' (List.prefix_refl _) (Same.refl _) (S.grow x) (r G) q⟩
end
/-! ### a promise of either kind, asked with numbered values -/
class VF (K : PySem.W.Frag) (sp : Sp) (w : outParam (List Rf → Env → RQ → XQ → Prop)) : Prop where
  run : ∀ {B : Bs} {as : List Addr} {γ : Env} {σ : L2.St} {G H : Hp} {rs : List Rf} {vs : List V} {Q : VK} {E1 : XK} {Qv : RQ} {Xv : XQ}, StR K B as γ σ G H → RRs K B.ex as G rs vs → w rs γ Qv Xv → KontP K B as σ G (rR K B) Q Qv → KontX K B as σ G E1 Xv → sp vs H Q E1
instance {K : PySem.W.Frag} {ks : List Bool} {fv : VSp} : VF K (vsp K ks fv) (callQ ks fv) := ⟨fun S rr h k kx => call_ok S rr h k kx⟩
instance {K : PySem.W.Frag} {fv : VSpF} : VF K (vspF K fv) (fun rs γ Q _ => callF fv rs γ Q) := ⟨fun S rr h k _ => callF_ok S rr h k⟩
section
variable {K : PySem.W.Frag} {B : Bs} {E : L2.St → XK} {sp : Sp} {wf : List Rf → Env → RQ → XQ → Prop} [hf : VF K sp wf]
def vCall (wf : List Rf → Env → RQ → XQ → Prop) (wa : Env → (List Rf → Env → Prop) → XQ → Prop) : VW := fun γ Q X => wa γ (fun rs γ1 => wf rs γ1 Q X) X
def vCall0 (wf : List Rf → Env → RQ → XQ → Prop) (wa : Env → (List Rf → Env → Prop) → XQ → Prop) : VW := fun γ Q X => wa γ (fun rs γ1 => wf rs γ1 Q noX) X
section
variable {t : TA} {wa : Env → (List Rf → Env → Prop) → XQ → Prop}
instance [ha : VA K B E t wa] : VE K B E (tCall sp [] E0 t) (vCall0 wf wa) where
  run := fun {as γ σ G H Q Qv Xv} S h k kx => by
    refine ha.run S h (fun rs γ1 as1 vs G1 H1 p1 g1 S1 rr1 q1 => ?_) kx
    rw [List.append_nil]
    exact hf.run S1 rr1 q1 (k.mono p1 g1) kxno
instance {E1 : XK} [ha : VA K B (fun _ => E1) t wa] : VE K B (fun _ => E1) (tCall sp [] E1 t) (vCall wf wa) where
  run := fun {as γ σ G H Q Qv Xv} S h k kx => by
    refine ha.run S h (fun rs γ1 as1 vs G1 H1 p1 g1 S1 rr1 q1 => ?_) kx
    rw [List.append_nil]
    exact hf.run S1 rr1 q1 (k.mono p1 g1) (kx.mono p1 g1)
instance {W : WX} [ha : VA K B (WE W) t wa] : VE K B (WE W) (tCallS sp (WE W) t) (vCall wf wa) where
  run := fun {as γ σ G H Q Qv Xv} S h k kx => by
    refine ha.run S h (fun rs γ1 as1 vs G1 H1 p1 g1 S1 rr1 q1 => ?_) kx
    exact hf.run S1 rr1 q1 (k.mono p1 g1) (kx.mono p1 g1)
end
/-! ### o.m(..), o.p -/
def isO (C : Addr) (m : Str) (t : T) : Prop := match t with
  | .obj C' gs => C' = C ∧ gs.lookup m = none
  | _ => False
theorem look_none {κ : Type} [BEq κ] {f : κ} : ∀ {fs : List (κ × V)} {gs : List (κ × T)}, fs.map Prod.fst = gs.map Prod.fst → gs.lookup f = none → fs.lookup f = none
  | [], [], _, _ => rfl
  | [], _ :: _, h, _ => by cases h
  | _ :: _, [], h, _ => by cases h
  | (n, v) :: fs, (m, u) :: gs, h, e => by
    simp only [List.map_cons, List.cons.injEq] at h
    obtain ⟨rfl, h⟩ := h
    unfold List.lookup at e ⊢
    cases hb : f == n with
    | true => rw [hb] at e; cases e
    | false => rw [hb] at e; exact look_none h e
theorem isO_ok {C : Addr} {m : Str} {as : List Addr} {γ : Env} {σ : L2.St} {G H : Hp} {r : Rf} {v : V} (S : StR K B as γ σ G H) (rr : RR K B.ex as G r v) (h : peek r γ (isO C m)) : ∃ a dx fs, v = .ref a ∧ H a = some (.ins C dx fs) ∧ fs.lookup m = none := by
  obtain ⟨t, q, z⟩ := peek_rp S rr h
  unfold isO at q
  split at q
  · obtain ⟨rfl, q⟩ := q
    cases z with | obj e e2 _ => exact ⟨_, _, _, rfl, e, look_none e2 q⟩
  · exact q.elim
def vMeth0 (C : Addr) (m : Str) (wf : List Rf → Env → RQ → XQ → Prop) (wo : VW) (wa : Env → (List Rf → Env → Prop) → XQ → Prop) : VW := fun γ Q X => wo γ (fun r γ1 => peek r γ1 (isO C m) ∧ wa γ1 (fun rs γ2 => wf (r :: rs) γ2 Q noX) X) X
def vMeth (C : Addr) (m : Str) (wf : List Rf → Env → RQ → XQ → Prop) (wo : VW) (wa : Env → (List Rf → Env → Prop) → XQ → Prop) : VW := fun γ Q X => wo γ (fun r γ1 => peek r γ1 (isO C m) ∧ wa γ1 (fun rs γ2 => wf (r :: rs) γ2 Q X) X) X
section
variable {C : Addr} {m : Str} {to : TE} {wo : VW} {t : TA} {wa : Env → (List Rf → Env → Prop) → XQ → Prop}
instance [ho : VE K B E to wo] [ha : VA K B E t wa] : VE K B E (tMeth C m sp [] E0 to t) (vMeth0 C m wf wo wa) where
  run := fun {as γ σ G H Q Qv Xv} S h k kx => by
    refine ho.run S h (fun r γ1 as1 v G1 H1 p1 g1 S1 rr1 q1 => ?_) kx
    obtain ⟨a, dx, fs, rfl, e1, e2⟩ := isO_ok S1 rr1 q1.1
    refine ⟨a, dx, fs, rfl, e1, e2, ha.run S1 q1.2 (fun rs γ2 as2 vs G2 H2 p2 g2 S2 rr2 q2 => ?_) (kx.mono p1 g1)⟩
    rw [List.append_nil]
    exact hf.run S2 (.cons (RR.mono rr1 p2 g2) rr2) q2 ((k.mono p1 g1).mono p2 g2) kxno
instance {E1 : XK} [ho : VE K B (fun _ => E1) to wo] [ha : VA K B (fun _ => E1) t wa] : VE K B (fun _ => E1) (tMeth C m sp [] E1 to t) (vMeth C m wf wo wa) where
  run := fun {as γ σ G H Q Qv Xv} S h k kx => by
    refine ho.run S h (fun r γ1 as1 v G1 H1 p1 g1 S1 rr1 q1 => ?_) kx
    obtain ⟨a, dx, fs, rfl, e1, e2⟩ := isO_ok S1 rr1 q1.1
    refine ⟨a, dx, fs, rfl, e1, e2, ha.run S1 q1.2 (fun rs γ2 as2 vs G2 H2 p2 g2 S2 rr2 q2 => ?_) (kx.mono p1 g1)⟩
    rw [List.append_nil]
    exact hf.run S2 (.cons (RR.mono rr1 p2 g2) rr2) q2 ((k.mono p1 g1).mono p2 g2) ((kx.mono p1 g1).mono p2 g2)
def isC (C : Addr) (t : T) : Prop := match t with
  | .obj C' _ => C' = C
  | _ => False
theorem isC_ok {C : Addr} {as : List Addr} {γ : Env} {σ : L2.St} {G H : Hp} {r : Rf} {v : V} (S : StR K B as γ σ G H) (rr : RR K B.ex as G r v) (h : peek r γ (isC C)) : ∃ a dx fs, v = .ref a ∧ H a = some (.ins C dx fs) := by
  obtain ⟨t, q, z⟩ := peek_rp S rr h
  unfold isC at q
  split at q
  · obtain rfl := q
    cases z with | obj e _ _ => exact ⟨_, _, _, rfl, e⟩
  · exact q.elim
def vProp (C : Addr) (wf : List Rf → Env → RQ → XQ → Prop) (wo : VW) : VW := fun γ Q X => wo γ (fun r γ1 => peek r γ1 (isC C) ∧ wf [r] γ1 Q noX) X
instance [ho : VE K B E to wo] : VE K B E (tProp C sp [] E0 to) (vProp C wf wo) where
  run := fun {as γ σ G H Q Qv Xv} S h k kx => by
    refine ho.run S h (fun r γ1 as1 v G1 H1 p1 g1 S1 rr1 q1 => ?_) kx
    obtain ⟨a, dx, fs, rfl, e1⟩ := isC_ok S1 rr1 q1.1
    exact ⟨a, dx, fs, rfl, e1, hf.run S1 (.cons rr1 .nil) q1.2 (k.mono p1 g1) kxno⟩
/-- C.m(..), a staticmethod -/
def vStat0 (C : Addr) (wf : List Rf → Env → RQ → XQ → Prop) (wo : VW) (wa : Env → (List Rf → Env → Prop) → XQ → Prop) : VW := fun γ Q X => wo γ (fun r γ1 => r = .val (.cls C) ∧ wa γ1 (fun rs γ2 => wf rs γ2 Q noX) X) X
instance [ho : VE K B E to wo] [ha : VA K B E t wa] : VE K B E (tStat C sp (fun _ => E0) to t) (vStat0 C wf wo wa) where
  run := fun {as γ σ G H Q Qv Xv} S h k kx => by
    refine ho.run S h (fun r γ1 as1 v G1 H1 p1 g1 S1 rr1 q1 => ?_) kx
    obtain ⟨rfl, q1⟩ := q1
    have rr1 : Rp K G1 v (.cls C) := rr1
    cases rr1
    refine ⟨rfl, ha.run S1 q1 (fun rs γ2 as2 vs G2 H2 p2 g2 S2 rr2 q2 => ?_) (kx.mono p1 g1)⟩
    exact hf.run S2 rr2 q2 ((k.mono p1 g1).mono p2 g2) kxno
def vStat (C : Addr) (wf : List Rf → Env → RQ → XQ → Prop) (wo : VW) (wa : Env → (List Rf → Env → Prop) → XQ → Prop) : VW := fun γ Q X => wo γ (fun r γ1 => r = .val (.cls C) ∧ wa γ1 (fun rs γ2 => wf rs γ2 Q X) X) X
instance [ho : VE K B E to wo] [ha : VA K B E t wa] : VE K B E (tStat C sp E to t) (vStat C wf wo wa) where
  run := fun {as γ σ G H Q Qv Xv} S h k kx => by
    refine ho.run S h (fun r γ1 as1 v G1 H1 p1 g1 S1 rr1 q1 => ?_) kx
    obtain ⟨rfl, q1⟩ := q1
    have rr1 : Rp K G1 v (.cls C) := rr1
    cases rr1
    refine ⟨rfl, ha.run S1 q1 (fun rs γ2 as2 vs G2 H2 p2 g2 S2 rr2 q2 => ?_) (kx.mono p1 g1)⟩
    exact hf.run S2 rr2 q2 ((k.mono p1 g1).mono p2 g2) ((kx.mono p1 g1).mono p2 g2)
/-! ### C(..) -/
def vMake0 (C : Addr) (wf : List Rf → Env → RQ → XQ → Prop) (wa : Env → (List Rf → Env → Prop) → XQ → Prop) : VW := fun γ Q X => wa γ (fun rs γ1 => wf (.ref γ1.mem.length :: rs) (γ1.push (.mu (.obj C []))) (fun r γ2 => r = .val .non ∧ Q (.ref γ1.mem.length) γ2) noX) X
def vMake (C : Addr) (wf : List Rf → Env → RQ → XQ → Prop) (wa : Env → (List Rf → Env → Prop) → XQ → Prop) : VW := fun γ Q X => wa γ (fun rs γ1 => wf (.ref γ1.mem.length :: rs) (γ1.push (.mu (.obj C []))) (fun r γ2 => r = .val .non ∧ Q (.ref γ1.mem.length) γ2) X) X
theorem make_ok {as : List Addr} {γ : Env} {σ : L2.St} {G H : Hp} {rs : List Rf} {vs : List V} {Q : VK} {E1 : XK} {Qv : RQ} {Xv : XQ} {x dx : Addr} (S : StR K B as γ σ G H) (rr : RRs K B.ex as G rs vs)
    (h : wf (.ref γ.mem.length :: rs) (γ.push (.mu (.obj C []))) (fun r γ2 => r = .val .non ∧ Qv (.ref γ.mem.length) γ2) Xv) (k : KontP K B as σ G (rR K B) Q Qv) (kx : KontX K B as σ G E1 Xv) (hx : H x = none) (hd : H dx = none) (hne : dx ≠ x) :
    sp (.ref x :: vs) (L2.upd (L2.upd H dx (.own x)) x (.ins C dx [])) (fun v H2 => v = .non ∧ Q (.ref x) H2) E1 := by
  have S1 := S.grow (Same.add (p := dx) (o := .own x) hd)
  have hx1 : (L2.upd H dx (.own x)) x = none := by rw [upd_ne hne.symm]; exact hx
  have S2 := S1.alloc (t := .obj C []) (o := .ins C dx []) hx1 ⟨dx, [], upd_same, rfl, .nil⟩
  have at_ : (as ++ [x])[γ.mem.length]? = some x := by rw [← S.mlen, List.getElem?_append_right (Nat.le_refl _), Nat.sub_self]; rfl
  have pre : as <+: as ++ [x] := List.prefix_append _ _
  refine hf.run (γ := γ.push (.mu (.obj C []))) S2 (Paired.cons (F := RR K B.ex (as ++ [x]) G) (show RR K B.ex (as ++ [x]) G (.ref γ.mem.length) (.ref x) from ⟨x, at_, rfl⟩) (RRs.mono pre (Same.refl _) rr)) h (fun r γ3 as3 v G3 H3 p3 g3 S3 rr3 q3 => ?_) (kx.mono pre (Same.refl _))
  obtain ⟨rfl, q3⟩ := q3
  have rr3 : Rp K G3 v .non := rr3
  cases rr3
  exact ⟨rfl, k (.ref γ.mem.length) _ _ _ _ _ (pre.trans p3) g3 S3 ⟨x, pre_get p3 at_, rfl⟩ q3⟩
instance [ha : VA K B E t wa] : VE K B E (tMake C sp [] E0 t) (vMake0 C wf wa) where
  run := fun {as γ σ G H Q Qv Xv} S h k kx => by
    refine ha.run S h (fun rs γ1 as1 vs G1 H1 p1 g1 S1 rr1 q1 => ?_) kx
    intro x dx hx hd hne
    rw [List.append_nil]
    exact make_ok S1 rr1 q1 (k.mono p1 g1) kxno hx hd hne
instance {E1 : XK} [ha : VA K B (fun _ => E1) t wa] : VE K B (fun _ => E1) (tMake C sp [] E1 t) (vMake C wf wa) where
  run := fun {as γ σ G H Q Qv Xv} S h k kx => by
    refine ha.run S h (fun rs γ1 as1 vs G1 H1 p1 g1 S1 rr1 q1 => ?_) kx
    intro x dx hx hd hne
    rw [List.append_nil]
    exact make_ok S1 rr1 q1 (k.mono p1 g1) (kx.mono p1 g1) hx hd hne
instance {W : WX} [ha : VA K B (WE W) t wa] : VE K B (WE W) (tMakeS C sp (WE W) t) (vMake C wf wa) where
  run := fun {as γ σ G H Q Qv Xv} S h k kx => by
    refine ha.run S h (fun rs γ1 as1 vs G1 H1 p1 g1 S1 rr1 q1 => ?_) kx
    intro x dx hx hd hne
    exact make_ok S1 rr1 q1 (k.mono p1 g1) (kx.mono p1 g1) hx hd hne
end
/-! ### own operators -/
def vOwn2 (C : Addr) (wf : List Rf → Env → RQ → XQ → Prop) : Rf → Rf → VW := fun r1 r2 γ Q X => peek r1 γ (isC C) ∧ peek r2 γ (isC C) ∧ wf [r1, r2] γ Q X
def vOwn20 (C : Addr) (wf : List Rf → Env → RQ → XQ → Prop) : Rf → Rf → VW := fun r1 r2 γ Q _ => peek r1 γ (isC C) ∧ peek r2 γ (isC C) ∧ wf [r1, r2] γ Q noX
def vOwnI (C : Addr) (wf : List Rf → Env → RQ → XQ → Prop) : Rf → Rf → VW := fun r1 r2 γ Q _ => peek r1 γ (isC C) ∧ peek r2 γ (fun t => match t with
  | .int _ => True
  | _ => False) ∧ wf [r1, r2] γ Q noX
def blR (neg : Bool) (Q : RQ) : RQ := fun r γ => peek r γ fun t => match t with
  | .bl b => Q (.val (.bl (nb neg b))) γ
  | _ => False
def vOwnEq (C : Addr) (neg : Bool) (wf : List Rf → Env → RQ → XQ → Prop) : Rf → Rf → VW := fun r1 r2 γ Q _ => peek r1 γ (isC C) ∧ peek r2 γ (isC C) ∧ wf [r1, r2] γ (blR neg Q) noX
def vOwnIn (C : Addr) (neg : Bool) (wf : List Rf → Env → RQ → XQ → Prop) : Rf → Rf → VW := fun r1 r2 γ Q _ => peek r2 γ (isC C) ∧ wf [r2, r1] γ (blR neg Q) noX
section
variable {C : Addr}
instance : V2 K B E (rOwnC C sp E0) (vOwn20 C wf) where
  run := fun {as γ σ G H x y rx ry Q Qv Xv} S r1 r2 h k _ => by
    obtain ⟨a, dx, fs, rfl, e1⟩ := isC_ok S r1 h.1
    obtain ⟨b, dy, gs, rfl, e2⟩ := isC_ok S r2 h.2.1
    exact ⟨a, b, dx, dy, fs, gs, rfl, rfl, e1, e2, hf.run S (.cons r1 (.cons r2 .nil)) h.2.2 k kxno⟩
instance {E1 : XK} : V2 K B (fun _ => E1) (rOwnC C sp E1) (vOwn2 C wf) where
  run := fun {as γ σ G H x y rx ry Q Qv Xv} S r1 r2 h k kx => by
    obtain ⟨a, dx, fs, rfl, e1⟩ := isC_ok S r1 h.1
    obtain ⟨b, dy, gs, rfl, e2⟩ := isC_ok S r2 h.2.1
    exact ⟨a, b, dx, dy, fs, gs, rfl, rfl, e1, e2, hf.run S (.cons r1 (.cons r2 .nil)) h.2.2 k kx⟩
instance {W : WX} {ta tb : TE} {wa wb : VW} [ha : VE K B (WE W) ta wa] [hb : VE K B (WE W) tb wb] : VE K B (WE W) (tOpS (fun σ => rOwnC C sp (WE W σ)) ta tb) (vOp (vOwn2 C wf) wa wb) where
  run := fun {as γ σ G H Q Qv Xv} S h k kx => by
    refine ha.run S h (fun r1 γ1 as1 v1 G1 H1 p1 g1 S1 rr1 q1 => ?_) kx
    refine hb.run S1 q1 (fun r2 γ2 as2 v2 G2 H2 p2 g2 S2 rr2 q2 => ?_) (kx.mono p1 g1)
    have rr1 := RR.mono rr1 p2 g2
    obtain ⟨a, dx, fs, rfl, e1⟩ := isC_ok S2 rr1 q2.1
    obtain ⟨b, dy, gs, rfl, e2⟩ := isC_ok S2 rr2 q2.2.1
    exact ⟨a, b, dx, dy, fs, gs, rfl, rfl, e1, e2, hf.run S2 (.cons rr1 (.cons rr2 .nil)) q2.2.2 ((k.mono p1 g1).mono p2 g2) ((kx.mono p1 g1).mono p2 g2)⟩
instance : V2 K B E (rOwnI C sp E0) (vOwnI C wf) where
  run := fun {as γ σ G H x y rx ry Q Qv Xv} S r1 r2 h k _ => by
    obtain ⟨a, dx, fs, rfl, e1⟩ := isC_ok S r1 h.1
    obtain ⟨t, q, z⟩ := peek_ok S r2 h.2.1
    split at q
    · exact ⟨a, dx, fs, _, rfl, int_any z, e1, by rw [← int_any z]; exact hf.run S (.cons r1 (.cons r2 .nil)) h.2.2 k kxno⟩
    · exact q.elim
theorem blR_k {neg : Bool} {as : List Addr} {σ : L2.St} {G : Hp} {Q : VK} {Qv : RQ} (k : KontP K B as σ G (rR K B) Q Qv) : KontP K B as σ G (rR K B) (fun v H' => ∃ c, v = .bl c ∧ Q (.bl (if neg = true then !c else c)) H') (blR neg Qv) := fun r γ' as' v G' H' p g S rr q => by
  obtain ⟨t, q, z⟩ := peek_ok S rr q
  split at q
  · refine ⟨_, bl_any z, ?_⟩
    have e : ∀ b : Bool, (if neg = true then !b else b) = nb neg b := fun b => by cases neg <;> rfl
    rw [e]
    exact k (.val (.bl _)) _ _ _ _ _ p g S (Rp.bl _) q
  · exact q.elim
instance : V2 K B E (rEqOwn C sp E0 false) (vOwnEq C false wf) where
  run := fun {as γ σ G H x y rx ry Q Qv Xv} S r1 r2 h k _ => by
    obtain ⟨a, dx, fs, rfl, e1⟩ := isC_ok S r1 h.1
    obtain ⟨b, dy, gs, rfl, e2⟩ := isC_ok S r2 h.2.1
    exact ⟨a, b, dx, dy, fs, gs, rfl, rfl, e1, e2, hf.run S (.cons r1 (.cons r2 .nil)) h.2.2 (blR_k k) kxno⟩
instance : V2 K B E (rEqOwn C sp E0 true) (vOwnEq C true wf) where
  run := fun {as γ σ G H x y rx ry Q Qv Xv} S r1 r2 h k _ => by
    obtain ⟨a, dx, fs, rfl, e1⟩ := isC_ok S r1 h.1
    obtain ⟨b, dy, gs, rfl, e2⟩ := isC_ok S r2 h.2.1
    exact ⟨a, b, dx, dy, fs, gs, rfl, rfl, e1, e2, hf.run S (.cons r1 (.cons r2 .nil)) h.2.2 (blR_k k) kxno⟩
instance : V2 K B E (rInOwn C sp E0 false) (vOwnIn C false wf) where
  run := fun {as γ σ G H x y rx ry Q Qv Xv} S r1 r2 h k _ => by
    obtain ⟨a, dx, fs, rfl, e1⟩ := isC_ok S r2 h.1
    exact ⟨a, dx, fs, rfl, e1, hf.run S (.cons r2 (.cons r1 .nil)) h.2 (blR_k k) kxno⟩
instance : V2 K B E (rInOwn C sp E0 true) (vOwnIn C true wf) where
  run := fun {as γ σ G H x y rx ry Q Qv Xv} S r1 r2 h k _ => by
    obtain ⟨a, dx, fs, rfl, e1⟩ := isC_ok S r2 h.1
    exact ⟨a, dx, fs, rfl, e1, hf.run S (.cons r2 (.cons r1 .nil)) h.2 (blR_k k) kxno⟩
def vNegOwn (C : Addr) (wf : List Rf → Env → RQ → XQ → Prop) : Rf → VW := fun r γ Q _ => peek r γ (isC C) ∧ wf [r] γ Q noX
instance : V1 K B E (rNegOwn C sp E0) (vNegOwn C wf) where
  run := fun {as γ σ G H x rx Q Qv Xv} S r1 h k _ => by
    obtain ⟨a, dx, fs, rfl, e1⟩ := isC_ok S r1 h.1
    exact ⟨a, dx, fs, rfl, e1, hf.run S (.cons r1 .nil) h.2 k kxno⟩
def vStrOwn (C : Addr) (wf : List Rf → Env → RQ → XQ → Prop) : List Rf → VW := fun rs γ Q _ => arg1 rs fun r => peek r γ (isC C) ∧ wf [r] γ (fun r2 γ2 => peek r2 γ2 (fun t => match t with
  | .str _ => True
  | _ => False) ∧ Q r2 γ2) noX
instance : VC K B E (rStrOwn C sp E0) (vStrOwn C wf) where
  run := fun {as γ σ G H vs rs Q Qv Xv} S rr h k _ => by
    unfold vStrOwn arg1 at h
    split at h
    · cases rr with | cons r1 b =>
      cases b
      obtain ⟨a, dx, fs, rfl, e1⟩ := isC_ok S r1 h.1
      refine ⟨a, dx, fs, rfl, e1, hf.run S (.cons r1 .nil) h.2 (fun r γ' as' v G' H' p g S' rr q => ?_) kxno⟩
      obtain ⟨t, q1, z⟩ := peek_ok S' rr q.1
      split at q1
      · exact ⟨_, (str_any z).1, k _ _ _ _ _ _ p g S' rr q.2⟩
      · exact q1.elim
    · exact h.elim
end
end
end VL
set_option Elab.async false
set_option linter.all false
set_option maxRecDepth 100000
set_option maxHeartbeats 4000000
/-! readings over values: fields of instances, errors, try, dicts -/
namespace VL
open PySem PySem.Spec PyProof.Rows L2 XR
section
variable {K : PySem.W.Frag} {B : Bs} {E : L2.St → XK}
/-! ### self.f = e, of an open instance -/
def putG (f : Str) (t : T) : List (Str × T) → List (Str × T)
  | [] => [(f, t)]
  | (g, x) :: r => match decide (g = f) with
    | true => (g, t) :: r
    | false => (g, x) :: putG f t r
theorem putG_rp {G : Hp} {f : Str} {t : T} {v : V} (rp : Rp K G v t) : ∀ {fs : List (Str × V)} {gs : List (Str × T)}, RpF K G fs gs → RpF K G (putF f v fs) (putG f t gs)
  | [], [], _ => ⟨rfl, .cons rp .nil⟩
  | [], _ :: _, h => by cases h.1
  | _ :: _, [], h => by cases h.1
  | (n, x) :: fs, (m, u) :: gs, h => by
    have h1 := h.1
    simp only [List.map_cons, List.cons.injEq] at h1
    obtain ⟨rfl, h1⟩ := h1
    have h2 := h.2
    cases h2 with | cons a b =>
    unfold putF putG
    by_cases e : n = f
    · rw [if_pos e, decide_eq_true e]
      exact ⟨by simp only [List.map_cons]; rw [h1], .cons rp b⟩
    · rw [if_neg e, decide_eq_false e]
      obtain ⟨q1, q2⟩ := putG_rp rp (fs := fs) (gs := gs) ⟨h1, b⟩
      exact ⟨by simp only [List.map_cons]; rw [q1], .cons a q2⟩
def setF (K : PySem.W.Frag) (r : Rf) (f : Str) (t : T) (γ : Env) (Q : Env → Prop) : Prop := match r with
  | .ref k => match nth γ.mem k with
    | some (.mu (.obj C gs)) => (Cls K C ∧ NoAttr K C f) ∧ gs.length < 1000 ∧ Q (γ.put k (.mu (.obj C (putG f t gs))))
    | _ => False
  | _ => False
def vSFld (K : PySem.W.Frag) (f : Str) (wo wv : VW) : VSW := fun γ D => wv γ (fun rv γ1 => wo γ1 (fun ro γ2 => toT rv γ2 fun t γ3 => setF K ro f t γ3 D.nx) D.ex) D.ex
instance {f : Str} {to tv : TE} {wo wv : VW} [ho : VE K B E to wo] [hv : VE K B E tv wv] : VS K B E (sFld K to tv f) (vSFld K f wo wv) where
  run := fun {as γ σ G H D Dv} S h k => by
    refine hv.run S h (fun r1 γ1 as1 v1 G1 H1 p1 g1 S1 rr1 q1 => ?_) (k.ex σ)
    refine ho.run S1 q1 (fun r2 γ2 as2 v2 G2 H2 p2 g2 S2 rr2 q2 => ?_) ((k.ex σ).mono p1 g1)
    obtain ⟨t, γ3, G3, g3, S3, rp, q3⟩ := toT_ok S2 (RR.mono rr1 p2 g2) q2
    unfold setF at q3
    split at q3
    · rename_i kk
      obtain ⟨a, ea, rfl⟩ := rr2
      simp only [nth_eq] at q3
      split at q3
      · rename_i C gs e
        obtain ⟨⟨c1, c2⟩, c3, q3⟩ := q3
        obtain ⟨_, dx, fs, ha, rf⟩ := S3.mem _ a _ ea e
        have hl : fs.length = gs.length := by
          have := congrArg List.length rf.1
          simpa using this
        refine ⟨a, C, dx, fs, rfl, ha, c1, c2, by omega, ?_⟩
        have S4 := S3.write (o := .ins C dx (putF f v1 fs)) (t := .obj C (putG f t gs)) e ea ⟨dx, _, upd_same, putG_rp rp rf⟩
        exact k.nx _ _ _ _ _ (p1.trans p2) ((g1.trans g2).trans g3) S4 q3
      · exact q3.elim
    · exact q3.elim
/-! ### errors: made and raised -/
def fsOf {α : Type} : List Str → List α → List (Str × α) → Option (List (Str × α))
  | [], [], l => some l
  | n :: ns, v :: vs, l => fsOf ns vs ((n, v) :: l)
  | _, _, _ => none
theorem fsOf_rp {G : Hp} : ∀ {ns : List Str} {vs : List V} {ts : List T} {l : List (Str × V)} {l2 : List (Str × T)} {o : List (Str × T)}, RpAll K G vs ts → RpF K G l l2 → fsOf ns ts l2 = some o → ∃ p, fsOf ns vs l = some p ∧ RpF K G p o
  | [], _, _, l, l2, o, .nil, h, e => by
    have e : some l2 = some o := e
    cases e
    exact ⟨l, rfl, h⟩
  | [], _, _, l, l2, o, .cons _ _, h, e => by cases e
  | n :: ns, _, _, l, l2, o, .nil, h, e => by cases e
  | n :: ns, _, _, l, l2, o, .cons a b, h, e => fsOf_rp (ns := ns) (l := (n, _) :: l) (l2 := (n, _) :: l2) b ⟨by simp only [List.map_cons]; rw [h.1], .cons a h.2⟩ e
/-- the promise of an error's __init__ -/
def spErr (C : Addr) (ns : List Str) : Sp := spEx C fun ws => fsOf ns ws []
theorem mk_exN {C : Addr} {fs : List V → Option (List (Str × V))} {vs : List V} {l : List (Str × V)} {H : Hp} {E : XK} (hl : vs.length ≤ 1000) (hf : fs vs = some l) (k : ∀ d H', H d = none → H' d = some (.xd l) → Same H H' → E (.ref C) (some d) H') :
    vs.length ≤ 1000 ∧ ∀ a, H a = none → spEx C fs (.ref a :: (vs ++ [])) (L2.upd H a (exo a C none))
      (fun v H2 => v = .non ∧ ∃ (d : Addr) (g : List (Str × V)), H2 a = some (exo a C (some d)) ∧ H2 d = some (exd d g) ∧ H d = none ∧ E (.ref C) (some d) (L2.upd (del H2 a) d (.xd g))) (fun _ _ _ => False) := by
  refine ⟨hl, fun a ha => ⟨a, vs, l, by rw [List.append_nil], hf, upd_same, fun d H' hd hda ea ed x => ⟨rfl, d, l, ea, ed, ?_, k d _ ?_ upd_same fun q o e => ?_⟩⟩⟩
  · rw [upd_ne hda] at hd
    exact hd
  · rw [upd_ne hda] at hd
    exact hd
  · have hqa : q ≠ a := ne_of_none e ha
    have hqd : q ≠ d := fun z => by
      rw [upd_ne hda] at hd
      rw [z, hd] at e
      cases e
    rw [upd_ne hqd, del_ne hqa]
    refine x q o hqa ?_
    rw [upd_ne hqa]
    exact e
def tRaise (W : WX) (t : L2.St → Hp → XK → Prop) : TS := fun _ σ H => t σ H fun cls d H' => W cls d σ H'
theorem ps_raiseU {X : Cx} {W : WX} {e : Expr} {t : L2.St → Hp → XK → Prop} {pos : Pos} (hc : X.calm = true) (tk : Takes X W) (he : PMk X e t) : PS X (.Raise (some e) none pos) (tRaise W t) := ps_raise hc tk he
theorem err_view {as : List Addr} {γ : Env} {σ : L2.St} {G H H' : Hp} {d : Addr} {fs : List (Str × V)} (S : StR K B as γ σ G H) (hd : H d = none) (hd' : H' d = some (.xd fs)) (x : Same H H') : StR K B as γ σ (L2.upd G d (.xd fs)) H' ∧ Same G (L2.upd G d (.xd fs)) := by
  have g : Same G (L2.upd G d (.xd fs)) := Same.add (S.newG hd)
  refine ⟨(S.grow x).view g (fun a o e => ?_) fun a z1 z2 => ?_, g⟩
  · by_cases h : a = d
    · subst h; rw [upd_same] at e; cases e; exact hd'
    · rw [upd_ne h] at e; exact x _ _ (S.vw _ _ e)
  · by_cases h : a = d
    · subst h; exact ⟨S.new0 hd, S.newA hd⟩
    · rw [upd_ne h] at z2; exact absurd z1 z2
def vRaise (C : Addr) (ns : List Str) (wa : Env → (List Rf → Env → Prop) → XQ → Prop) : VSW := fun γ D => wa γ (fun rs γ1 => toTs rs γ1 fun ts γ2 => ts.length ≤ 1000 ∧ isS (fsOf ns ts []) fun l => D.ex (C, l) γ2) D.ex
theorem raise_ok {C : Addr} {ns : List Str} {ta : TA} {wa : Env → (List Rf → Env → Prop) → XQ → Prop} [ha : VA K B E ta wa] {as : List Addr} {γ : Env} {σ : L2.St} {G H : Hp} {D : Ends} {Dv : VEnds} (S : StR K B as γ σ G H) (h : vRaise C ns wa γ Dv) (k : KontD K B E as G D Dv) :
    tMkO C (spErr C ns) [] ta σ H fun cls d H' => E σ cls d H' := by
  refine ha.run S h (fun rs γ1 as1 vs G1 H1 p1 g1 S1 rr1 q1 => ?_) (k.ex σ)
  obtain ⟨ts, γ2, G2, g2, S2, rp, hl, q⟩ := toTs_ok S1 rr1 q1
  obtain ⟨l, e, q⟩ := isS_e q
  obtain ⟨p, ep, rf⟩ := fsOf_rp (ns := ns) (l := []) (l2 := []) rp ⟨rfl, .nil⟩ e
  refine mk_exN (by rw [rp.length]; exact hl) ep fun d H' hd hd' x => ?_
  obtain ⟨S3, g3⟩ := err_view S2 hd hd' x
  exact k.ex σ (C, l) _ _ _ _ _ p1 ((g1.trans g2).trans g3) S3 (.inr ⟨d, p, rfl, upd_same, rf.mono g3⟩) q
instance {E1 : XK} {C : Addr} {ns : List Str} {ta : TA} {wa : Env → (List Rf → Env → Prop) → XQ → Prop} [ha : VA K B (fun _ => E1) ta wa] : VS K B (fun _ => E1) (tRaise (fun cls d _ H => E1 cls d H) (tMkO C (spErr C ns) [] ta)) (vRaise C ns wa) where
  run := fun {as γ σ G H D Dv} S h k => raise_ok (E := fun _ => E1) (ns := ns) S h k
instance {W : WX} {C : Addr} {ns : List Str} {ta : TA} {wa : Env → (List Rf → Env → Prop) → XQ → Prop} [ha : VA K B (WE W) ta wa] : VS K B (WE W) (tRaise W (tMkO C (spErr C ns) [] ta)) (vRaise C ns wa) where
  run := fun {as γ σ G H D Dv} S h k => raise_ok (E := WE W) (ns := ns) S h k
/-- an error without fields -/
def tMk0 (C : Addr) : L2.St → Hp → XK → Prop := fun _ H Q => Q (.ref C) none H
def vRaise0 (C : Addr) : VSW := fun γ D => D.ex (C, []) γ
instance {E1 : XK} {C : Addr} : VS K B (fun _ => E1) (tRaise (fun cls d _ H => E1 cls d H) (tMk0 C)) (vRaise0 C) where
  run := fun {as γ σ G H D Dv} S h k => k.ex σ (C, []) _ _ _ _ _ (List.prefix_refl _) (Same.refl _) S (.inl ⟨rfl, rfl⟩) h
instance {W : WX} {C : Addr} : VS K B (WE W) (tRaise W (tMk0 C)) (vRaise0 C) where
  run := fun {as γ σ G H D Dv} S h k => k.ex σ (C, []) _ _ _ _ _ (List.prefix_refl _) (Same.refl _) S (.inl ⟨rfl, rfl⟩) h
/-! ### try -/
def Bs.hot (B : Bs) (a : Addr) (cls : Value) (d : Option Addr) : Bs := ⟨B.G0, B.H0, B.io, (a, cls, d)⟩
def noErr : List (Option Rf) → List (Option Rf)
  | [] => []
  | some (.err _ _) :: r => none :: noErr r
  | some (.val t) :: r => some (.val t) :: noErr r
  | some (.ref k) :: r => some (.ref k) :: noErr r
  | none :: r => none :: noErr r
def Env.noErr (γ : Env) : Env := { γ with sl := VL.noErr γ.sl }
theorem noErr_len : ∀ l, (noErr l).length = l.length
  | [] => rfl
  | some (.err _ _) :: r => congrArg (· + 1) (noErr_len r)
  | some (.val t) :: r => congrArg (· + 1) (noErr_len r)
  | some (.ref k) :: r => congrArg (· + 1) (noErr_len r)
  | none :: r => congrArg (· + 1) (noErr_len r)
theorem noErr_at : ∀ (l : List (Option Rf)) (i : Nat) (r : Rf), (noErr l)[i]? = some (some r) → l[i]? = some (some r) ∧ ∀ D gs, r ≠ .err D gs
  | [], i, r, h => by cases h
  | some (.err _ _) :: l, 0, r, h => by cases h
  | some (.val t) :: l, 0, r, h => by cases h; exact ⟨rfl, fun _ _ z => by cases z⟩
  | some (.ref k) :: l, 0, r, h => by cases h; exact ⟨rfl, fun _ _ z => by cases z⟩
  | none :: l, 0, r, h => by cases h
  | some (.err _ _) :: l, i + 1, r, h => noErr_at l i r h
  | some (.val t) :: l, i + 1, r, h => noErr_at l i r h
  | some (.ref k) :: l, i + 1, r, h => noErr_at l i r h
  | none :: l, i + 1, r, h => noErr_at l i r h
theorem StR.reex {as : List Addr} {γ : Env} {σ : L2.St} {G H : Hp} {B' : Bs} (S : StR K B as γ σ G H) (h1 : B'.G0 = B.G0) (h2 : B'.H0 = B.H0) (h3 : B'.io = B.io) : StR K B' as γ.noErr σ G H := by
  obtain ⟨g0, h0, io, ex⟩ := B
  obtain ⟨g0', h0', io', ex'⟩ := B'
  cases h1; cases h2; cases h3
  refine ⟨S.vw, S.gg, S.out, S.hh, S.nio, S.pre, S.mlen, S.nd, S.fresh, S.mem, S.slen.trans (noErr_len _).symm, fun i r e => ?_⟩
  obtain ⟨e1, e2⟩ := noErr_at _ i r e
  obtain ⟨v, e3, e4⟩ := S.sl i r e1
  refine ⟨v, e3, ?_⟩
  cases r with
  | val t => exact e4
  | ref k => exact e4
  | err D gs => exact absurd rfl (e2 D gs)
def tTry (K : PySem.W.Frag) (c : Value) (i : Nat) (ts : Addr → Value → Option Addr → TS) (tb : WX → TS) : TS := fun D σ H => tb (wAs K c i ts (fun _ _ _ _ => False) D) D σ H
theorem ps_tryU {X : Cx} {x n : Str} {c : Value} {i : Nat} {body suite : List Stmt} {b₀ : Stmt} {np pos pos' : Pos} {tb : WX → TS} {ts : Addr → Value → Option Addr → TS} (hs : X.stack = X.env :: X.outer) (hf : X.env.frame = some X.env.locals) (hN : X.N.Nodup) (hi : X.N[i]? = some n) (hln : X.env.kindOf n = some .local) (hc : Names X x c) (tk : Takes X (fun _ _ _ _ => False))
    (hb : ∀ (W : WX) (pn : List (Addr × Obj)) (xe : Value → Shared → Prop), Takes (X.tr pn xe) W → PassesOwn (model X.prog X.w) X.A X.env xe → PSs (X.tr pn xe) body (tb W))
    (hsu : ∀ (a : Addr) (oe : Obj) (cls : Value) (d : Option Addr) (pn : List (Addr × Obj)), Zc cls d oe → (∃ vs, oe.data = .fields vs) → PSs (X.suite a ((a, oe) :: pn)) (b₀ :: suite) (ts a cls d)) :
    PS X (.Try body [.ExceptHandler (some (.Name x np)) (some n) (b₀ :: suite) pos'] [] [] pos) (tTry X.K c i ts tb) := ps_try_as hs hf hN hi hln hc tk hb hsu
def rtE (Q : RQ) : RQ := fun r γ => match r with
  | .err _ _ => False
  | .val t => Q (.val t) γ.noErr
  | .ref k => Q (.ref k) γ.noErr
def suiteE (i : Nat) (D : VEnds) : VEnds := ⟨fun γ2 => D.nx (γ2.unset i).noErr, rtE D.rt, fun γ2 => D.bk (γ2.unset i).noErr, fun γ2 => D.ct (γ2.unset i).noErr, noX⟩
def vTry (K : PySem.W.Frag) (c : Value) (i : Nat) (wb ws : VSW) : VSW := fun γ D => wb γ ⟨D.nx, D.rt, D.bk, D.ct, fun e γ1 => PySem.W.exmOne K (.ref e.1) c = some true ∧ ws (γ1.noErr.set i (.err e.1 e.2)) (suiteE i D)⟩
instance {c : Value} {i : Nat} {ts : Addr → Value → Option Addr → TS} {tb : WX → TS} {wb ws : VSW} [hb : ∀ W : WX, VS K B (WE W) (tb W) wb] [hs : ∀ (a : Addr) (cls : Value) (d : Option Addr), VS K (B.hot a cls d) E (ts a cls d) ws] : VS K B E (tTry K c i ts tb) (vTry K c i wb ws) where
  run := fun {as γ σ G H D Dv} S h k => by
    refine (hb _).run S h ⟨k.nx, k.bk, k.ct, k.rt, fun σ1 e γ1 as1 d G1 H1 p1 g1 S1 er q1 => ?_⟩
    obtain ⟨em, q1⟩ := q1
    refine ⟨true, em, fun _ a ha => ?_, fun z => by cases z⟩
    have S2 : StR K (B.hot a (.ref e.1) d) as1 γ1.noErr σ1 G1 H1 := S1.reex rfl rfl rfl
    have S3 := S2.store (r := .err e.1 e.2) (v := .ref a) ⟨rfl, rfl, er⟩ i
    have back : ∀ {γ2 : Env} {as2 : List Addr} {σ2 : L2.St} {G2 H2 : Hp}, StR K (B.hot a (.ref e.1) d) as2 γ2 σ2 G2 H2 → StR K B as2 (γ2.unset i).noErr (σ2.set i none) G2 H2 := fun {γ2 as2 σ2 G2 H2} S4 => by
      have S5 := (S4.unset i).slots (σ' := σ2.set i none) (by simp) fun j r e => by
        have e : (γ2.sl.set i none)[j]? = some (some r) := e
        by_cases hj : j = i
        · subst hj
          rcases Nat.lt_or_ge j γ2.sl.length with z | z
          · rw [List.getElem?_set_self z] at e; cases e
          · rw [List.getElem?_eq_none (by simpa using z)] at e; cases e
        · rw [List.getElem?_set_ne (Ne.symm hj)]
      exact S5.reex rfl rfl rfl
    refine (hs a (.ref e.1) d).run (Dv := suiteE i Dv) S3 q1 ⟨fun γ2 as2 σ2 G2 H2 p2 g2 S4 q => ?_, fun γ2 as2 σ2 G2 H2 p2 g2 S4 q => ?_, fun γ2 as2 σ2 G2 H2 p2 g2 S4 q => ?_, fun σ2 r γ2 as2 v G2 H2 p2 g2 S4 rr q => ?_, fun σ2 => kxno⟩
    · exact k.nx _ _ _ _ _ (p1.trans p2) (g1.trans g2) (back S4) q
    · exact k.bk _ _ _ _ _ (p1.trans p2) (g1.trans g2) (back S4) q
    · exact k.ct _ _ _ _ _ (p1.trans p2) (g1.trans g2) (back S4) q
    · have S5 : StR K B as2 γ2.noErr σ2 G2 H2 := S4.reex rfl rfl rfl
      cases r with
      | err D gs => exact q.elim
      | val t => exact k.rt σ2 (.val t) γ2.noErr as2 v G2 H2 (p1.trans p2) (g1.trans g2) S5 rr q
      | ref n => exact k.rt σ2 (.ref n) γ2.noErr as2 v G2 H2 (p1.trans p2) (g1.trans g2) S5 rr q
/-! ### the handled error: its class, its fields -/
def ErrIs (K : PySem.W.Frag) (D : Addr) (c : T) (b : Bool) : Prop := XR.Asks K D ∧ ∃ u, ClR c u ∧ PySem.W.kitOne K (.ref D) u = some b
def vIsE (K : PySem.W.Frag) : List Rf → VW := fun rs γ Q _ => match rs with
  | [.err D _, c] => peek c γ fun tc => ∃ b, ErrIs K D tc b ∧ Q (.val (.bl b)) γ
  | _ => False
instance {a : Addr} {cls : Value} {d : Option Addr} : VC K (B.hot a cls d) E (rIsA K cls d a) (vIsE K) where
  run := fun {as γ σ G H vs rs Q Qv Xv} S rr h k _ => by
    unfold vIsE at h
    split at h
    · cases rr with | cons r1 b =>
      cases b with | cons r2 b =>
      cases b
      obtain ⟨rfl, ec, er⟩ := r1
      obtain ⟨tc, h, z⟩ := peek_rp S r2 h
      obtain ⟨b, ⟨as_, u, hu, hk⟩, q⟩ := h
      have ec : cls = .ref _ := ec
      subst ec
      have kk := kval k S (.bl b) q
      rcases er with ⟨e1, _⟩ | ⟨dd, fs, e1, e2, _⟩
      · have e1 : d = none := e1
        exact .inr ⟨_, _, u, b, rfl, e1, as_, rfl, hu.ok z, hk, kk⟩
      · have e1 : d = some dd := e1
        exact .inl ⟨_, dd, fs, _, u, b, rfl, e1, S.vw _ _ e2, as_, rfl, hu.ok z, hk, kk⟩
    · exact h.elim
def vPf (K : PySem.W.Frag) (n : Str) (wo : VW) : VW := fun γ Q X => wo γ (fun r γ1 => match r with
  | .err D gs => (XfC K D ∧ PySem.W.findIn K (.ref D) n = some none) ∧ isS (gs.lookup n) fun t => Q (.val t) γ1
  | _ => False) X
instance {a : Addr} {cls : Value} {d : Option Addr} {n : Str} {to : TE} {wo : VW} [ho : VE K (B.hot a cls d) E to wo] : VE K (B.hot a cls d) E (tPf K a cls d n to) (vPf K n wo) where
  run := fun {as γ σ G H Q Qv Xv} S h k kx => by
    refine ho.run S h (fun r γ1 as1 v G1 H1 p1 g1 S1 rr q => ?_) kx
    cases r with
    | err D gs =>
      obtain ⟨⟨c1, c2⟩, q⟩ := q
      obtain ⟨t, e, q⟩ := isS_e q
      obtain ⟨rfl, ec, er⟩ := rr
      have ec : cls = .ref D := ec
      subst ec
      rcases er with ⟨_, e1⟩ | ⟨dd, fs, e1, e2, rf⟩
      · subst e1; cases e
      · have e1 : d = some dd := e1
        obtain ⟨v, ev, rv⟩ := lookup_rp rf e
        exact ⟨D, dd, fs, v, rfl, rfl, e1, S1.vw _ _ e2, c1, c2, ev, kval (k.mono p1 g1) S1 rv q⟩
    | val t => exact q.elim
    | ref j => exact q.elim
/-! ### in a suite: defs that raise nothing -/
def vCallQ (wf : List Rf → Env → RQ → XQ → Prop) (wa : Env → (List Rf → Env → Prop) → XQ → Prop) : VW := fun γ Q X => wa γ (fun rs γ1 => wf rs γ1 Q noX) X
instance {sp : Sp} {wf : List Rf → Env → RQ → XQ → Prop} [hf : VF K sp wf] {t : TA} {wa : Env → (List Rf → Env → Prop) → XQ → Prop} [ha : VA K B E t wa] : VE K B E (tCallQ sp t) (vCallQ wf wa) where
  run := fun {as γ σ G H Q Qv Xv} S h k kx => by
    refine ha.run S h (fun rs γ1 as1 vs G1 H1 p1 g1 S1 rr1 q1 => ?_) kx
    exact hf.run S1 rr1 q1 (k.mono p1 g1) kxno
end
section
variable {P : Program} {w : World} {K : PySem.W.Frag} {mg : Str → Option Value} {base : Heap}
theorem okVQ {x qual : Str} {st : Stmt} {f : Addr} {fd : FuncData} {N ps : List Str} {k : Nat} {ks : List Bool} {fv : VSp} (F : Fun K x qual st f fd) (S : FnScope N ps (defScope st)) (hk : ks.length = ps.length) (hN : ps.length ≤ N.length)
    (body : ∀ (cdv : Value) (A : Around) (outer : List PySem.Env) (s : Shared) (H : Hp) (p : Addr × Obj), L2H.RoomH k (A.deeper (envOfC qual (defScope st) s.heap.objs.size f cdv)) →
      ∃ t, PSs (L2H.cxH CX0 P w K mg base N qual (defScope st) f cdv A outer s H E0 p).nox (defBody st) t ∧ ∃ wv, (∀ B : Bs, VS K B (fun _ => E0) t wv) ∧ ∀ (ts : List T) (Qv : Rt → List T → Prop) (Xv : VErr → List T → Prop), fv ts Qv Xv → wv (env0 ks ts (N.length - ps.length)) (endsV Qv)) :
    FnQ P w K mg base (k + 1) f fd ps (fun _ => vsp K ks fv) := by
  refine XR.okQ F S (fun p vs H Q E h => ?_) fun cdv A outer s H vs Q p hr h => ?_
  · obtain ⟨G, ts, Qv, Xv, _, ar, _⟩ := h
    exact ar.len.trans hk
  · obtain ⟨t, hp, wv, hv, go⟩ := body cdv A outer s H p hr
    obtain ⟨G, ts, Qv, Xv, vw, ar, nd, hf, kr, kx⟩ := h
    refine ⟨t, hp, ?_⟩
    have hl : vs.length = ps.length := ar.len.trans hk
    have S0 := start_ok (N := N) vw ar nd (by omega)
    have q := go ts Qv Xv hf
    rw [← hl] at q
    refine (hv _).run S0 q ⟨fun γ' as' σ' G' H' _ _ S' z => ?_, fun _ _ _ _ _ _ _ _ z => z.elim, fun _ _ _ _ _ _ _ _ z => z.elim, fun σ' r γ' as' v G' H' _ _ S' rr z => ?_, fun σ' => kxno⟩
    · obtain ⟨o, f, z⟩ := fin_of S' z
      exact kr (.val .non) _ _ _ _ f Rp.non z
    · obtain ⟨rt, o, f, rr, z⟩ := rt_of S' rr z
      exact kr _ _ _ _ _ f rr z
/-! ### a def that is handed the handled error -/
def vspE (K : PySem.W.Frag) (fv : Addr → List (Str × T) → (T → Prop) → Prop) : SpQ := fun p vs H Q _ => ∃ (cls : Value) (d : Option Addr) (D : Addr) (gs : List (Str × T)) (G : Hp) (Qv : T → Prop), vs = [.ref p.1] ∧ Zc cls d p.2 ∧ (∃ us, p.2.data = .fields us) ∧ cls = .ref D ∧ ErrF K G d gs ∧ Same G H ∧ fv D gs Qv ∧
  ∀ (t : T) (v : V) (H' : Hp), Same H H' → (∀ G' : Hp, Rp K G' v t) → Qv t → Q v H'
def envE (D : Addr) (gs : List (Str × T)) (more : Nat) : Env := ⟨0, some (.err D gs) :: nones more, []⟩
theorem okVE {x qual : Str} {st : Stmt} {f : Addr} {fd : FuncData} {N : List Str} {pn : Str} {k : Nat} {fv : Addr → List (Str × T) → (T → Prop) → Prop} (F : Fun K x qual st f fd) (S : FnScope N [pn] (defScope st)) (hN : 1 ≤ N.length)
    (body : ∀ (cdv : Value) (A : Around) (outer : List PySem.Env) (s : Shared) (H : Hp) (p : Addr × Obj) (cls : Value) (d : Option Addr), Zc cls d p.2 → (∃ us, p.2.data = .fields us) → L2H.RoomH k (A.deeper (envOfC qual (defScope st) s.heap.objs.size f cdv)) →
      ∃ t, PSs (L2H.cxH CX0 P w K mg base N qual (defScope st) f cdv A outer s H E0 p).nox (defBody st) t ∧ ∃ wv, (∀ B : Bs, VS K (B.hot p.1 cls d) (fun _ => E0) t wv) ∧ ∀ (D : Addr) (gs : List (Str × T)) (Qv : T → Prop), fv D gs Qv → wv (envE D gs (N.length - 1)) (endsV fun rt _ => ∃ t, rt = .val t ∧ flatT t = true ∧ Qv t)) :
    FnQ P w K mg base (k + 1) f fd [pn] (vspE K fv) := by
  refine XR.okQ F S (fun p vs H Q E h => ?_) fun cdv A outer s H vs Q p hr h => ?_
  · obtain ⟨_, _, _, _, _, _, rfl, _⟩ := h
    rfl
  · obtain ⟨cls, d, D, gs, G, Qv, rfl, hz, hf, rfl, er, vw, hv0, kr⟩ := h
    obtain ⟨t, hp, wv, hv, go⟩ := body cdv A outer s H p (.ref D) d hz hf hr
    refine ⟨t, hp, ?_⟩
    have S0 : StR K (Bs.hot ⟨G, H, [], (0, .none, none)⟩ p.1 (.ref D) d) [] (envE D gs (N.length - 1)) (L2.start N [.ref p.1]) G H := by
      refine ⟨vw, Same.refl _, fun a _ h => h, fun a o e _ => e, rfl, List.prefix_refl _, rfl, .nil, fun _ _ e => (by cases e), fun _ _ _ e => (by cases e), ?_, fun i r e => ?_⟩
      · show (L2.start N [V.ref p.1]).length = (some (Rf.err D gs) :: nones (N.length - 1)).length
        unfold L2.start
        have h2 : (some (Rf.err D gs) :: nones (N.length - 1)).length = N.length - 1 + 1 := by rw [List.length_cons, nones_len]
        rw [h2, List.length_append, List.length_map, List.length_replicate]
        simp
        omega
      · cases i with
        | zero => cases e; exact ⟨.ref p.1, rfl, rfl, rfl, er⟩
        | succ i => exact absurd e (nones_at _ _ _)
    refine (hv _).run S0 (go D gs Qv hv0) ⟨fun γ' as' σ' G' H' _ _ S' z => ?_, fun _ _ _ _ _ _ _ _ z => z.elim, fun _ _ _ _ _ _ _ _ z => z.elim, fun σ' r γ' as' v G' H' _ _ S' rr z => ?_, fun σ' => kxno⟩
    · obtain ⟨o, f, t, e1, fl, z⟩ := fin_of (io := []) S' z
      cases e1
      exact kr .non .non _ (fun a u e => f.hh a u e (by simp)) (fun _ => .non) z
    · obtain ⟨rt, o, f, rr, t, rfl, fl, z⟩ := rt_of (io := []) (Qv := fun rt _ => ∃ t, rt = .val t ∧ flatT t = true ∧ Qv t) S' rr z
      exact kr t v _ (fun a u e => f.hh a u e (by simp)) (fun _ => flat_any rr fl) z
end
end VL
set_option Elab.async false
set_option linter.all false
set_option maxRecDepth 100000
set_option maxHeartbeats 4000000
/-! readings over values: the rest -/
namespace VL
open PySem PySem.Spec PyProof.Rows L2 XR
theorem hu64 {n : Nat} (h : n + 65 < cLine) : n + 64 < cLine := by omega
theorem huR {k : Nat} {A : Around} (h : Room k A) : A.units + 65 < cLine := by have := h.un; omega
theorem huH {k : Nat} {A : Around} (h : L2H.RoomH k A) : A.units + 65 < cLine := by have := h.un; omega
theorem wvI {K : PySem.W.Frag} {E : L2.St → XK} {t : TS} {wv : VSW} {R : VSW → Prop} (h : ∀ B : Bs, VS K B E t wv) (k : R wv) : ∃ wv, (∀ B : Bs, VS K B E t wv) ∧ R wv := ⟨wv, h, k⟩
section
variable {K : PySem.W.Frag} {B : Bs} {E : L2.St → XK}
/-! ### is -/
def rIsNU : R2 := fun x y H Q => y = .non ∧ Q (.bl (decide (x = .non))) H
def rNotNU : R2 := fun x y H Q => y = .non ∧ Q (.bl (!decide (x = .non))) H
theorem op_isNU {X : Cx} : OpR X (compareOp .Is) rIsNU := op_isN
theorem op_notNU {X : Cx} : OpR X (compareOp .IsNot) rNotNU := op_notN
def isNon : T → Bool
  | .non => true
  | .bl _ => false
  | .int _ => false
  | .str _ => false
  | .ty _ => false
  | .cls _ => false
  | .lst _ => false
  | .tup _ => false
  | .scr _ => false
  | .rng _ _ => false
  | .obj _ _ => false
  | .dk _ => false
theorem isNon_rp {G : Hp} {v : V} {t : T} (r : Rp K G v t) : decide (v = .non) = isNon t := by cases r <;> rfl
def vIsN (neg : Bool) : Rf → Rf → VW := peek2 fun x y Q γ => match y with
  | .non => Q (.val (.bl (nb neg (isNon x)))) γ
  | _ => False
instance : V2 K B E rIsNU (vIsN false) where
  run := fun {as γ σ G H x y rx ry Q Qv Xv} S r1 r2 h k _ => by
    obtain ⟨t, u, e1, e2, h⟩ := peek2_rp S r1 r2 h
    split at h
    · cases e2; exact ⟨rfl, by rw [isNon_rp e1]; exact kval k S (.bl _) h⟩
    · exact h.elim
instance : V2 K B E rNotNU (vIsN true) where
  run := fun {as γ σ G H x y rx ry Q Qv Xv} S r1 r2 h k _ => by
    obtain ⟨t, u, e1, e2, h⟩ := peek2_rp S r1 r2 h
    split at h
    · cases e2; exact ⟨rfl, by rw [isNon_rp e1]; exact kval k S (.bl _) h⟩
    · exact h.elim
def vIsB (neg : Bool) : Rf → Rf → VW := peek2 fun x y Q γ => match x with
  | .bl a => match y with
    | .bl b => Q (.val (.bl (nb neg (decide (a = b))))) γ
    | _ => False
  | _ => False
instance : V2 K B E rIsB (vIsB false) where
  run := fun {as γ σ G H x y rx ry Q Qv Xv} S r1 r2 h k _ => by
    obtain ⟨t, u, e1, e2, h⟩ := peek2_rp S r1 r2 h
    split at h
    · split at h
      · cases e1; cases e2; exact ⟨_, _, rfl, rfl, kval k S (.bl _) h⟩
      · exact h.elim
    · exact h.elim
instance : V2 K B E rNotB (vIsB true) where
  run := fun {as γ σ G H x y rx ry Q Qv Xv} S r1 r2 h k _ => by
    obtain ⟨t, u, e1, e2, h⟩ := peek2_rp S r1 r2 h
    split at h
    · split at h
      · cases e1; cases e2; exact ⟨_, _, rfl, rfl, kval k S (.bl _) h⟩
      · exact h.elim
    · exact h.elim
/-! ### range as a value -/
def rRngU : List V → Hp → VK → Prop := fun vs H Q => ∃ j, vs = [V.int j] ∧ ∀ p, H p = none → Q (.ref p) (L2.upd H p (.rng 0 j))
theorem call_rngU {X : Cx} : CallR X (.type "range") rRngU := cr_range1
def vRngV : List Rf → VW := look1 fun t Q γ => match t with
  | .int j => Q (.val (.rng 0 j)) γ
  | _ => False
instance : VC K B E rRngU vRngV where
  run := fun {as γ σ G H vs rs Q Qv Xv} S r1 h k _ => by
    obtain ⟨v, t, rfl, z, h⟩ := look1_ok S r1 h
    split at h
    · rename_i j
      refine ⟨_, by rw [int_any z], fun p hp => ?_⟩
      obtain ⟨S', g⟩ := S.lay (o := .rng 0 j) hp
      exact k (.val (.rng 0 j)) _ _ _ _ _ (List.prefix_refl _) g S' (Rp.rng upd_same) h
    · exact h.elim
def rInRng : R2 := fun x y H Q => ∃ i a lo hi, x = V.int i ∧ y = V.ref a ∧ H a = some (.rng lo hi) ∧ Q (.bl (decide (lo ≤ i ∧ i < hi))) H
theorem op_inRng {X : Cx} : OpR X (compareOp .In) rInRng := op_in_rng
def vInRng : Rf → Rf → VW := peek2 fun x y Q γ => match x with
  | .int i => match y with
    | .rng lo hi => Q (.val (.bl (decide (lo ≤ i ∧ i < hi)))) γ
    | _ => False
  | _ => False
instance : V2 K B E rInRng vInRng where
  run := fun {as γ σ G H x y rx ry Q Qv Xv} S r1 r2 h k _ => by
    obtain ⟨t, u, e1, e2, h⟩ := peek2_rp S r1 r2 h
    split at h
    · split at h
      · cases e1
        cases e2 with | rng e => exact ⟨_, _, _, _, rfl, rfl, e, kval k S (.bl _) h⟩
      · exact h.elim
    · exact h.elim
/-! ### list(range(..)) -/
class VR (K : PySem.W.Frag) (B : Bs) (E : L2.St → XK) (t : L2.St → Hp → (Int → Int → Hp → Prop) → Prop) (w : outParam (Env → (Int → Int → Env → Prop) → XQ → Prop)) : Prop where
  run : ∀ {as : List Addr} {γ : Env} {σ : L2.St} {G H : Hp} {Q : Int → Int → Hp → Prop} {Qv : Int → Int → Env → Prop} {Xv : XQ}, StR K B as γ σ G H → w γ Qv Xv →
    (∀ (i j : Int) (γ' : Env) (as' : List Addr) (G' H' : Hp), as <+: as' → Same G G' → StR K B as' γ' σ G' H' → Qv i j γ' → Q i j H') → KontX K B as σ G (E σ) Xv → t σ H Q
def vRg1 (wa : VW) : Env → (Int → Int → Env → Prop) → XQ → Prop := fun γ Q X => wa γ (fun r γ1 => peek r γ1 fun t => match t with
  | .int j => Q 0 j γ1
  | _ => False) X
def vRg2 (wa wb : VW) : Env → (Int → Int → Env → Prop) → XQ → Prop := fun γ Q X => wa γ (fun r γ1 => peek r γ1 fun t => match t with
  | .int i => wb γ1 (fun r γ2 => peek r γ2 fun t => match t with
    | .int j => Q i j γ2
    | _ => False) X
  | _ => False) X
instance {ta : TE} {wa : VW} [ha : VE K B E ta wa] : VR K B E (tRg1 ta) (vRg1 wa) where
  run := fun {as γ σ G H Q Qv Xv} S h k kx => by
    refine ha.run S h (fun r1 γ1 as1 v1 G1 H1 p1 g1 S1 rr1 q1 => ?_) kx
    obtain ⟨t, q, z⟩ := peek_ok S1 rr1 q1
    split at q
    · exact ⟨_, int_any z, k _ _ _ _ _ _ p1 g1 S1 q⟩
    · exact q.elim
instance {ta tb : TE} {wa wb : VW} [ha : VE K B E ta wa] [hb : VE K B E tb wb] : VR K B E (tRg2 ta tb) (vRg2 wa wb) where
  run := fun {as γ σ G H Q Qv Xv} S h k kx => by
    refine ha.run S h (fun r1 γ1 as1 v1 G1 H1 p1 g1 S1 rr1 q1 => ?_) kx
    obtain ⟨t, q, z⟩ := peek_ok S1 rr1 q1
    split at q
    · refine hb.run S1 q (fun r2 γ2 as2 v2 G2 H2 p2 g2 S2 rr2 q2 => ?_) (kx.mono p1 g1)
      obtain ⟨t2, q2, z2⟩ := peek_ok S2 rr2 q2
      split at q2
      · exact ⟨_, _, int_any z, int_any z2, k _ _ _ _ _ _ (p1.trans p2) (g1.trans g2) S2 q2⟩
      · exact q2.elim
    · exact q.elim
theorem rgV_rp {G : Hp} (a b : Int) : RpAll K G (rgV a b) (rngT a (b - a).toNat) := by
  have aux : ∀ (l : List Nat), RpAll K G (l.map fun i => V.int (a + (i : Nat))) (l.map fun i => T.int (a + (i : Nat))) := fun l => by
    induction l with
    | nil => exact .nil
    | cons x r ih => exact .cons (.int _) ih
  exact aux _
def vLstRg (wr : Env → (Int → Int → Env → Prop) → XQ → Prop) : VW := fun γ Q X => wr γ (fun i j γ1 => RgOk i j ∧ γ1.new (.lst (rngT i (j - i).toNat)) Q) X
def vTupRg (wr : Env → (Int → Int → Env → Prop) → XQ → Prop) : VW := fun γ Q X => wr γ (fun i j γ1 => RgOk i j ∧ Q (.val (.tup (rngT i (j - i).toNat))) γ1) X
instance {t : L2.St → Hp → (Int → Int → Hp → Prop) → Prop} {wr : Env → (Int → Int → Env → Prop) → XQ → Prop} [hr : VR K B E t wr] : VE K B E (tLstRg t) (vLstRg wr) where
  run := fun {as γ σ G H Q Qv Xv} S h k kx => by
    refine hr.run S h (fun i j γ1 as1 G1 H1 p1 g1 S1 q1 => ?_) kx
    exact ⟨q1.1, fun q hq => knew (k.mono p1 g1) S1 (rgV_rp i j) q1.2 hq⟩
instance {t : L2.St → Hp → (Int → Int → Hp → Prop) → Prop} {wr : Env → (Int → Int → Env → Prop) → XQ → Prop} [hr : VR K B E t wr] : VE K B E (tTupRg t) (vTupRg wr) where
  run := fun {as γ σ G H Q Qv Xv} S h k kx => by
    refine hr.run S h (fun i j γ1 as1 G1 H1 p1 g1 S1 q1 => ?_) kx
    exact ⟨q1.1, fun q hq => ktup (k.mono p1 g1) S1 (rgV_rp i j) q1.2 hq⟩
/-! ### all, any, sum, max, min -/
theorem bls_inv {G : Hp} : ∀ {vs : List V} {bs : List Bool}, RpAll K G vs (bs.map T.bl) → vs = bs.map V.bl
  | _, [], .nil => rfl
  | _, b :: bs, .cons a r => by cases a; rw [bls_inv r]; rfl
theorem ints_inv {G : Hp} : ∀ {vs : List V} {bs : List Int}, RpAll K G vs (bs.map T.int) → vs = bs.map V.int
  | _, [], .nil => rfl
  | _, b :: bs, .cons a r => by cases a; rw [ints_inv r]; rfl
def vAllAny (f : List Bool → Bool) : List Rf → VW := look1 fun t Q γ => match t with
  | .lst ts => ∃ bs : List Bool, ts = bs.map T.bl ∧ Q (.val (.bl (f bs))) γ
  | _ => False
instance : VC K B E (rAll K) (vAllAny fun bs => bs.all id) where
  run := fun {as γ σ G H vs rs Q Qv Xv} S r1 h k _ => by
    obtain ⟨v, t, rfl, z, h⟩ := look1_ok S r1 h
    split at h
    · obtain ⟨bs, rfl, h⟩ := h
      obtain ⟨a, acc, rfl, e, rp⟩ := lst_any S z
      exact ⟨a, bs, rfl, by rw [← bls_inv rp]; exact SqL.of e, kval k S (.bl _) h⟩
    · exact h.elim
instance : VC K B E (rAny K) (vAllAny fun bs => bs.any id) where
  run := fun {as γ σ G H vs rs Q Qv Xv} S r1 h k _ => by
    obtain ⟨v, t, rfl, z, h⟩ := look1_ok S r1 h
    split at h
    · obtain ⟨bs, rfl, h⟩ := h
      obtain ⟨a, acc, rfl, e, rp⟩ := lst_any S z
      exact ⟨a, bs, rfl, by rw [← bls_inv rp]; exact SqL.of e, kval k S (.bl _) h⟩
    · exact h.elim
def vSum : List Rf → VW := look1 fun t Q γ => match t with
  | .lst ts => ∃ ns : List Int, ts = ns.map T.int ∧ Q (.val (.int ns.sum)) γ
  | _ => False
instance : VC K B E (rSum K) vSum where
  run := fun {as γ σ G H vs rs Q Qv Xv} S r1 h k _ => by
    obtain ⟨v, t, rfl, z, h⟩ := look1_ok S r1 h
    split at h
    · obtain ⟨bs, rfl, h⟩ := h
      obtain ⟨a, acc, rfl, e, rp⟩ := lst_any S z
      exact ⟨a, bs, rfl, by rw [← ints_inv rp]; exact SqL.of e, kval k S (.int _) h⟩
    · exact h.elim
def vMx (le : Int → Int → Prop) : List Rf → VW := look1 fun t Q γ => seqT t fun _ ts => ∃ ns : List Int, ts = ns.map T.int ∧ 0 < ns.length ∧ ∀ m, m ∈ ns → (∀ y, y ∈ ns → le y m) → Q (.val (.int m)) γ
instance : VC K B E (rMaxQ K) (vMx fun y m => y ≤ m) where
  run := fun {as γ σ G H vs rs Q Qv Xv} S r1 h k _ => by
    obtain ⟨v, t, rfl, z, h⟩ := look1_ok S r1 h
    obtain ⟨b, ts, a, acc, rfl, sq, rp, ⟨ns, rfl, h0, h⟩, _⟩ := seq_any S z h
    exact ⟨a, ns, rfl, by rw [← ints_inv rp]; exact sq.or, h0, fun m h1 h2 => kval k S (.int _) (h m h1 h2)⟩
instance : VC K B E (rMinQ K) (vMx fun y m => m ≤ y) where
  run := fun {as γ σ G H vs rs Q Qv Xv} S r1 h k _ => by
    obtain ⟨v, t, rfl, z, h⟩ := look1_ok S r1 h
    obtain ⟨b, ts, a, acc, rfl, sq, rp, ⟨ns, rfl, h0, h⟩, _⟩ := seq_any S z h
    exact ⟨a, ns, rfl, by rw [← ints_inv rp]; exact sq.or, h0, fun m h1 h2 => kval k S (.int _) (h m h1 h2)⟩
/-! ### walking a text -/
/-- x, y = a, b -/
instance {i j : Nat} {ta : TA} {wa : Env → (List Rf → Env → Prop) → XQ → Prop} [ha : VA K B E ta wa] : VS K B E (tPar i j ta) (vPar i j wa) where
  run := fun {as γ σ G H D Dv} S h k => by
    refine ha.run S h (fun rs γ1 as1 vs G1 H1 p1 g1 S1 rr1 q1 => ?_) (k.ex σ)
    split at q1
    · cases rr1 with | cons a b =>
      cases b with | cons a2 b =>
      cases b
      refine ⟨_, _, rfl, ?_⟩
      exact k.nx _ _ _ _ _ p1 g1 ((S1.store a i).store a2 j) q1
    · exact q1.elim
/-- a test's answer is another's -/
theorem br_nb {c : Bool} {P Q : Prop} (h : br c Q P) : br (!c) P Q := by cases c <;> exact h
end
end VL
set_option Elab.async false
set_option linter.all false
set_option maxRecDepth 100000
set_option maxHeartbeats 4000000
/-! loops over values: how they are told -/
namespace VL
open PySem PySem.Spec PyProof.Rows L2 XR
/-! ### from one telling of the state to another, reckoned -/
def fzAt (γ : Env) (k : Nat) : Option Env := match nth γ.mem k with
  | some (.mu t) => match Nat.ble γ.nio k with
    | true => some { γ with mem := γ.mem.set k (.fz t) }
    | false => none
  | some (.fz _) => some γ
  | none => none
def fzAll : List Nat → Env → Option Env
  | [], γ => some γ
  | k :: r, γ => match fzAt γ k with
    | some γ1 => fzAll r γ1
    | none => none
/-- the open objects that are settled in γ' -/
def toFz : List (Option Rf) → List (Option Rf) → List Nat
  | some (.ref k) :: l, some (.val _) :: l' => k :: toFz l l'
  | _ :: l, _ :: l' => toFz l l'
  | _, _ => []
def toFzM : Nat → List MO → List MO → List Nat
  | n, .mu _ :: l, .fz _ :: l' => n :: toFzM (n + 1) l l'
  | n, _ :: l, _ :: l' => toFzM (n + 1) l l'
  | _, _, _ => []
def fitSl (mem : List MO) (n : Nat) : List (Option Rf) → List (Option Rf) → Option (List (Option Rf))
  | [], [] => some []
  | _ :: l, none :: l' => match fitSl mem n l l' with
    | some r => some (none :: r)
    | none => none
  | some (.ref k) :: l, some (.val _) :: l' => match nth mem k with
    | some (.fz t) => match fitSl mem n l l' with
      | some r => some (some (.val t) :: r)
      | none => none
    | _ => none
  | some (.ref k) :: l, some (.ref _) :: l' => match Nat.blt k n with
    | true => match fitSl mem n l l' with
      | some r => some (some (.ref k) :: r)
      | none => none
    | false => none
  | some (.val t) :: l, some (.val _) :: l' => match fitSl mem n l l' with
    | some r => some (some (.val t) :: r)
    | none => none
  | some (.err D gs) :: l, some (.err _ _) :: l' => match fitSl mem n l l' with
    | some r => some (some (.err D gs) :: r)
    | none => none
  | _, _ => none
def normTo (γ γ' : Env) : Option Env := match fzAll (toFz γ.sl γ'.sl ++ toFzM 0 γ.mem γ'.mem) γ with
  | some γ1 => match fitSl γ1.mem γ'.mem.length γ1.sl γ'.sl with
    | some sl => match Nat.ble γ1.nio γ'.mem.length with
      | true => some ⟨γ1.nio, sl, γ1.mem.take γ'.mem.length⟩
      | false => none
    | none => none
  | none => none
theorem Le.trans {n0 : Nat} {γ γ1 γ2 : Env} (h : Le n0 γ γ1) (k : Le n0 γ1 γ2) : Le n0 γ γ2 := by
  induction h with
  | refl γ => exact k
  | unset i _ ih => exact .unset i (ih k)
  | freeze j e hk _ ih => exact .freeze j e hk (ih k)
  | toVal i e1 e2 _ ih => exact .toVal i e1 e2 (ih k)
  | cut n h1 h2 h3 _ ih => exact .cut n h1 h2 h3 (ih k)
theorem fzAt_le {n0 : Nat} {γ γ' : Env} {k : Nat} (h : fzAt γ k = some γ') : Le n0 γ γ' := by
  unfold fzAt at h
  rw [nth_eq] at h
  split at h
  · rename_i t e
    split at h
    · rename_i hb
      cases h
      exact .freeze k e (by simpa [Nat.ble_eq] using hb) (.refl _)
    · cases h
  · cases h; exact .refl _
  · cases h
theorem fzAll_le {n0 : Nat} : ∀ {ks : List Nat} {γ γ' : Env}, fzAll ks γ = some γ' → Le n0 γ γ'
  | [], γ, γ', h => by cases h; exact .refl _
  | k :: r, γ, γ', h => by
    unfold fzAll at h
    split at h
    · rename_i γ1 e
      exact (fzAt_le e).trans (fzAll_le h)
    · cases h
theorem set_len {α : Type} (pre : List α) (x y : α) (l : List α) : (pre ++ x :: l).set pre.length y = pre ++ y :: l := by
  rw [List.set_append_right _ _ (Nat.le_refl _), Nat.sub_self]
  rfl
theorem get_len {α : Type} (pre : List α) (x : α) (l : List α) : (pre ++ x :: l)[pre.length]? = some x := by
  rw [List.getElem?_append_right (Nat.le_refl _), Nat.sub_self]; rfl
/-- slot by slot -/
theorem fitSl_le {n0 n nio : Nat} {mem : List MO} : ∀ {l l' r : List (Option Rf)} {pre : List (Option Rf)}, fitSl mem n l l' = some r → Le n0 ⟨nio, pre ++ l, mem⟩ ⟨nio, pre ++ r, mem⟩ ∧ ∀ (i k : Nat), r[i]? = some (some (.ref k)) → k < n
  | [], [], r, pre, h => by cases h; exact ⟨.refl _, fun i k e => by cases e⟩
  | [], _ :: _, r, pre, h => by cases h
  | x :: l, none :: l', r, pre, h => by
    have h : (match fitSl mem n l l' with | some r => some (none :: r) | none => none) = some r := by
      cases x with
      | none => exact h
      | some y => cases y <;> exact h
    split at h
    · rename_i r' e
      cases h
      obtain ⟨h1, h2⟩ := fitSl_le (nio := nio) (n0 := n0) (pre := pre ++ [none]) e
      refine ⟨.unset pre.length ?_, fun i k e => ?_⟩
      · show Le n0 ⟨nio, (pre ++ x :: l).set pre.length none, mem⟩ _
        rw [set_len]
        simpa using h1
      · cases i with
        | zero => cases e
        | succ i => exact h2 i k e
    · cases h
  | some (.ref j) :: l, some (.val _) :: l', r, pre, h => by
    unfold fitSl at h
    rw [nth_eq] at h
    split at h
    · rename_i t em
      split at h
      · rename_i r' e
        cases h
        obtain ⟨h1, h2⟩ := fitSl_le (nio := nio) (n0 := n0) (pre := pre ++ [some (.val t)]) e
        refine ⟨.toVal (t := t) (k := j) pre.length (get_len _ _ _) em ?_, fun i k e => ?_⟩
        · show Le n0 ⟨nio, (pre ++ some (.ref j) :: l).set pre.length (some (.val t)), mem⟩ _
          rw [set_len]
          simpa using h1
        · cases i with
          | zero => cases e
          | succ i => exact h2 i k e
      · cases h
    · cases h
  | some (.ref j) :: l, some (.ref _) :: l', r, pre, h => by
    unfold fitSl at h
    split at h
    · rename_i hb
      split at h
      · rename_i r' e
        cases h
        obtain ⟨h1, h2⟩ := fitSl_le (nio := nio) (n0 := n0) (pre := pre ++ [some (.ref j)]) e
        refine ⟨by simpa using h1, fun i k e => ?_⟩
        cases i with
        | zero => cases e; simpa [Nat.blt_eq] using hb
        | succ i => exact h2 i k e
      · cases h
    · cases h
  | some (.val t) :: l, some (.val _) :: l', r, pre, h => by
    unfold fitSl at h
    split at h
    · rename_i r' e
      cases h
      obtain ⟨h1, h2⟩ := fitSl_le (nio := nio) (n0 := n0) (pre := pre ++ [some (.val t)]) e
      refine ⟨by simpa using h1, fun i k e => ?_⟩
      cases i with
      | zero => cases e
      | succ i => exact h2 i k e
    · cases h
  | some (.err D gs) :: l, some (.err _ _) :: l', r, pre, h => by
    unfold fitSl at h
    split at h
    · rename_i r' e
      cases h
      obtain ⟨h1, h2⟩ := fitSl_le (nio := nio) (n0 := n0) (pre := pre ++ [some (.err D gs)]) e
      refine ⟨by simpa using h1, fun i k e => ?_⟩
      cases i with
      | zero => cases e
      | succ i => exact h2 i k e
    · cases h
  | none :: _, [], _, _, h => by cases h
  | some (.ref _) :: _, [], _, _, h => by cases h
  | some (.val _) :: _, [], _, _, h => by cases h
  | some (.err _ _) :: _, [], _, _, h => by cases h
  | none :: _, some (.ref _) :: _, _, _, h => by cases h
  | none :: _, some (.val _) :: _, _, _, h => by cases h
  | none :: _, some (.err _ _) :: _, _, _, h => by cases h
  | some (.ref _) :: _, some (.err _ _) :: _, _, _, h => by cases h
  | some (.val _) :: _, some (.err _ _) :: _, _, _, h => by cases h
  | some (.val _) :: _, some (.ref _) :: _, _, _, h => by cases h
  | some (.err _ _) :: _, some (.ref _) :: _, _, _, h => by cases h
  | some (.err _ _) :: _, some (.val _) :: _, _, _, h => by cases h
theorem Le.to {n0 : Nat} {γ γ' : Env} (h : normTo γ γ' = some γ') (hn : n0 ≤ γ'.mem.length) : Le n0 γ γ' := by
  unfold normTo at h
  split at h
  · rename_i γ1 e1
    split at h
    · rename_i sl e2
      split at h
      · rename_i hb
        have h := Option.some.inj h
        obtain ⟨nio1, sl1, mem1⟩ := γ1
        obtain ⟨l2, f2⟩ := fitSl_le (n0 := n0) (nio := nio1) (pre := []) e2
        refine (fzAll_le e1).trans (l2.trans ?_)
        refine .cut γ'.mem.length hn (by simpa [Nat.ble_eq] using hb) f2 ?_
        have h : (⟨nio1, sl, mem1.take γ'.mem.length⟩ : Env) = γ' := h
        show Le n0 ⟨nio1, sl, mem1.take γ'.mem.length⟩ γ'
        rw [h]
        exact .refl _
      · cases h
    · cases h
  · cases h
/-! ### for -/
/-- the state is told by E at some s of which P holds -/
@[irreducible] def Nx {β : Type} (n0 : Nat) (E : β → Env) (P : β → Prop) (γ4 : Env) : Prop := ∃ γ5, Le n0 γ4 γ5 ∧ ∃ s, γ5 = E s ∧ P s
theorem Nx.mk {β : Type} {n0 : Nat} {E : β → Env} {P : β → Prop} {γ4 : Env} (s : β) (l : Le n0 γ4 (E s)) (p : P s) : Nx n0 E P γ4 := by
  unfold Nx
  exact ⟨E s, l, s, rfl, p⟩
section
variable {n0 : Nat} {γ1 : Env} {step : T → Env → (Env → Prop) → Prop} {done : Env → Prop} {β : Type}
theorem for_ts {ts : List T} (E : β → Env) (P : Nat → β → Prop) (h0 : Nx n0 E (P 0) γ1)
    (hs : ∀ i t s, ts[i]? = some t → P i s → step t (E s) (Nx n0 E (P (i + 1)))) (hd : ∀ s, P ts.length s → done (E s)) : ForI (.fix ts) n0 γ1 step done := by
  unfold Nx at h0 hs
  refine ⟨fun i γ => ∃ s, γ = E s ∧ P i s, h0, fun _ _ _ => trivial, fun i t γ2 e h => ?_, fun γ2 h => ?_⟩
  · obtain ⟨s, rfl, p⟩ := h
    exact hs i t s e p
  · obtain ⟨s, rfl, p⟩ := h
    exact hd s p
theorem for_map {α : Type} {xs : List α} {f : α → T} (E : β → Env) (P : Nat → β → Prop) (h0 : Nx n0 E (P 0) γ1)
    (hs : ∀ i x s, xs[i]? = some x → P i s → step (f x) (E s) (Nx n0 E (P (i + 1)))) (hd : ∀ s, P xs.length s → done (E s)) : ForI (.fix (xs.map f)) n0 γ1 step done := by
  refine for_ts E P h0 (fun i t s e p => ?_) fun s p => hd s (by rw [List.length_map] at p; exact p)
  rw [List.getElem?_map] at e
  cases ex : xs[i]? with
  | none => rw [ex] at e; cases e
  | some x => rw [ex] at e; cases e; exact hs i x s ex p
theorem for_rng {lo : Int} {n : Nat} (E : β → Env) (P : Nat → β → Prop) (h0 : Nx n0 E (P 0) γ1)
    (hs : ∀ i s, i < n → P i s → step (.int (lo + (i : Nat))) (E s) (Nx n0 E (P (i + 1)))) (hd : ∀ s, P n s → done (E s)) : ForI (.fix (rngT lo n)) n0 γ1 step done := by
  refine for_ts E P h0 (fun i t s e p => ?_) fun s p => hd s (by rw [rngT_len] at p; exact p)
  obtain ⟨h, rfl⟩ := rngT_at e
  exact hs i s h p
/-- for i, x in enumerate(..) -/
theorem for_enum {α : Type} {xs : List α} {f : α → T} {n : Int} (E : β → Env) (P : Nat → β → Prop) (h0 : Nx n0 E (P 0) γ1)
    (hs : ∀ i x s, xs[i]? = some x → P i s → step (.tup [.int (n + (i : Nat)), f x]) (E s) (Nx n0 E (P (i + 1)))) (hd : ∀ s, P xs.length s → done (E s)) : ForI (.fix (enumT n (xs.map f))) n0 γ1 step done := by
  refine for_ts E P h0 (fun i t s e p => ?_) fun s p => hd s (by rw [enumT_len, List.length_map] at p; exact p)
  rw [enumT_at, List.getElem?_map] at e
  cases ex : xs[i]? with
  | none => rw [ex] at e; cases e
  | some x => rw [ex] at e; cases e; exact hs i x s ex p
theorem for_zip {α α' : Type} {xs : List α} {ys : List α'} {f : α → T} {g : α' → T} (E : β → Env) (P : Nat → β → Prop) (h0 : Nx n0 E (P 0) γ1)
    (hs : ∀ i x y s, xs[i]? = some x → ys[i]? = some y → P i s → step (.tup [f x, g y]) (E s) (Nx n0 E (P (i + 1)))) (hd : ∀ s, P (min xs.length ys.length) s → done (E s)) : ForI (.fix (zipT (xs.map f) (ys.map g))) n0 γ1 step done := by
  refine for_ts E P h0 (fun i t s e p => ?_) fun s p => hd s (by rw [zipT_len, List.length_map, List.length_map] at p; exact p)
  obtain ⟨a, b, h1, h2, rfl⟩ := zipT_inv e
  rw [List.getElem?_map] at h1 h2
  cases ex : xs[i]? with
  | none => rw [ex] at h1; cases h1
  | some x =>
    cases ey : ys[i]? with
    | none => rw [ey] at h2; cases h2
    | some y => rw [ex] at h1; rw [ey] at h2; cases h1; cases h2; exact hs i x y s ex ey p
/-- over an open list that stands as it is while the loop runs -/
theorem for_live {α : Type} {xs : List α} {f : α → T} {k : Nat} (E : β → Env) (P : Nat → β → Prop) (hon : ∀ s, nth (E s).mem k = some (.mu (.lst (xs.map f)))) (h0 : Nx n0 E (P 0) γ1)
    (hs : ∀ i x s, xs[i]? = some x → P i s → step (f x) (E s) (Nx n0 E (P (i + 1)))) (hd : ∀ s, P xs.length s → done (E s)) : ForI (.live k (xs.map f)) n0 γ1 step done := by
  unfold Nx at h0 hs
  refine ⟨fun i γ => ∃ s, γ = E s ∧ P i s, h0, fun i γ2 h => ?_, fun i t γ2 e h => ?_, fun γ2 h => ?_⟩
  · obtain ⟨s, rfl, p⟩ := h
    exact hon s
  · obtain ⟨s, rfl, p⟩ := h
    have e : (xs.map f)[i]? = some t := e
    rw [List.getElem?_map] at e
    cases ex : xs[i]? with
    | none => rw [ex] at e; cases e
    | some x => rw [ex] at e; cases e; exact hs i x s ex p
  · obtain ⟨s, rfl, p⟩ := h
    have p : P (xs.map f).length s := p
    rw [List.length_map] at p
    exact hd s p
/-! ### while -/
theorem while_st {step : Env → (Env → Prop) → Prop} (E : β → Env) (P : Nat → β → Prop) (h0 : ∃ m, Nx n0 E (P m) γ1) (hs : ∀ m s, P m s → step (E s) (fun γ4 => ∃ m', m' < m ∧ Nx n0 E (P m') γ4))
    (mono : ∀ (γ : Env) (N N' : Env → Prop), (∀ γ4, N γ4 → N' γ4) → step γ N → step γ N') : WhileI n0 γ1 step := by
  unfold Nx at h0 hs
  obtain ⟨m, γ5, l, s, rfl, p⟩ := h0
  refine ⟨fun m γ => ∃ s, γ = E s ∧ P m s, ⟨m, E s, l, s, rfl, p⟩, fun m γ2 h => ?_⟩
  obtain ⟨s, rfl, p⟩ := h
  exact mono _ _ _ (fun γ4 h => let ⟨m', hm, γ5, l, s', e, q⟩ := h; ⟨γ5, m', l, hm, s', e, q⟩) (hs m s p)
/-- the end of a turn of a while -/
@[irreducible] def Nw (n0 : Nat) (E : β → Env) (P : Nat → β → Prop) (m : Nat) (γ4 : Env) : Prop := ∃ γ5 m', Le n0 γ4 γ5 ∧ m' < m ∧ ∃ s, γ5 = E s ∧ P m' s
theorem Nw.mk {E : β → Env} {P : Nat → β → Prop} {m : Nat} {γ4 : Env} (s : β) (m' : Nat) (l : Le n0 γ4 (E s)) (h : m' < m) (p : P m' s) : Nw n0 E P m γ4 := by
  unfold Nw
  exact ⟨E s, m', l, h, s, rfl, p⟩
theorem while_ts {step : Env → (Env → Prop) → Prop} (E : β → Env) (P : Nat → β → Prop) (m : Nat) (h0 : Nx n0 E (P m) γ1) (hs : ∀ m s, P m s → step (E s) (Nw n0 E P m)) : WhileI n0 γ1 step := by
  unfold Nx at h0
  unfold Nw at hs
  obtain ⟨γ5, l, s, rfl, p⟩ := h0
  refine ⟨fun m γ => ∃ s, γ = E s ∧ P m s, ⟨m, E s, l, s, rfl, p⟩, fun m γ2 h => ?_⟩
  obtain ⟨s, rfl, p⟩ := h
  exact hs m s p
/-! ### behind a statement -/
theorem cut_st {fst : (Env → Prop) → Prop} {snd : Env → Prop} (E : β → Env) (P : β → Prop) (h1 : fst (Nx n0 E P)) (h2 : ∀ s, P s → snd (E s)) : CutI n0 fst snd := by
  unfold Nx at h1
  refine ⟨fun γ => ∃ s, γ = E s ∧ P s, h1, fun γ2 h => ?_⟩
  obtain ⟨s, rfl, p⟩ := h
  exact h2 s p
end
/-! ### comprehensions -/
section
variable {γ1 : Env} {vs : List Nat} {step : T → Env → (Env → Prop) → Prop} {Q : RQ} {β α : Type} {xs : List α} {f : α → T}
/-- the state with the new list -/
def EL (γ1 : Env) (vs : List Nat) (out : List T) : Env := (γ1.push (.mu (.lst out))).wipe vs
@[irreducible] def NL (γ1 : Env) (vs : List Nat) (I : List T → Prop) (γ4 : Env) : Prop := ∃ γ5, Le (γ1.mem.length + 1) (γ4.wipe vs) γ5 ∧ ∃ out, γ5 = EL γ1 vs out ∧ I out
theorem NL.mk {I : List T → Prop} {γ4 : Env} (out : List T) (l : Le (γ1.mem.length + 1) (γ4.wipe vs) (EL γ1 vs out)) (p : I out) : NL γ1 vs I γ4 := by
  unfold NL
  exact ⟨EL γ1 vs out, l, out, rfl, p⟩
/-- only the new list changes -/
theorem lc_ts {ts : List T} (I : Nat → List T → Prop) (i0 : I 0 []) (hs : ∀ i t out, ts[i]? = some t → I i out → step t ((EL γ1 vs out).wipe vs) (NL γ1 vs (I (i + 1)))) (hd : ∀ out, I ts.length out → Q (.ref γ1.mem.length) (EL γ1 vs out)) : LcI (.fix ts) γ1 vs step Q := by
  unfold NL at hs
  refine ⟨fun i γ => ∃ out, γ = EL γ1 vs out ∧ I i out, ⟨EL γ1 vs [], .refl _, [], rfl, i0⟩, fun _ _ _ => trivial, fun i t γ2 e h => ?_, fun γ2 h => ?_⟩
  · obtain ⟨out, rfl, p⟩ := h
    exact hs i t out e p
  · obtain ⟨out, rfl, p⟩ := h
    exact hd out p
theorem take_succ_fm {γ : Type} {xs : List α} {i : Nat} {x : α} (g : α → Option γ) (e : xs[i]? = some x) : (xs.take (i + 1)).filterMap g = (xs.take i).filterMap g ++ (g x).toList := by
  rw [XR.take_one e, List.filterMap_append]
  have : [x].filterMap g = (g x).toList := by cases h : g x <;> simp [h]
  rw [this]
/-- each item gives g of it, or nothing -/
theorem lc_fm (g : α → Option T) (hs : ∀ (i : Nat) x out, xs[i]? = some x → out.length < xs.length → step (f x) ((EL γ1 vs out).wipe vs) (NL γ1 vs (fun o => o = out ++ (g x).toList))) (hd : Q (.ref γ1.mem.length) (EL γ1 vs (xs.filterMap g))) : LcI (.fix (xs.map f)) γ1 vs step Q := by
  refine lc_ts (fun i out => out = (xs.take i).filterMap g) rfl (fun i t out e h => ?_) fun out h => ?_
  · subst h
    rw [List.getElem?_map] at e
    cases ex : xs[i]? with
    | none => rw [ex] at e; cases e
    | some x =>
      rw [ex] at e
      cases e
      have := hs i x ((xs.take i).filterMap g) ex (by have := List.length_filterMap_le g (xs.take i); have := (List.getElem?_eq_some_iff.mp ex).1; rw [List.length_take] at *; omega)
      rw [take_succ_fm g ex]
      exact this
  · subst h
    rw [List.length_map, List.take_length]
    exact hd
theorem lc_map (g : α → T) (hs : ∀ (i : Nat) x out, xs[i]? = some x → out.length < xs.length → step (f x) ((EL γ1 vs out).wipe vs) (NL γ1 vs (fun o => o = out ++ [g x]))) (hd : Q (.ref γ1.mem.length) (EL γ1 vs (xs.map g))) : LcI (.fix (xs.map f)) γ1 vs step Q := by
  refine lc_fm (fun x => some (g x)) (fun i x out e h => hs i x out e h) ?_
  have : xs.filterMap (fun x => some (g x)) = xs.map g := by rw [List.filterMap_eq_map']
  rw [this]
  exact hd
theorem lc_rng {lo : Int} {n : Nat} (g : Nat → Option T) (hs : ∀ i out, i < n → out.length < n → step (.int (lo + (i : Nat))) ((EL γ1 vs out).wipe vs) (NL γ1 vs (fun o => o = out ++ (g i).toList))) (hd : Q (.ref γ1.mem.length) (EL γ1 vs ((List.range n).filterMap g))) : LcI (.fix (rngT lo n)) γ1 vs step Q := by
  refine lc_fm (xs := List.range n) (f := fun i => .int (lo + (i : Nat))) g (fun i x out e h => ?_) hd
  have hl : i < n := by have := (List.getElem?_eq_some_iff.mp e).1; simpa using this
  rw [List.getElem?_range hl] at e
  cases e
  exact hs i out hl (by rw [List.length_range] at h; exact h)
theorem lc_rngM {lo : Int} {n : Nat} (g : Nat → T) (hs : ∀ i out, i < n → out.length < n → step (.int (lo + (i : Nat))) ((EL γ1 vs out).wipe vs) (NL γ1 vs (fun o => o = out ++ [g i]))) (hd : Q (.ref γ1.mem.length) (EL γ1 vs ((List.range n).map g))) : LcI (.fix (rngT lo n)) γ1 vs step Q := by
  refine lc_rng (fun i => some (g i)) (fun i out e h => hs i out e h) ?_
  have : (List.range n).filterMap (fun i => some (g i)) = (List.range n).map g := by rw [List.filterMap_eq_map']
  rw [this]
  exact hd
/-- a state besides (draws): E s out, the new list last in its memory -/
@[irreducible] def NLs (n0 : Nat) (vs : List Nat) (E : β → Env) (P : β → Prop) (γ4 : Env) : Prop := ∃ γ5, Le n0 (γ4.wipe vs) γ5 ∧ ∃ s, γ5 = E s ∧ P s
theorem NLs.mk {n0 : Nat} {E : β → Env} {P : β → Prop} {γ4 : Env} (s : β) (l : Le n0 (γ4.wipe vs) (E s)) (p : P s) : NLs n0 vs E P γ4 := by
  unfold NLs
  exact ⟨E s, l, s, rfl, p⟩
theorem lc_st {ts : List T} (E : β → Env) (P : Nat → β → Prop) (h0 : NLs (γ1.mem.length + 1) vs E (P 0) (γ1.push (.mu (.lst []))))
    (hs : ∀ i t s, ts[i]? = some t → P i s → step t ((E s).wipe vs) (NLs (γ1.mem.length + 1) vs E (P (i + 1)))) (hd : ∀ s, P ts.length s → Q (.ref γ1.mem.length) (E s)) : LcI (.fix ts) γ1 vs step Q := by
  unfold NLs at h0 hs
  refine ⟨fun i γ => ∃ s, γ = E s ∧ P i s, h0, fun _ _ _ => trivial, fun i t γ2 e h => ?_, fun γ2 h => ?_⟩
  · obtain ⟨s, rfl, p⟩ := h
    exact hs i t s e p
  · obtain ⟨s, rfl, p⟩ := h
    exact hd s p
end
/-! ### typed values as trees: == decides -/
structure Enc {α : Type} [DecidableEq α] (f : α → T) (d : Nat) : Prop where
  eq : ∀ a b, eqT (f a) (f b) = decide (a = b)
  data : ∀ a, dataT (f a) = true
  dep : ∀ a, depT (f a) ≤ d
theorem Enc.ok {α : Type} [DecidableEq α] {f : α → T} {d : Nat} (h : Enc f d) (hd : d ≤ 64) (a : α) : okD (f a) = true := by
  unfold okD
  rw [h.data, Bool.true_and]
  exact decide_eq_true (Nat.le_trans (h.dep a) hd)
theorem encInt : Enc T.int 0 := ⟨fun a b => by show (a == b) = _; rw [Bool.eq_iff_iff]; simp, fun _ => rfl, fun _ => Nat.le_refl _⟩
theorem encStr : Enc T.str 0 := ⟨fun a b => by show (a == b) = _; rw [Bool.eq_iff_iff]; simp, fun _ => rfl, fun _ => Nat.le_refl _⟩
theorem encBl : Enc T.bl 0 := ⟨fun a b => by show (a == b) = _; rw [Bool.eq_iff_iff]; simp, fun _ => rfl, fun _ => Nat.le_refl _⟩
def eqTs (xs ys : List T) : Bool := PyData.eqvAll (toDs xs) (toDs ys)
section
variable {α : Type} [DecidableEq α] {f : α → T} {d : Nat}
theorem Enc.eqs (h : Enc f d) : ∀ xs ys : List α, eqTs (xs.map f) (ys.map f) = decide (xs = ys)
  | [], [] => rfl
  | [], y :: ys => rfl
  | x :: xs, [] => rfl
  | x :: xs, y :: ys => by
    show (eqT (f x) (f y) && eqTs (xs.map f) (ys.map f)) = _
    rw [h.eq, h.eqs xs ys, Bool.eq_iff_iff]
    simp
theorem Enc.datas (h : Enc f d) : ∀ xs : List α, dataTs (xs.map f) = true
  | [] => rfl
  | x :: xs => by show (dataT (f x) && dataTs (xs.map f)) = true; rw [h.data, h.datas xs]; rfl
theorem Enc.deps (h : Enc f d) : ∀ xs : List α, depTs (xs.map f) ≤ d
  | [] => Nat.zero_le _
  | x :: xs => by show max (depT (f x)) (depTs (xs.map f)) ≤ d; have := h.dep x; have := h.deps xs; omega
theorem Enc.list (h : Enc f d) : Enc (fun xs : List α => T.lst (xs.map f)) (d + 1) := ⟨fun a b => h.eqs a b, fun a => h.datas a, fun a => by show depTs _ + 1 ≤ _; have := h.deps a; omega⟩
theorem Enc.tupl (h : Enc f d) : Enc (fun xs : List α => T.tup (xs.map f)) (d + 1) := ⟨fun a b => h.eqs a b, fun a => h.datas a, fun a => by show depTs _ + 1 ≤ _; have := h.deps a; omega⟩
theorem Enc.pair {γ : Type} [DecidableEq γ] {g : γ → T} {e : Nat} (h : Enc f d) (k : Enc g e) : Enc (fun p : α × γ => T.tup [f p.1, g p.2]) (max d e + 1) := by
  refine ⟨fun a b => ?_, fun a => ?_, fun a => ?_⟩
  · show (eqT (f a.1) (f b.1) && (eqT (g a.2) (g b.2) && true)) = _
    rw [h.eq, k.eq, Bool.and_true, Bool.eq_iff_iff]
    obtain ⟨a1, a2⟩ := a
    obtain ⟨b1, b2⟩ := b
    simp
  · show (dataT (f a.1) && (dataT (g a.2) && true)) = true
    rw [h.data, k.data]; rfl
  · show max (depT (f a.1)) (max (depT (g a.2)) 0) + 1 ≤ _
    have := h.dep a.1
    have := k.dep a.2
    omega
theorem Enc.mem (h : Enc f d) (x : α) : ∀ xs : List α, anyT (f x) (xs.map f) = decide (x ∈ xs)
  | [] => rfl
  | y :: ys => by
    show (eqT (f y) (f x) || anyT (f x) (ys.map f)) = _
    rw [h.eq, h.mem x ys, Bool.eq_iff_iff]
    simp only [Bool.or_eq_true, decide_eq_true_eq, List.mem_cons]
    exact or_congr_left ⟨Eq.symm, Eq.symm⟩
theorem eqT_nil (ts : List T) : eqT (.lst ts) (.lst []) = ts.isEmpty := by cases ts <;> rfl
theorem eqT_scr_nil (ts : List T) : eqT (.scr ts) (.lst []) = ts.isEmpty := by cases ts <;> rfl
end
end VL
namespace VL
theorem at_map {α : Type} {f : α → T} {xs : List α} {i : Int} (h : 0 ≤ i) (h1 : i < (xs.length : Int)) : ∃ x, xs[i.toNat]? = some x ∧ atL (xs.map f) i = some (f x) := by
  obtain ⟨t, e, e2⟩ := atL_at (xs.map f) h (by rw [List.length_map]; exact h1)
  rw [List.getElem?_map] at e2
  cases ex : xs[i.toNat]? with
  | none => rw [ex] at e2; cases e2
  | some x => rw [ex] at e2; exact ⟨x, rfl, by rw [e]; exact e2.symm⟩
theorem at_mapN {α : Type} {f : α → T} {xs : List α} {n : Nat} {x : α} (h : xs[n]? = some x) : atL (xs.map f) (n : Int) = some (f x) := by
  show nth (xs.map f) n = _
  rw [nth_eq, List.getElem?_map, h]; rfl
theorem at_mapZ {α : Type} {f : α → T} {xs : List α} {i : Int} {x : α} (h0 : 0 ≤ i) (h : xs[i.toNat]? = some x) : atL (xs.map f) i = some (f x) := by
  rw [atL_nat _ h0, List.getElem?_map, h]; rfl
abbrev qI (i : Int) : Option Rf := some (.val (.int i))
abbrev qT (t : T) : Option Rf := some (.val t)
abbrev qR (k : Nat) : Option Rf := some (.ref k)
end VL
set_option Elab.async false
set_option linter.all false
set_option maxRecDepth 100000
set_option maxHeartbeats 4000000
/-! small rows -/
namespace VL
open PySem PySem.Spec PyProof.Rows L2 XR
theorem erase_map {α β : Type} (f : α → β) : ∀ (xs : List α) (k : Nat), (xs.map f).eraseIdx k = (xs.eraseIdx k).map f
  | [], _ => by simp
  | x :: r, 0 => by simp
  | x :: r, k + 1 => by simp [erase_map f r k]
theorem pop_map {α β : Type} {f : α → β} {xs : List α} {n : Nat} {y : α} (h : xs[n]? = some y) : popN (xs.map f) n = some (f y, (xs.eraseIdx n).map f) := by
  rw [popN_eq, List.getElem?_map, h, erase_map]; rfl
theorem at_of {α : Type} {xs : List α} {i : Int} (h0 : 0 ≤ i) (h1 : i < (xs.length : Int)) : ∃ x, xs[i.toNat]? = some x := ⟨_, List.getElem?_eq_getElem (show i.toNat < xs.length by omega)⟩
theorem rng_ints (n : Nat) : rngT 0 n = ((List.range n).map fun (i : Nat) => (i : Int)).map T.int := by
  unfold rngT
  rw [List.map_map]
  exact List.map_congr_left fun a _ => by simp
/-! ### readings in comprehensions: K told -/
section
variable {X : Cx} {K : PySem.W.Frag} (e : X.K = K)
include e
theorem op_eqK (hu : X.A.units + 64 < cLine) : OpR X (compareOp .Eq) (rEqD K) := e ▸ op_eqD hu
theorem op_neK (hu : X.A.units + 64 < cLine) : OpR X (compareOp .NotEq) (rNeD K) := e ▸ op_neD hu
theorem op_inK (hu : X.A.units + 65 < cLine) : OpR X (compareOp .In) (rInU K false) := e ▸ op_inU hu
theorem op_notInK (hu : X.A.units + 65 < cLine) : OpR X (compareOp .NotIn) (rInU K true) := e ▸ op_notInU hu
theorem op_addK : OpR X (binaryOp .Add) (rAddU K) := e ▸ op_addU
theorem op_mulK : OpR X (binaryOp .Mult) (rMulU K) := e ▸ op_mulU
theorem ix_seqK : IxR X (rIx K) := e ▸ ix_seq
theorem sl_anyK : SlR X (rSlU K) := e ▸ sl_any
theorem call_lenK : CallR X (.builtin "len") (rLenU K) := e ▸ call_lenU
theorem call_listK : CallR X (.type "list") (rListU K) := e ▸ call_listU
theorem call_tupK : CallR X (.type "tuple") (rTupU K) := e ▸ call_tupU
theorem call_isiK : CallR X (.builtin "isinstance") (rIsi K) := e ▸ call_isi
theorem call_isiTK : CallR X (.builtin "isinstance") (rIsiT K) := e ▸ call_isiT
theorem cr_maxK (hc : X.calm = true) : CallR X (.builtin "max") (rMaxQ K) := e ▸ cr_maxQ hc
theorem cr_minK (hc : X.calm = true) : CallR X (.builtin "min") (rMinQ K) := e ▸ cr_minQ hc
theorem cr_sumK (hc : X.calm = true) : CallR X (.builtin "sum") (rSum K) := e ▸ cr_sum hc
theorem cr_allK (hc : X.calm = true) : CallR X (.builtin "all") (rAll K) := e ▸ cr_all hc
theorem cr_anyK (hc : X.calm = true) : CallR X (.builtin "any") (rAny K) := e ▸ cr_any hc
theorem pt_truK {a : Expr} {ta : TE} (ha : PE X a ta) (he : ∀ whole, isTrue a X.env whole = (do let v ← whole; standAt a.pos; holding [v] (truthy v))) : PT X a (tTru K ta) := e ▸ pt_tru ha he
theorem pi_dynK {tg l : Expr} {tl : TE} (hl : PE X l tl) : PI X tg l (iDyn K tl) := e ▸ pi_dyn hl
theorem pi_dynLK {tg l : Expr} {tl : TE} (hl : PE X l tl) : PI X tg l (iDynL K tl) := e ▸ pi_dynL hl
theorem pe_fldK {a : Expr} {f : Str} {pos : Pos} {ta : TE} (ha : PE X a ta) (h : attributeBase a f X.env (eval a X.env) = eval a X.env) : PE X (.Attribute a f pos) (tFld K ta f) := e ▸ pe_fld ha h
theorem pe_revLK {a : Expr} {te : TE} {k : Nat} {p1 p2 p3 pos : Pos} (ha : PE X a te) : PE X (.Subscript a (.Slice none none (some (.UnaryOp .USub (.Constant (.int 1) k p1) p2)) p3) pos) (tRevL K te) := e ▸ pe_revL ha
end
end VL
set_option Elab.async false
set_option linter.all false
set_option maxRecDepth 100000
set_option maxHeartbeats 4000000
/-! comprehensions of two fors -/
namespace VL
open PySem PySem.Spec PyProof.Rows L2 XR
section
variable {K : PySem.W.Frag} {B : Bs} {E : L2.St → XK}
structure LcJ (src : Src) (n0 : Nat) (γ1 : Env) (vs : List Nat) (step : T → Env → (Env → Prop) → Prop) (done : Env → Prop) : Prop where
  ex : ∃ I : Nat → Env → Prop, (∃ γ2, Le n0 (γ1.wipe vs) γ2 ∧ I 0 γ2) ∧ (∀ i γ2, I i γ2 → src.on γ2) ∧
    (∀ i t γ2, src.ts[i]? = some t → I i γ2 → step t (γ2.wipe vs) fun γ4 => ∃ γ5, Le n0 (γ4.wipe vs) γ5 ∧ I (i + 1) γ5) ∧ ∀ γ2, I src.ts.length γ2 → done γ2
def vLc2 (wi : Env → (Src → Env → Prop) → XQ → Prop) (wg : Rf → Env → (Env → Prop) → XQ → Prop) (wt : Env → (Bool → Env → Prop) → XQ → Prop) (wi1 : Env → (Src → Env → Prop) → XQ → Prop) (wg1 : Rf → Env → (Env → Prop) → XQ → Prop) (wt1 : Env → (Bool → Env → Prop) → XQ → Prop) (we : VW) (vs vs1 : List Nat) : VW := fun γ Q X => wi γ (fun src γ1 =>
  LcI src γ1 vs (fun t γ2 N => wg (.val t) γ2 (fun γ3 => wt γ3 (fun c γ4 => br c (wi1 γ4 (fun src1 γ5 => LcJ src1 γ5.mem.length γ5 vs1 (fun t1 γ6 N1 => wg1 (.val t1) γ6 (fun γ7 => wt1 γ7 (fun c1 γ8 => br c1 (we γ8 (fun r γ9 => toT r γ9 fun t' γa => appQ γ1.mem.length t' γa N1) noX) (N1 γ8)) noX) noX) N) noX) (N γ4)) noX) noX) Q) X
instance {wi wi1 : TI} {g g1 : TG} {tt tt1 : TT} {te : TE} {vs vs1 is is1 : List Nat} {vi vi1 : Env → (Src → Env → Prop) → XQ → Prop} {vg vg1 : Rf → Env → (Env → Prop) → XQ → Prop} {vt vt1 : Env → (Bool → Env → Prop) → XQ → Prop} {ve : VW} [hi : VI K B E wi vi] [hg : VG K B E g vg is] [ht : VT K B E tt vt] [hi1 : VI K B E wi1 vi1] [hg1 : VG K B E g1 vg1 is1] [ht1 : VT K B E tt1 vt1] [he : VE K B E te ve] [hs : SubL is vs] [hs1 : SubL is1 vs1] :
    VE K B E (tLc2 wi g tt wi1 g1 tt1 te vs vs1) (vLc2 vi vg vt vi1 vg1 vt1 ve vs vs1) where
  run := fun {as γ σ G H Q Qv Xv} S h k kx => by
    refine hi.run S h (fun src γ1 as1 G1 H1 J p1 g1 S1 ok q1 => ?_) kx
    intro Da hD
    obtain ⟨⟨I, ⟨γ0, le0, i0⟩, on, step, done⟩⟩ := q1
    have SD := (S1.alloc (t := .lst []) (o := .lst []) hD ⟨[], upd_same, .nil⟩)
    have lD : (as1 ++ [Da]).length = γ1.mem.length + 1 := by rw [List.length_append, S1.mlen]; rfl
    have aD : (as1 ++ [Da])[γ1.mem.length]? = some Da := by rw [← S1.mlen, List.getElem?_append_right (Nat.le_refl _), Nat.sub_self]; rfl
    obtain ⟨as0, G0, pp0, gg0, SS0⟩ := StR.le le0 (SD.wipe vs) (List.prefix_refl _) lD
    refine ⟨fun i m H' => m = src.ts.length - i ∧ i ≤ src.ts.length ∧ ∃ as' γ' G', as1 ++ [Da] <+: as' ∧ Same G1 G' ∧ StR K B as' γ' σ G' H' ∧ I i γ', ⟨_, rfl, Nat.zero_le _, as0, γ0, G0, pp0, gg0, SS0, i0⟩, ?_⟩
    rintro i m H' ⟨rfl, hi', as', γ', G', p', g', S', inv⟩
    have pq : as1 <+: as' := (List.prefix_append _ _).trans p'
    obtain ⟨go, stop, yld⟩ := ok pq g' S' (on i γ' inv)
    by_cases hlt : i < src.ts.length
    · refine .inr ⟨go i hlt, fun H'' => i + 1 ≤ src.ts.length ∧ ∃ as'' γ'' G'', as1 ++ [Da] <+: as'' ∧ Same G1 G'' ∧ StR K B as'' γ'' σ G'' H'' ∧ I (i + 1) γ'', fun H'' q => ⟨_, by omega, rfl, q.1, q.2⟩, fun x H'' hy => ?_⟩
      obtain ⟨G2, t, et, g2, S2, rp⟩ := yld i x H'' hlt hy
      have S2' : StR K B as' (γ'.wipe vs) (L2.wipe σ vs) G2 H'' := (S2.wipe vs).rewipe (vs := vs) (wipe_wipe σ vs) fun i r e => Env.wipe_none γ' e
      refine hg.run S2' (r := .val t) rp (step i t γ' et inv) (fun γ3 as3 σ3 G3 H3 p3 g3 S3 w3 q3 => ?_) kxno
      have ws : L2.wipe σ3 vs = L2.wipe σ vs := (w3 vs hs.h).trans (wipe_wipe σ vs)
      refine ⟨ws, ht.run S3 q3 (fun b γ4 as4 b' G4 H4 p4 g4 S4 e q4 => ?_) kxno⟩
      cases e
      have gG : Same G1 G4 := (g'.trans g2).trans (g3.trans g4)
      have pP : as1 ++ [Da] <+: as4 := p'.trans (p3.trans p4)
      have fin : ∀ {γ5 : Env} {as5 : List Addr} {G5 H5 : Hp}, Same G1 G5 → as1 ++ [Da] <+: as5 → StR K B as5 γ5 σ3 G5 H5 → (∃ γ6, Le (γ1.mem.length + 1) (γ5.wipe vs) γ6 ∧ I (i + 1) γ6) → i + 1 ≤ src.ts.length ∧ ∃ as'' γ'' G'', as1 ++ [Da] <+: as'' ∧ Same G1 G'' ∧ StR K B as'' γ'' σ G'' H5 ∧ I (i + 1) γ'' := by
        rintro γ5 as5 G5 H5 gg pp S5 ⟨γ6, le6, i6⟩
        have S6 : StR K B as5 (γ5.wipe vs) σ G5 H5 := (S5.wipe vs).rewipe (vs := vs) ws.symm fun i r e => Env.wipe_none γ5 e
        obtain ⟨as7, G7, p7, g7, S7⟩ := StR.le le6 S6 pp lD
        exact ⟨hlt, as7, γ6, G7, p7, gg.trans g7, S7, i6⟩
      cases b with
      | false => exact fin gG pP S4 q4
      | true =>
        refine hi1.run S4 q4 (fun src1 γ5 as5 G5 H5 J1 p5 g5 S5 ok1 q5 => ?_) kxno
        obtain ⟨⟨I1, ⟨γ6, le6, i6⟩, on1, step1, done1⟩⟩ := q5
        have pP5 : as1 ++ [Da] <+: as5 := pP.trans p5
        obtain ⟨as6, G6, p6, g6, S6⟩ := StR.le le6 (S5.wipe vs1) (List.prefix_refl _) S5.mlen
        refine ⟨fun j m H' => m = src1.ts.length - j ∧ j ≤ src1.ts.length ∧ ∃ as' γ' G', as5 <+: as' ∧ Same G5 G' ∧ StR K B as' γ' σ3 G' H' ∧ I1 j γ', ⟨_, rfl, Nat.zero_le _, as6, γ6, G6, p6, g6, S6, i6⟩, ?_⟩
        rintro j m H7 ⟨rfl, hj', as7, γ7, G7, p7, g7, S7, inv1⟩
        obtain ⟨go1, stop1, yld1⟩ := ok1 p7 g7 S7 (on1 j γ7 inv1)
        by_cases hlt1 : j < src1.ts.length
        · refine .inr ⟨go1 j hlt1, fun H'' => j + 1 ≤ src1.ts.length ∧ ∃ as'' γ'' G'', as5 <+: as'' ∧ Same G5 G'' ∧ StR K B as'' γ'' σ3 G'' H'' ∧ I1 (j + 1) γ'', fun H'' q => ⟨_, by omega, rfl, q.1, q.2⟩, fun x H8 hy => ?_⟩
          obtain ⟨G8, t8, et8, g8, S8, rp8⟩ := yld1 j x H8 hlt1 hy
          have S8' : StR K B as7 (γ7.wipe vs1) (L2.wipe σ3 vs1) G8 H8 := (S8.wipe vs1).rewipe (vs := vs1) (wipe_wipe σ3 vs1) fun i r e => Env.wipe_none γ7 e
          refine hg1.run S8' (r := .val t8) rp8 (step1 j t8 γ7 et8 inv1) (fun γ9 as9 σ9 G9 H9 p9 g9 S9 w9 q9 => ?_) kxno
          have ws1 : L2.wipe σ9 vs1 = L2.wipe σ3 vs1 := (w9 vs1 hs1.h).trans (wipe_wipe σ3 vs1)
          refine ⟨ws1, ht1.run S9 q9 (fun b γa asa b' Ga Ha pa ga Sa e qa => ?_) kxno⟩
          cases e
          have gA : Same G5 Ga := (g7.trans g8).trans (g9.trans ga)
          have pA : as5 <+: asa := p7.trans (p9.trans pa)
          have fin1 : ∀ {γb : Env} {asb : List Addr} {Gb Hb : Hp}, Same G5 Gb → as5 <+: asb → StR K B asb γb σ9 Gb Hb → (∃ γc, Le γ5.mem.length (γb.wipe vs1) γc ∧ I1 (j + 1) γc) → j + 1 ≤ src1.ts.length ∧ ∃ as'' γ'' G'', as5 <+: as'' ∧ Same G5 G'' ∧ StR K B as'' γ'' σ3 G'' Hb ∧ I1 (j + 1) γ'' := by
            rintro γb asb Gb Hb gg pp Sb ⟨γc, lec, ic⟩
            have Sc : StR K B asb (γb.wipe vs1) σ3 Gb Hb := (Sb.wipe vs1).rewipe (vs := vs1) ws1.symm fun i r e => Env.wipe_none γb e
            obtain ⟨asd, Gd, pd, gd, Sd⟩ := StR.le lec Sc pp S5.mlen
            exact ⟨hlt1, asd, γc, Gd, pd, gg.trans gd, Sd, ic⟩
          cases b with
          | false => exact fin1 gA pA Sa qa
          | true =>
            refine he.run Sa qa (fun r γb asb v Gb Hb pb gb Sb rrb qb => ?_) kxno
            obtain ⟨t', γc, Gc, gc, Sc, rpc, qc⟩ := toT_ok Sb rrb qb
            have pp : as5 <+: asb := pA.trans pb
            obtain ⟨acc, e1, e2, γd, Sd, qd⟩ := app_ok Sc (pre_get (pP5.trans pp) aD) rpc qc
            exact ⟨acc, e1, e2, fin1 (gA.trans (gb.trans gc)) pp Sd qd⟩
        · have e : j = src1.ts.length := by omega
          subst e
          exact .inl ⟨stop1, fin ((gG.trans g5).trans g7) (pP5.trans p7) S7 (done1 γ7 inv1)⟩
    · have e : i = src.ts.length := by omega
      subst e
      refine .inl ⟨stop, k (.ref γ1.mem.length) _ _ _ _ _ (p1.trans pq) (g1.trans g') S' ⟨Da, pre_get p' aD, rfl⟩ (done γ' inv)⟩
end
section
variable {n0 : Nat} {γ1 : Env} {vs : List Nat} {step : T → Env → (Env → Prop) → Prop} {done : Env → Prop} {β : Type}
theorem lcj_ts {ts : List T} (E : β → Env) (P : Nat → β → Prop) (h0 : NLs n0 vs E (P 0) γ1) (hs : ∀ i t s, ts[i]? = some t → P i s → step t ((E s).wipe vs) (NLs n0 vs E (P (i + 1)))) (hd : ∀ s, P ts.length s → done (E s)) : LcJ (.fix ts) n0 γ1 vs step done := by
  unfold NLs at h0 hs
  refine ⟨fun i γ => ∃ s, γ = E s ∧ P i s, h0, fun _ _ _ => trivial, fun i t γ2 e h => ?_, fun γ2 h => ?_⟩
  · obtain ⟨s, rfl, p⟩ := h
    exact hs i t s e p
  · obtain ⟨s, rfl, p⟩ := h
    exact hd s p
theorem lcj_map {α : Type} {xs : List α} {f : α → T} (E : β → Env) (P : Nat → β → Prop) (h0 : NLs n0 vs E (P 0) γ1) (hs : ∀ (i : Nat) x s, xs[i]? = some x → P i s → step (f x) ((E s).wipe vs) (NLs n0 vs E (P (i + 1)))) (hd : ∀ s, P xs.length s → done (E s)) : LcJ (.fix (xs.map f)) n0 γ1 vs step done := by
  refine lcj_ts E P h0 (fun i t s e p => ?_) fun s p => hd s (by rw [List.length_map] at p; exact p)
  rw [List.getElem?_map] at e
  cases ex : xs[i]? with
  | none => rw [ex] at e; cases e
  | some x => rw [ex] at e; cases e; exact hs i x s ex p
theorem lcj_rng {lo : Int} {n : Nat} (E : β → Env) (P : Nat → β → Prop) (h0 : NLs n0 vs E (P 0) γ1) (hs : ∀ i s, i < n → P i s → step (.int (lo + (i : Nat))) ((E s).wipe vs) (NLs n0 vs E (P (i + 1)))) (hd : ∀ s, P n s → done (E s)) : LcJ (.fix (rngT lo n)) n0 γ1 vs step done := by
  refine lcj_ts E P h0 (fun i t s e p => ?_) fun s p => hd s (by rw [rngT_len] at p; exact p)
  obtain ⟨h, rfl⟩ := rngT_at e
  exact hs i s h p
end
section
variable {γ1 : Env} {vs : List Nat} {step : T → Env → (Env → Prop) → Prop} {Q : RQ}
theorem lc_rngI {lo : Int} {n : Nat} (I : Nat → List T → Prop) (i0 : I 0 []) (hs : ∀ i out, i < n → I i out → step (.int (lo + (i : Nat))) ((EL γ1 vs out).wipe vs) (NL γ1 vs (I (i + 1)))) (hd : ∀ out, I n out → Q (.ref γ1.mem.length) (EL γ1 vs out)) : LcI (.fix (rngT lo n)) γ1 vs step Q := by
  refine lc_ts I i0 (fun i t out e p => ?_) fun out p => hd out (by rw [rngT_len] at p; exact p)
  obtain ⟨h, rfl⟩ := rngT_at e
  exact hs i out h p
theorem lc_mapI {α : Type} {xs : List α} {f : α → T} (I : Nat → List T → Prop) (i0 : I 0 []) (hs : ∀ (i : Nat) x out, xs[i]? = some x → I i out → step (f x) ((EL γ1 vs out).wipe vs) (NL γ1 vs (I (i + 1)))) (hd : ∀ out, I xs.length out → Q (.ref γ1.mem.length) (EL γ1 vs out)) : LcI (.fix (xs.map f)) γ1 vs step Q := by
  refine lc_ts I i0 (fun i t out e p => ?_) fun out p => hd out (by rw [List.length_map] at p; exact p)
  rw [List.getElem?_map] at e
  cases ex : xs[i]? with
  | none => rw [ex] at e; cases e
  | some x => rw [ex] at e; cases e; exact hs i x out ex p
theorem fm_filter {α β : Type} (f : α → β) (q : α → Bool) : ∀ xs : List α, xs.filterMap (fun c => if q c then some (f c) else none) = (xs.filter q).map f
  | [] => rfl
  | x :: r => by
    rw [List.filterMap_cons, List.filter_cons, fm_filter f q r]
    cases q x <;> rfl
theorem lc_filter {α : Type} {xs : List α} {f : α → T} (q : α → Bool) (h : α → T) (hs : ∀ (i : Nat) x out, xs[i]? = some x → out.length < xs.length → step (f x) ((EL γ1 vs out).wipe vs) (NL γ1 vs (fun o => o = out ++ if q x then [h x] else []))) (hd : Q (.ref γ1.mem.length) (EL γ1 vs ((xs.filter q).map h))) : LcI (.fix (xs.map f)) γ1 vs step Q := by
  refine lc_fm (fun x => if q x then some (h x) else none) (fun i x out e l => ?_) (by rw [fm_filter]; exact hd)
  have e2 : (if q x then some (h x) else none).toList = if q x then [h x] else [] := by cases q x <;> rfl
  rw [e2]
  exact hs i x out e l
theorem lc_filterR {lo : Int} {n : Nat} (q : Nat → Bool) (h : Nat → T) (hs : ∀ i out, i < n → out.length < n → step (.int (lo + (i : Nat))) ((EL γ1 vs out).wipe vs) (NL γ1 vs (fun o => o = out ++ if q i then [h i] else []))) (hd : Q (.ref γ1.mem.length) (EL γ1 vs (((List.range n).filter q).map h))) : LcI (.fix (rngT lo n)) γ1 vs step Q := by
  refine lc_rng (fun x => if q x then some (h x) else none) (fun i out e l => ?_) (by rw [fm_filter]; exact hd)
  have e2 : (if q i then some (h i) else none).toList = if q i then [h i] else [] := by cases q i <;> rfl
  rw [e2]
  exact hs i out e l
theorem Enc.self {α : Type} [DecidableEq α] {f : α → T} {d : Nat} (h : Enc f d) (a : α) : eqT (f a) (f a) = true := by rw [h.eq]; exact decide_eq_true rfl
theorem Enc.selfL {α : Type} [DecidableEq α] {f : α → T} {d : Nat} (h : Enc f d) (xs : List α) : eqT (.lst (xs.map f)) (.lst (xs.map f)) = true := h.list.self xs
theorem nats_int (xs : List Nat) : xs.map (fun (i : Nat) => T.int (0 + (i : Int))) = (xs.map fun (a : Nat) => (a : Int)).map T.int := by
  rw [List.map_map]
  exact List.map_congr_left fun a _ => by simp
theorem bls_ok {α : Type} (p : α → Bool) {xs : List α} {R : List Bool → Prop} (h : R (xs.map p)) : ∃ bs : List Bool, xs.map (fun c => T.bl (p c)) = bs.map T.bl ∧ R bs := ⟨_, by rw [List.map_map]; rfl, h⟩
theorem all_id {α : Type} (p : α → Bool) (xs : List α) : (xs.map p).all id = xs.all p := by rw [List.all_map]; rfl
theorem any_id {α : Type} (p : α → Bool) (xs : List α) : (xs.map p).any id = xs.any p := by rw [List.any_map]; rfl
theorem ints_ok {α : Type} (p : α → Int) {xs : List α} {R : List Int → Prop} (h : R (xs.map p)) : ∃ ns : List Int, xs.map (fun c => T.int (p c)) = ns.map T.int ∧ R ns := ⟨_, by rw [List.map_map]; rfl, h⟩
/-- the loop from a weaker telling of the state -/
theorem lc_from {src : Src} (γ2 : Env) (hn : γ2.mem.length = γ1.mem.length) (h : Le (γ1.mem.length + 1) ((γ1.push (.mu (.lst []))).wipe vs) ((γ2.push (.mu (.lst []))).wipe vs)) (k : LcI src γ2 vs step Q) : LcI src γ1 vs step Q := by
  obtain ⟨⟨I, ⟨γ0, l0, i0⟩, on, st, dn⟩⟩ := k
  rw [hn] at l0 st dn
  exact ⟨I, ⟨γ0, h.trans l0, i0⟩, on, st, dn⟩
/-- what the test kept, what it left out -/
theorem NL.keep {γ4 : Env} {out : List T} {q : Bool} {t : T} (hq : q = true) (l : Le (γ1.mem.length + 1) (γ4.wipe vs) (EL γ1 vs (out ++ [t]))) : NL γ1 vs (fun o => o = out ++ if q then [t] else []) γ4 := .mk _ l (by rw [hq]; rfl)
theorem NL.skip {γ4 : Env} {out : List T} {q : Bool} {t : T} (hq : q = false) (l : Le (γ1.mem.length + 1) (γ4.wipe vs) (EL γ1 vs out)) : NL γ1 vs (fun o => o = out ++ if q then [t] else []) γ4 := .mk _ l (by rw [hq]; exact (List.append_nil _).symm)
end
theorem cutT_lo (xs : List T) {n : Int} (h : 0 ≤ n) : cutT xs none (some n) = xs.take n.toNat := by
  unfold cutT HT.sIx
  simp only [Nat.sub_zero, List.drop_zero]
  rw [if_neg (by omega)]
  rcases Nat.lt_or_ge xs.length n.toNat with z | z
  · rw [List.take_of_length_le (by omega), List.take_of_length_le (by omega)]
  · congr 1; omega
theorem cutT_hi (xs : List T) {n : Int} (h : 0 ≤ n) : cutT xs (some n) none = xs.drop n.toNat := by
  unfold cutT HT.sIx
  simp only
  rw [if_neg (by omega)]
  rcases Nat.lt_or_ge xs.length n.toNat with z | z
  · rw [show min n.toNat xs.length = xs.length by omega, Nat.sub_self, List.drop_of_length_le (l := xs) (i := n.toNat) (by omega)]; rfl
  · rw [show min n.toNat xs.length = n.toNat by omega, List.take_of_length_le (by rw [List.length_drop]; omega)]
theorem cutT_loM {α : Type} (f : α → T) (xs : List α) {n : Int} (h : 0 ≤ n) : cutT (xs.map f) none (some n) = (xs.take n.toNat).map f := by rw [cutT_lo _ h, List.map_take]
theorem cutT_hiM {α : Type} (f : α → T) (xs : List α) {n : Int} (h : 0 ≤ n) : cutT (xs.map f) (some n) none = (xs.drop n.toNat).map f := by rw [cutT_hi _ h, List.map_drop]
section
variable {P : Program} {w : World} {K : PySem.W.Frag} {mg : Str → Option Value} {base : Heap}
theorem FnQ.imp {k : Nat} {f : Addr} {fd : FuncData} {ps : List Str} {sp sp' : SpQ} (F : FnQ P w K mg base k f fd ps sp) (h : ∀ p vs H Q E, sp' p vs H Q E → sp p vs H Q E) : FnQ P w K mg base k f fd ps sp' :=
  ⟨fun p vs H Q E q => F.len p vs H Q E (h _ _ _ _ _ q), fun A outer s H args us vs Q p hr pin e0 hb r q => F.run A outer s H args us vs Q p hr pin e0 hb r (h _ _ _ _ _ q)⟩
theorem okFQ {k : Nat} {f : Addr} {fd : FuncData} {ps : List Str} {fv : VSpF} (F : FnQ P w K mg base k f fd ps (fun _ => vsp K (falses ps.length) (ofF fv))) (len : ∀ ts Q, fv ts Q → ts.length = ps.length) : FnQ P w K mg base k f fd ps (fun _ => vspF K fv) := by
  refine FnQ.imp F fun p vs H Q E h => ?_
  obtain ⟨G, ts, Qv, vw, rp, hf, kk⟩ := h
  have hl : ps.length = vs.length := (len ts Qv hf).symm.trans rp.length.symm
  show vsp K (falses ps.length) (ofF fv) vs H Q E
  rw [hl]
  refine ⟨G, ts, fun rt o => ∃ t, rt = .val t ∧ flatT t = true ∧ Qv t, fun _ _ => False, vw, argsF rp, by rw [ioF]; exact .nil, ⟨Qv, hf, fun t fl q => ⟨t, rfl, fl, q⟩⟩, fun rt o v G' H' F' r q => ?_, fun _ _ _ _ _ _ _ q => q.elim⟩
  obtain ⟨t, rfl, fl, q⟩ := q
  rw [ioF] at F'
  exact kk t v H' (fun a o e => F'.hh a o e (by simp)) (fun G'' => flat_any r fl) q
end
/-! ### the law itself -/
def spLaw (K : PySem.W.Frag) : Sp := fun vs H Q _ => ∃ (a : Addr) (ns : List Int), vs = [.ref a] ∧ SqL K H a (ns.map V.int) ∧ ns.length ≤ 63 ∧ ∀ H', Q (.bl true) H'
def spLawV : VSp := fun ts Q _ => ∃ ns : List Int, ts = [.scr (ns.map T.int)] ∧ ns.length ≤ 63 ∧ Q (.val (.bl true)) []
theorem rp_ints {K : PySem.W.Frag} {G : Hp} : ∀ ns : List Int, RpAll K G (ns.map V.int) (ns.map T.int)
  | [] => .nil
  | _ :: r => .cons (.int _) (rp_ints r)
theorem okLaw {P : Program} {w : World} {K : PySem.W.Frag} {mg : Str → Option Value} {base : Heap} {k : Nat} {f : Addr} {fd : FuncData} {ps : List Str} (F : FnOk P w K mg base CX0 k f fd ps (vsp K [false] spLawV)) : FnOk P w K mg base CX0 k f fd ps (spLaw K) := by
  refine F.imp fun vs H Q E h => ?_
  obtain ⟨a, ns, rfl, hS, hl, kq⟩ := h
  refine ⟨H, [.scr (ns.map T.int)], fun rt _ => rt = .val (.bl true), fun _ _ => False, Same.refl _, .val (.scr hS (rp_ints ns)) .nil, .nil, ⟨ns, rfl, hl, rfl⟩, fun rt o v G' H' _ r q => ?_, fun _ _ _ _ _ _ _ q => q.elim⟩
  subst q
  have r : Rp K G' v (.bl true) := r
  cases r
  exact kq _
end VL
set_option Elab.async false
set_option linter.all false
set_option maxRecDepth 100000
set_option maxHeartbeats 4000000
/-! loops whose state is told beside the state they begin at; what is settled ahead -/
namespace VL
open PySem PySem.Spec PyProof.Rows L2 XR
/-- the open object k, settled: in the slots too -/
def frSl (k : Nat) (t : T) : List (Option Rf) → List (Option Rf)
  | [] => []
  | some (.ref j) :: l => (match Nat.beq j k with
    | true => some (.val t)
    | false => some (.ref j)) :: frSl k t l
  | some (.val u) :: l => some (.val u) :: frSl k t l
  | some (.err D gs) :: l => some (.err D gs) :: frSl k t l
  | none :: l => none :: frSl k t l
def frX (n : Nat) (sl : List (Option Rf)) (m : List MO) (k : Nat) : Option MO → Env
  | some (.mu t) => ⟨n, frSl k t sl, m.set k (.fz t)⟩
  | some (.fz t) => ⟨n, frSl k t sl, m⟩
  | none => ⟨n, sl, m⟩
def Env.fr (γ : Env) (k : Nat) : Env := frX γ.nio γ.sl γ.mem k (nth γ.mem k)
def Env.frs (γ : Env) : List Nat → Env
  | [] => γ
  | k :: ks => (γ.fr k).frs ks
section
variable {n0 : Nat} {γ1 : Env} {step : T → Env → (Env → Prop) → Prop} {done : Env → Prop} {β : Type}
theorem for_fr {src : Src} (ks : List Nat) (h : Le n0 γ1 (γ1.frs ks)) (k : ForI src n0 (γ1.frs ks) step done) : ForI src n0 γ1 step done := by
  obtain ⟨I, ⟨γ0, l0, i0⟩, r⟩ := k
  exact ⟨I, ⟨γ0, h.trans l0, i0⟩, r⟩
theorem for_tsF {ts : List T} (F : Env → β → Env) (P : Nat → β → Prop) (h0 : Nx n0 (F γ1) (P 0) γ1)
    (hs : ∀ i t s, ts[i]? = some t → P i s → step t (F γ1 s) (Nx n0 (F γ1) (P (i + 1)))) (hd : ∀ s, P ts.length s → done (F γ1 s)) : ForI (.fix ts) n0 γ1 step done := for_ts (F γ1) P h0 hs hd
theorem for_mapF {α : Type} {xs : List α} {f : α → T} (F : Env → β → Env) (P : Nat → β → Prop) (h0 : Nx n0 (F γ1) (P 0) γ1)
    (hs : ∀ i x s, xs[i]? = some x → P i s → step (f x) (F γ1 s) (Nx n0 (F γ1) (P (i + 1)))) (hd : ∀ s, P xs.length s → done (F γ1 s)) : ForI (.fix (xs.map f)) n0 γ1 step done := for_map (F γ1) P h0 hs hd
theorem for_rngF {lo : Int} {n : Nat} (F : Env → β → Env) (P : Nat → β → Prop) (h0 : Nx n0 (F γ1) (P 0) γ1)
    (hs : ∀ i s, i < n → P i s → step (.int (lo + (i : Nat))) (F γ1 s) (Nx n0 (F γ1) (P (i + 1)))) (hd : ∀ s, P n s → done (F γ1 s)) : ForI (.fix (rngT lo n)) n0 γ1 step done := for_rng (F γ1) P h0 hs hd
theorem for_enumF {α : Type} {xs : List α} {f : α → T} {n : Int} (F : Env → β → Env) (P : Nat → β → Prop) (h0 : Nx n0 (F γ1) (P 0) γ1)
    (hs : ∀ i x s, xs[i]? = some x → P i s → step (.tup [.int (n + (i : Nat)), f x]) (F γ1 s) (Nx n0 (F γ1) (P (i + 1)))) (hd : ∀ s, P xs.length s → done (F γ1 s)) : ForI (.fix (enumT n (xs.map f))) n0 γ1 step done := for_enum (F γ1) P h0 hs hd
theorem for_zipF {α α' : Type} {xs : List α} {ys : List α'} {f : α → T} {g : α' → T} (F : Env → β → Env) (P : Nat → β → Prop) (h0 : Nx n0 (F γ1) (P 0) γ1)
    (hs : ∀ i x y s, xs[i]? = some x → ys[i]? = some y → P i s → step (.tup [f x, g y]) (F γ1 s) (Nx n0 (F γ1) (P (i + 1)))) (hd : ∀ s, P (min xs.length ys.length) s → done (F γ1 s)) : ForI (.fix (zipT (xs.map f) (ys.map g))) n0 γ1 step done := for_zip (F γ1) P h0 hs hd
theorem for_liveF {α : Type} {xs : List α} {f : α → T} {k : Nat} (F : Env → β → Env) (P : Nat → β → Prop) (hon : ∀ s, nth (F γ1 s).mem k = some (.mu (.lst (xs.map f)))) (h0 : Nx n0 (F γ1) (P 0) γ1)
    (hs : ∀ i x s, xs[i]? = some x → P i s → step (f x) (F γ1 s) (Nx n0 (F γ1) (P (i + 1)))) (hd : ∀ s, P xs.length s → done (F γ1 s)) : ForI (.live k (xs.map f)) n0 γ1 step done := for_live (F γ1) P hon h0 hs hd
theorem while_tsF {step : Env → (Env → Prop) → Prop} (F : Env → β → Env) (P : Nat → β → Prop) (m : Nat) (h0 : Nx n0 (F γ1) (P m) γ1) (hs : ∀ m s, P m s → step (F γ1 s) (Nw n0 (F γ1) P m)) : WhileI n0 γ1 step := while_ts (F γ1) P m h0 hs
end
section
variable {γ1 : Env} {vs : List Nat} {step : T → Env → (Env → Prop) → Prop} {Q : RQ} {β : Type}
theorem frs_len : ∀ (ks : List Nat) (γ : Env), (γ.frs ks).mem.length = γ.mem.length
  | [], γ => rfl
  | k :: ks, γ => by
    show ((γ.fr k).frs ks).mem.length = _
    rw [frs_len ks]
    unfold Env.fr frX
    split
    · simp
    · rfl
    · rfl
theorem lc_fr {src : Src} (ks : List Nat) (h : Le (γ1.mem.length + 1) ((γ1.push (.mu (.lst []))).wipe vs) (((γ1.frs ks).push (.mu (.lst []))).wipe vs)) (k : LcI src (γ1.frs ks) vs step Q) : LcI src γ1 vs step Q := lc_from _ (frs_len ks γ1) h k
theorem lc_tsF {ts : List T} (F : Env → β → Env) (P : Nat → β → Prop) (h0 : NLs (γ1.mem.length + 1) vs (F γ1) (P 0) (γ1.push (.mu (.lst []))))
    (hs : ∀ i t s, ts[i]? = some t → P i s → step t ((F γ1 s).wipe vs) (NLs (γ1.mem.length + 1) vs (F γ1) (P (i + 1)))) (hd : ∀ s, P ts.length s → Q (.ref γ1.mem.length) (F γ1 s)) : LcI (.fix ts) γ1 vs step Q := lc_st (F γ1) P h0 hs hd
theorem lc_mapF {α : Type} {xs : List α} {f : α → T} (F : Env → β → Env) (P : Nat → β → Prop) (h0 : NLs (γ1.mem.length + 1) vs (F γ1) (P 0) (γ1.push (.mu (.lst []))))
    (hs : ∀ i x s, xs[i]? = some x → P i s → step (f x) ((F γ1 s).wipe vs) (NLs (γ1.mem.length + 1) vs (F γ1) (P (i + 1)))) (hd : ∀ s, P xs.length s → Q (.ref γ1.mem.length) (F γ1 s)) : LcI (.fix (xs.map f)) γ1 vs step Q := by
  refine lc_tsF F P h0 (fun i t s e p => ?_) fun s p => hd s (by rw [List.length_map] at p; exact p)
  rw [List.getElem?_map] at e
  cases ex : xs[i]? with
  | none => rw [ex] at e; cases e
  | some x => rw [ex] at e; cases e; exact hs i x s ex p
theorem lc_rngF {lo : Int} {n : Nat} (F : Env → β → Env) (P : Nat → β → Prop) (h0 : NLs (γ1.mem.length + 1) vs (F γ1) (P 0) (γ1.push (.mu (.lst []))))
    (hs : ∀ i s, i < n → P i s → step (.int (lo + (i : Nat))) ((F γ1 s).wipe vs) (NLs (γ1.mem.length + 1) vs (F γ1) (P (i + 1)))) (hd : ∀ s, P n s → Q (.ref γ1.mem.length) (F γ1 s)) : LcI (.fix (rngT lo n)) γ1 vs step Q := by
  refine lc_tsF F P h0 (fun i t s e p => ?_) fun s p => hd s (by rw [rngT_len] at p; exact p)
  obtain ⟨h, rfl⟩ := rngT_at e
  exact hs i s h p
end
/-- an item of a display of ints -/
theorem lits (P : Int → Prop) (l : List Int) {i : Int} (h0 : 0 ≤ i) (h1 : i < (l.length : Int)) (hp : ∀ z ∈ l, P z) : ∃ z, P z ∧ atL (l.map T.int) i = some (.int z) := by
  obtain ⟨z, hz, e⟩ := at_map (f := T.int) (xs := l) h0 h1
  exact ⟨z, hp z (List.mem_of_getElem? hz), e⟩
/-! ### the state, reckoned -/
section
variable {n k i : Nat} {sl : List (Option Rf)} {m : List MO} {x : MO} {r : Rf}
theorem put_mk : Env.put ⟨n, sl, m⟩ k x = ⟨n, sl, m.set k x⟩ := rfl
theorem push_mk : Env.push ⟨n, sl, m⟩ x = ⟨n, sl, m ++ [x]⟩ := rfl
theorem set_mk : Env.set ⟨n, sl, m⟩ i r = ⟨n, sl.set i (some r), m⟩ := rfl
theorem unset_mk : Env.unset ⟨n, sl, m⟩ i = ⟨n, sl.set i none, m⟩ := rfl
theorem wipe_nl {γ : Env} : γ.wipe [] = γ := rfl
theorem wipe_cs {γ : Env} {v : Nat} {vs : List Nat} : γ.wipe (v :: vs) = (γ.wipe vs).unset v := rfl
theorem el_mk {γ : Env} {vs : List Nat} {out : List T} : EL γ vs out = (γ.push (.mu (.lst out))).wipe vs := rfl
theorem frs_nl {γ : Env} : γ.frs [] = γ := rfl
theorem frs_cs {γ : Env} {k : Nat} {ks : List Nat} : γ.frs (k :: ks) = (γ.fr k).frs ks := rfl
theorem fr_mk : Env.fr ⟨n, sl, m⟩ k = frX n sl m k (nth m k) := rfl
end
end VL
set_option Elab.async false
set_option linter.all false
set_option maxRecDepth 100000
set_option maxHeartbeats 4000000
/-! starred items, constants of the module that are tuples, items at a drawn index -/
namespace VL
open PySem PySem.Spec PyProof.Rows L2 XR
section
variable {K : PySem.W.Frag} {B : Bs} {E : L2.St → XK}
theorem RRs.app {ex : Addr × Value × Option Addr} {as : List Addr} {G : Hp} {rs rs' : List Rf} {vs vs' : List V} (q : RRs K ex as G rs' vs') : ∀ {rs : List Rf} {vs : List V}, RRs K ex as G rs vs → RRs K ex as G (rs ++ rs') (vs ++ vs')
  | _, _, .nil => q
  | _, _, .cons a b => .cons a (RRs.app (rs := []) (vs := []) q b)
/-- *s, .. -/
def vStar (wa : VW) (wr : Env → (List Rf → Env → Prop) → XQ → Prop) : Env → (List Rf → Env → Prop) → XQ → Prop := fun γ Q X => wa γ (fun r γ1 => peek r γ1 fun t => seqT t fun _ ts => wr γ1 (fun rs γ2 => Q (ts.map Rf.val ++ rs) γ2) X) X
instance {te : TE} {tr : TA} {wa : VW} {wr : Env → (List Rf → Env → Prop) → XQ → Prop} [ha : VE K B E te wa] [hr : VA K B E tr wr] : VA K B E (StX.tStar K te tr) (vStar wa wr) where
  run := fun {as γ σ G H Q Qv Xv} S h k kx => by
    refine ha.run S h (fun r1 γ1 as1 v1 G1 H1 p1 g1 S1 rr1 q1 => ?_) kx
    obtain ⟨b, ts, a, acc, rfl, sq, rp, q⟩ := peek_seq S1 rr1 q1
    refine ⟨a, acc, rfl, sq.or.symm, ?_⟩
    refine hr.run S1 q (fun rs γ2 as2 vs G2 H2 p2 g2 S2 rr2 q2 => ?_) (kx.mono p1 g1)
    exact k _ _ _ _ _ _ (p1.trans p2) (g1.trans g2) S2 (RRs.app (rs := []) (vs := []) rr2 (RRs.mono p2 g2 rp.rrs)) q2
theorem pa_starU {X : Cx} {e : Expr} {es : List Expr} {te : TE} {t : TA} {p : Pos} (he : PE X e te) (hr : PA X es t) (hs : starEach (.Starred e p :: es) X.env = (true, eval e X.env) :: starEach es X.env) : PA X (.Starred e p :: es) (StX.tStar X.K te t) := StX.pa_star he hr hs
theorem pa_starK {X : Cx} {K : PySem.W.Frag} (ek : X.K = K) {e : Expr} {es : List Expr} {te : TE} {t : TA} {p : Pos} (he : PE X e te) (hr : PA X es t) (hs : starEach (.Starred e p :: es) X.env = (true, eval e X.env) :: starEach es X.env) : PA X (.Starred e p :: es) (StX.tStar K te t) := ek ▸ StX.pa_star he hr hs
theorem toTs_vals {ts : List T} {rs : List Rf} {γ : Env} {Q : List T → Env → Prop} (h : toTs rs γ fun us γ' => Q (ts ++ us) γ') : toTs (ts.map Rf.val ++ rs) γ Q := by
  induction ts generalizing Q with
  | nil => exact h
  | cons t r ih => exact ih (Q := fun us γ' => Q (t :: us) γ') h
theorem toTs_vals0 {ts : List T} {γ : Env} {Q : List T → Env → Prop} (h : Q ts γ) : toTs (ts.map Rf.val) γ Q := by
  have := toTs_vals (rs := []) (ts := ts) (γ := γ) (Q := Q) (by show Q (ts ++ []) γ; rw [List.append_nil]; exact h)
  rw [List.append_nil] at this
  exact this
/-- a constant of the module: a tuple that stands from the start -/
def tGt (K : PySem.W.Frag) (a : Addr) (t : T) : TE := fun _ H Q => (∀ G : Hp, Rp K G (.ref a) t) → Q (.ref a) H
theorem pe_gt {X : Cx} {x : Str} {a : Addr} {t : T} {pos : Pos} (hg : Gl X x) (h : X.mg x = some (.ref a) ∧ ∀ G : Hp, Rp K G (.ref a) t) (hd : (x == ("__debug__" : Str)) = false := by decide) : PE X (.Name x pos) (tGt K a t) :=
  ⟨fun pins s σ H Q I q => (pe_glob (v := .ref a) hg h.1 rfl hd).run pins s σ H Q I (q h.2)⟩
instance {a : Addr} {t : T} : VE K B E (tGt K a t) (vVal t) := ⟨fun {as γ σ G H Q Qv Xv} S h k _ => fun rp => kval k S (rp G) h⟩
theorem rp_ctup {a : Addr} {od : Option Addr} {its : Array Value} {n : Nat} {sl : Array (Option Value)} {xs : List V} {ts : List T} (e : K.lookup a = some ⟨.type "tuple", od, .seq its n, sl⟩) (hz : its.size ≤ 1000) (hv : Vals xs its.toList) (h : ∀ G : Hp, RpAll K G xs ts) : ∀ G : Hp, Rp K G (.ref a) (.tup ts) :=
  fun G => .tup (.inr ⟨_, its, n, e, rfl, rfl, by rw [sizeLine_eq]; omega, hv⟩) (h G)
end
section
variable {α β γ : Type} [DecidableEq α] [DecidableEq β] [DecidableEq γ] {f : α → T} {g : β → T} {h : γ → T} {d e k : Nat}
theorem Enc.trip (hf : Enc f d) (hg : Enc g e) (hh : Enc h k) : Enc (fun p : α × β × γ => T.tup [f p.1, g p.2.1, h p.2.2]) (max d (max e k) + 1) := by
  refine ⟨fun a b => ?_, fun a => ?_, fun a => ?_⟩
  · show (eqT (f a.1) (f b.1) && (eqT (g a.2.1) (g b.2.1) && (eqT (h a.2.2) (h b.2.2) && true))) = _
    rw [hf.eq, hg.eq, hh.eq, Bool.and_true, Bool.eq_iff_iff]
    obtain ⟨a1, a2, a3⟩ := a
    obtain ⟨b1, b2, b3⟩ := b
    simp
  · show (dataT (f a.1) && (dataT (g a.2.1) && (dataT (h a.2.2) && true))) = true
    rw [hf.data, hg.data, hh.data]; rfl
  · show max (depT (f a.1)) (max (depT (g a.2.1)) (max (depT (h a.2.2)) 0)) + 1 ≤ _
    have := hf.dep a.1
    have := hg.dep a.2.1
    have := hh.dep a.2.2
    omega
end
theorem Enc.memI {α : Type} [DecidableEq α] {f : α → T} {d : Nat} (h : Enc f d) (x : α) (xs : List α) : anyT (f x) (xs.map f) = true ↔ x ∈ xs := by rw [h.mem]; exact decide_eq_true_iff
theorem Enc.eqI {α : Type} [DecidableEq α] {f : α → T} {d : Nat} (h : Enc f d) (x y : α) : eqT (f x) (f y) = true ↔ x = y := by rw [h.eq]; exact decide_eq_true_iff
theorem setN_map {α : Type} (f : α → T) : ∀ (xs : List α) (n : Nat) (x : α), n < xs.length → setN (xs.map f) n (f x) = some ((xs.set n x).map f)
  | [], _, _, h => by cases h
  | a :: l, 0, x, _ => rfl
  | a :: l, n + 1, x, h => by
    show (setN (l.map f) n (f x)).map _ = _
    rw [setN_map f l n x (Nat.lt_of_succ_lt_succ h)]; rfl
theorem set_map {α : Type} {f : α → T} {xs : List α} {i : Int} {x : α} (h0 : 0 ≤ i) (h1 : i < (xs.length : Int)) : setL (xs.map f) i (f x) = some ((xs.set i.toNat x).map f) := by
  obtain ⟨n, rfl⟩ := Int.eq_ofNat_of_zero_le h0
  exact setN_map f xs n x (by omega)
theorem isS_set {α : Type} {f : α → T} {xs : List α} {i : Int} {x : α} {Q : List T → Prop} (h0 : 0 ≤ i) (h1 : i < (xs.length : Int)) (h : Q ((xs.set i.toNat x).map f)) : isS (setL (xs.map f) i (f x)) Q := isS_i (set_map h0 h1) h
theorem rep_map {α : Type} (f : α → T) (x : α) : ∀ n : Nat, (List.replicate n [f x]).flatten = (List.replicate n x).map f
  | 0 => rfl
  | n + 1 => by rw [List.replicate_succ, List.flatten_cons, rep_map f x n]; rfl
theorem rng_map (lo : Int) (n : Nat) : rngT lo n = ((List.range n).map fun (i : Nat) => lo + (i : Int)).map T.int := by
  unfold rngT
  rw [List.map_map]; rfl
/-! ### an item at an index -/
theorem isS_in {α : Type} {f : α → T} {xs : List α} {i : Int} {Q : T → Prop} (h0 : 0 ≤ i) (h1 : i < (xs.length : Int)) (h : ∀ x, xs[i.toNat]? = some x → Q (f x)) : isS (atL (xs.map f) i) Q := by
  obtain ⟨x, hx, e⟩ := at_map (f := f) (xs := xs) h0 h1
  exact isS_i e (h x hx)
theorem isS_mod {α : Type} {f : α → T} {xs : List α} {x n : Int} {Q : T → Prop} (hn : (xs.length : Int) = n) (h0 : 0 < n) (h : ∀ z, z ∈ xs → Q (f z)) : isS (atL (xs.map f) (x % n)) Q :=
  isS_in (Int.emod_nonneg _ (by omega)) (by rw [hn]; exact Int.emod_lt_of_pos _ h0) fun z hz => h z (List.mem_of_getElem? hz)
theorem getD_z {α : Type} {l : List α} {z : Int} {i : Nat} {d x : α} (h : l[z.toNat]? = some x) (e : z.toNat = i) : l.getD i d = x := by subst e; simp [List.getD, h]
/-- of a display of ints -/
theorem isS_lit {l : List Int} {i : Int} {Q : T → Prop} (h0 : 0 ≤ i) (h1 : i < (l.length : Int)) (h : ∀ z, z ∈ l → Q (.int z)) : isS (atL (l.map T.int) i) Q := isS_in h0 h1 fun z hz => h z (List.mem_of_getElem? hz)
end VL
set_option Elab.async false
set_option linter.all false
set_option maxRecDepth 100000
set_option maxHeartbeats 4000000
/-! s == [], whatever stands in s -/
namespace VL
open PySem PySem.Spec PyProof.Rows L2 XR
def rEmp (K : PySem.W.Frag) (neg : Bool) : R2 := fun x y H Q => ∃ a b xs, x = .ref a ∧ y = .ref b ∧ SqL K H a xs ∧ SqL K H b [] ∧ Q (.bl (nb neg xs.isEmpty)) H
section
variable {X : Cx} {K : PySem.W.Frag} (e : X.K = K)
include e
theorem op_eqE (hu : X.A.units + 65 < cLine) : OpR X (compareOp .Eq) (rEmp K false) := by
  subst e
  intro pins s σ H x y v u Q I rx ry h
  obtain ⟨a, b, xs, rfl, rfl, ha, hb, q⟩ := h
  cases (show v = Value.ref a from rx)
  cases (show u = Value.ref b from ry)
  obtain ⟨us, r1, p1, _⟩ := I.list ha
  obtain ⟨ws, r2, p2, _⟩ := I.list hb
  cases r2
  cases xs with
  | nil =>
    cases r1
    exact (SeqAt.RcAt.lists (e := fun _ => true) p1.isList p2.isList rfl (by omega) (fun j h1 h2 => absurd h1 (by simp))) X.prog X.w _ _ ⟨.bl true, H, I, rfl, q⟩
  | cons x xs =>
    cases r1
    exact (SeqAt.RcAt.lists_lengths p1.isList p2.isList (by simp) (by omega)) X.prog X.w _ _ ⟨.bl false, H, I, rfl, q⟩
theorem op_neE (hu : X.A.units + 65 < cLine) : OpR X (compareOp .NotEq) (rEmp K true) := by
  subst e
  intro pins s σ H x y v u Q I rx ry h
  obtain ⟨a, b, xs, rfl, rfl, ha, hb, q⟩ := h
  cases (show v = Value.ref a from rx)
  cases (show u = Value.ref b from ry)
  obtain ⟨us, r1, p1, _⟩ := I.list ha
  obtain ⟨ws, r2, p2, _⟩ := I.list hb
  cases r2
  cases xs with
  | nil =>
    cases r1
    exact (SeqAt.RcNeAt.lists (e := fun _ => true) p1.isList p2.isList rfl (by omega) (fun j h1 h2 => absurd h1 (by simp))) X.prog X.w _ _ ⟨.bl false, H, I, rfl, q⟩
  | cons x xs =>
    cases r1
    exact (SeqAt.RcNeAt.lists_lengths p1.isList p2.isList (by simp) (by omega)) X.prog X.w _ _ ⟨.bl true, H, I, rfl, q⟩
end
def vEmp (neg : Bool) : Rf → Rf → VW := peek2 fun x y Q γ => match y with
  | .lst [] => match x with
    | .lst ts => Q (.val (.bl (nb neg ts.isEmpty))) γ
    | .scr ts => Q (.val (.bl (nb neg ts.isEmpty))) γ
    | _ => False
  | _ => False
section
variable {K : PySem.W.Frag} {B : Bs} {E : L2.St → XK}
theorem v2_emp {neg : Bool} : V2 K B E (rEmp K neg) (vEmp neg) where
  run := fun {as γ σ G H x y rx ry Q Qv Xv} S r1 r2 h k _ => by
    obtain ⟨t, u, e1, e2, h⟩ := peek2_rp S r1 r2 h
    split at h
    · cases e2 with | lst b1 b2 =>
      cases b2
      split at h
      · cases e1 with | lst z1 z2 => exact ⟨_, _, _, rfl, rfl, SqL.of z1, SqL.of b1, by rw [z2.emp]; exact kval k S (.bl _) h⟩
      · cases e1 with | scr z1 z2 => exact ⟨_, _, _, rfl, rfl, z1, SqL.of b1, by rw [z2.emp]; exact kval k S (.bl _) h⟩
      · exact h.elim
    · exact h.elim
instance : V2 K B E (rEmp K false) (vEmp false) := v2_emp
instance : V2 K B E (rEmp K true) (vEmp true) := v2_emp
end
end VL
set_option Elab.async false
set_option linter.all false
set_option maxRecDepth 100000
set_option maxHeartbeats 4000000
/-! methods of texts -/
namespace VL
open PySem PySem.Spec PyProof.Rows L2 XR
def isStr (t : T) : Prop := match t with
  | .str _ => True
  | _ => False
theorem isStr_ok {K : PySem.W.Frag} {B : Bs} {as : List Addr} {γ : Env} {σ : L2.St} {G H : Hp} {r : Rf} {v : V} (S : StR K B as γ σ G H) (rr : RR K B.ex as G r v) (h : peek r γ isStr) : ∃ a, v = .str a := by
  obtain ⟨t, q, z⟩ := peek_rp S rr h
  unfold isStr at q
  split at q
  · cases z; exact ⟨_, rfl⟩
  · exact q.elim
section
variable {K : PySem.W.Frag} {B : Bs} {E : L2.St → XK}
def vM1 (wr : Rf → List Rf → VW) (wo we : VW) : VW := fun γ Q X => wo γ (fun r γ1 => peek r γ1 isStr ∧ we γ1 (fun r2 γ2 => wr r [r2] γ2 Q X) X) X
def vM0 (wr : Rf → List Rf → VW) (wo : VW) : VW := fun γ Q X => wo γ (fun r γ1 => peek r γ1 isStr ∧ wr r [] γ1 Q X) X
instance {r : V → List V → Hp → VK → Prop} {wr : Rf → List Rf → VW} {to te : TE} {wo we : VW} [ho : VE K B E to wo] [he : VE K B E te we] [hr : VM K B E r wr] : VE K B E (tM1 r to te) (vM1 wr wo we) where
  run := fun {as γ σ G H Q Qv Xv} S h k kx => by
    refine ho.run S h (fun r1 γ1 as1 v1 G1 H1 p1 g1 S1 rr1 q1 => ?_) kx
    refine ⟨isStr_ok S1 rr1 q1.1, ?_⟩
    refine he.run S1 q1.2 (fun r2 γ2 as2 v2 G2 H2 p2 g2 S2 rr2 q2 => ?_) (kx.mono p1 g1)
    exact hr.run S2 (RR.mono rr1 p2 g2) (.cons rr2 .nil) q2 ((k.mono p1 g1).mono p2 g2) ((kx.mono p1 g1).mono p2 g2)
instance {r : V → List V → Hp → VK → Prop} {wr : Rf → List Rf → VW} {to : TE} {wo : VW} [ho : VE K B E to wo] [hr : VM K B E r wr] : VE K B E (tM0 r to) (vM0 wr wo) where
  run := fun {as γ σ G H Q Qv Xv} S h k kx => by
    refine ho.run S h (fun r1 γ1 as1 v1 G1 H1 p1 g1 S1 rr1 q1 => ?_) kx
    exact ⟨isStr_ok S1 rr1 q1.1, hr.run S1 rr1 .nil q1.2 (k.mono p1 g1) (kx.mono p1 g1)⟩
/-! ### join -/
theorem strs_inv {G : Hp} : ∀ {vs : List V} {ys : List Str}, RpAll K G vs (ys.map T.str) → vs = ys.map V.str ∧ ∀ y ∈ ys, PyData.strOk y = true
  | _, [], .nil => ⟨rfl, by simp⟩
  | _, y :: ys, .cons (.str _ h) b => by
    obtain ⟨e, o⟩ := strs_inv b
    refine ⟨by rw [e]; rfl, fun z hz => ?_⟩
    rcases List.mem_cons.mp hz with rfl | hz
    · exact h
    · exact o z hz
theorem strOk_join {a : Str} (ha : PyData.strOk a = true) : ∀ ys : List Str, (∀ y ∈ ys, PyData.strOk y = true) → PyData.strOk (Str.join a ys) = true
  | [], _ => strOk_empty
  | [x], h => h x List.mem_cons_self
  | x :: z :: r, h => by
    show PyData.strOk (x ++ a ++ Str.join a (z :: r)) = true
    exact strOk_app (strOk_app (h x List.mem_cons_self) ha) (strOk_join ha (z :: r) fun y hy => h y (List.mem_cons_of_mem _ hy))
def rJoin (K : PySem.W.Frag) : V → List V → Hp → VK → Prop := fun x xs H Q => ∃ a p, ∃ ys : List Str, x = .str a ∧ xs = [.ref p] ∧ (SqL K H p (ys.map V.str) ∨ SqT K H p (ys.map V.str)) ∧
      (ys.map (·.length)).sum + ys.length * a.length ≤ 16777216 ∧ Q (.str (Txt.join a ys)) H
theorem pe_joinK {X : Cx} {o e : Expr} {to te : TE} {apos pos : Pos} (ek : X.K = K) (ho : PE X o to) (he : PE X e te) (hs : starEach [e] X.env = [(false, eval e X.env)]) (hbase : attributeBase o "join" X.env (eval o X.env) = eval o X.env) (hline : (apos.endLine == pos.line) = true) :
    PE X (.Call (.Attribute o "join" apos) [e] [] pos) (tM1 (rJoin K) to te) := ek ▸ pe_join ho he hs hbase hline
def vJoinM : Rf → List Rf → VW := fun r rs γ Q _ => arg1 rs fun y => peek r γ fun t => match t with
  | .str a => peek y γ fun u => seqT u fun _ ts => ∃ ys : List Str, ts = ys.map T.str ∧ (ys.map (·.length)).sum + ys.length * a.length ≤ 16777216 ∧ Q (.val (.str (Str.join a ys))) γ
  | _ => False
instance : VM K B E (rJoin K) vJoinM where
  run := fun {as γ σ G H x rx vs rs Q Qv Xv} S rr rrs h kk _ => by
    unfold vJoinM arg1 at h
    split at h
    · cases rrs with | cons a0 b =>
      cases b
      obtain ⟨t, h, z⟩ := peek_rp S rr h
      split at h
      · cases z with | str _ ok =>
        obtain ⟨bb, ts, p, acc, rfl, sq, rp, ys, rfl, hz, q⟩ := peek_seq S a0 h
        obtain ⟨rfl, oy⟩ := strs_inv rp
        refine ⟨_, p, ys, rfl, rfl, sq.or, hz, ?_⟩
        rw [TL.join_eq]
        exact kval kk S (.str _ (strOk_join ok ys oy)) q
      · exact h.elim
    · exact h.elim
end
theorem len_app (a b : Str) : (a ++ b).length = a.length + b.length := by
  show (a.cps ++ b.cps).size = _
  rw [Array.size_append]; rfl
theorem join_len (a : Str) : ∀ ys : List Str, (Str.join a ys).length ≤ (ys.map (·.length)).sum + ys.length * a.length
  | [] => Nat.zero_le _
  | [x] => by show x.length ≤ x.length + 0 + 1 * a.length; omega
  | x :: z :: r => by
    show (x ++ a ++ Str.join a (z :: r)).length ≤ _
    have := join_len a (z :: r)
    rw [len_app, len_app, List.map_cons, List.sum_cons, List.length_cons, Nat.succ_mul]
    omega
/-- a sign of a text -/
theorem isS_chr {z : Str} {i : Int} {Q : T → Prop} (h0 : 0 ≤ i) (h1 : i < (z.length : Int)) (h : ∀ c : Nat, Q (.str ⟨#[c]⟩)) : isS (atL z.cps.toList i) fun c => Q (.str ⟨#[c]⟩) := by
  obtain ⟨c, e, _⟩ := atL_at z.cps.toList h0 (by rw [Array.length_toList]; exact h1)
  exact isS_i e (h c)
/-- where a text stands first -/
def fx (pts : List Str) (x : Str) : Nat := pts.findIdx (· == x)
theorem fx_lt {pts : List Str} {x : Str} (h : x ∈ pts) : fx pts x < pts.length := List.findIdx_lt_length_of_exists ⟨x, h, by simp⟩
theorem index_ok {pts : List Str} {x : Str} (h : x ∈ pts) {Q : Nat → Prop} (k : Q (fx pts x)) : (okD (.str x) = true ∧ okD (.lst (pts.map T.str)) = true) ∧ ∃ (j : Nat) (z : T), (pts.map T.str)[j]? = some z ∧ eqT z (.str x) = true ∧ (∀ (m : Nat) (z' : T), m < j → (pts.map T.str)[m]? = some z' → eqT z' (.str x) = false) ∧ Q j := by
  refine ⟨⟨rfl, encStr.list.ok (by decide) pts⟩, fx pts x, .str x, ?_, ?_, ?_, k⟩
  · have hl := fx_lt h
    rw [List.getElem?_map, List.getElem?_eq_getElem hl]
    have := List.findIdx_getElem (w := hl)
    rw [show pts[fx pts x] = x by unfold fx; simpa using this]
    rfl
  · exact encStr.self x
  · intro m z' hm e
    rw [List.getElem?_map] at e
    cases em : pts[m]? with
    | none => rw [em] at e; cases e
    | some y =>
      rw [em] at e
      cases e
      obtain ⟨hl, rfl⟩ := List.getElem?_eq_some_iff.mp em
      have := List.not_of_lt_findIdx hm
      rw [encStr.eq]
      simpa using this
end VL
set_option Elab.async false
set_option linter.all false
set_option maxRecDepth 100000
set_option maxHeartbeats 4000000
/-! methods of lists in comprehensions: K told, nothing left to be found -/
namespace VL
open PySem PySem.Spec PyProof.Rows L2 XR
section
variable {X : Cx} {K : PySem.W.Frag} (ek : X.K = K)
include ek
theorem mt_indexK (hu : X.A.units + 65 < cLine) : MtR X "list.index" (rIndexD K) := ek ▸ mt_indexD hu
theorem pe_bmK {T id : String} {name : Str} {r : V → List V → Hp → VK → Prop} {o e : Expr} {es : List Expr} {to : TE} {t : TA} {apos cpos : Pos} (pa : PlainAttrs T) (slot : Slot T name id) (hty : typeOf (.builtin id) = pure (.type "method_descriptor")) (hm : MtR X id r) (ho : PE X o to) (ha : PA X (e :: es) t)
    (hbase : attributeBase o name X.env (eval o X.env) = eval o X.env)
    (hfew : ((backTo cpos (starEach (e :: es) X.env)).all (fun x => !x.1) && (backToKw cpos (keywordEach [] X.env)).all (fun x => x.1.isSome)
      && decide ((e :: es).length + ([] : List Keyword).length + (if ([] : List Keyword).isEmpty then 0 else 1) < 30)) = true)
    (hline : (apos.endLine == cpos.line) = true) (hs : starEach (e :: es) X.env = (false, eval e X.env) :: starEach es X.env) (hplain : (backTo cpos (starEach es X.env)).any (·.1) = false) :
    PE X (.Call (.Attribute o name apos) (e :: es) [] cpos) (tBM K T r to t) := ek ▸ pe_bm pa slot hty hm ho ha hbase hfew hline hs hplain
end
end VL
set_option Elab.async false
set_option linter.all false
set_option maxRecDepth 100000
set_option maxHeartbeats 4000000
/-! calls of instances; defs whose one parameter takes all arguments -/
namespace VL
open PySem PySem.Spec PyProof.Rows L2 XR
theorem raw0 {P : Program} {w : World} {K : PySem.W.Frag} {mg : Str → Option Value} {base : Heap} {CX : CXT} {k : Nat} {f : Addr} {fd : FuncData} {ps : List Str} {sp : Sp} (F : FnOk P w K mg base CX k f fd ps sp) (hb : Binds K fd ps []) : FnR P w K mg base CX k f sp :=
  (F.raw hb .nil).imp fun vs H Q E h => by rw [List.append_nil]; exact h
section
variable {K : PySem.W.Frag} {B : Bs} {E : L2.St → XK} {sp : Sp} {wf : List Rf → Env → RQ → XQ → Prop} [hf : VF K sp wf] {C : Addr}
def vCallO (C : Addr) (wf : List Rf → Env → RQ → XQ → Prop) (wo : VW) (wa : Env → (List Rf → Env → Prop) → XQ → Prop) : VW := fun γ Q X => wo γ (fun r γ1 => peek r γ1 (isC C) ∧ wa γ1 (fun rs γ2 => peek r γ2 (isC C) ∧ wf (r :: rs) γ2 Q noX) X) X
instance {X : Cx} {tf : TE} {t : TA} {wo : VW} {wa : Env → (List Rf → Env → Prop) → XQ → Prop} [ho : VE K B E tf wo] [ha : VA K B E t wa] : VE K B E (StX.tCallO X C sp E0 tf t) (vCallO C wf wo wa) where
  run := fun {as γ σ G H Q Qv Xv} S h k kx => by
    refine ho.run S h (fun r γ1 as1 v G1 H1 p1 g1 S1 rr1 q1 => ?_) kx
    obtain ⟨a, dx, fs, rfl, e1⟩ := isC_ok S1 rr1 q1.1
    refine ⟨a, rfl, ha.run S1 q1.2 (fun rs γ2 as2 vs G2 H2 p2 g2 S2 rr2 q2 => ?_) (kx.mono p1 g1)⟩
    have rr := RR.mono rr1 p2 g2
    obtain ⟨a', dx', fs', e', e2⟩ := isC_ok S2 rr q2.1
    cases e'
    exact ⟨.inr ⟨dx', fs', e2⟩, hf.run S2 (.cons rr rr2) q2.2 ((k.mono p1 g1).mono p2 g2) kxno⟩
end
section
variable {P : Program} {w : World} {K : PySem.W.Frag} {mg : Str → Option Value} {base : Heap}
theorem okStarV {x qual : Str} {st : Stmt} {f : Addr} {fd : FuncData} {N : List Str} {pv : Str} {k : Nat} {fv : VSp} (F : Fun K x qual st f fd) (S : FnScope N [pv] (defScope st)) (hN : 1 ≤ N.length)
    (hb : ∀ (kV doc pm : Value) (an : Option Addr) (cdv ct : Value) (rest : List Value), bindArgs (PySem.W.fnOf x qual (defArgs st) (defBody st) (defScope st) .none kV doc pm an cdv ct) { pos := rest } = (do let t ← newTuple rest; pure [(pv, t)]))
    (body : ∀ (cdv : Value) (A : Around) (outer : List PySem.Env) (s : Shared) (H : Hp) (E : XK), Room k (A.deeper (envOfC qual (defScope st) s.heap.objs.size f cdv)) →
      ∃ t, PSs (cxOf (L2.CX P w) P w K mg base N qual (defScope st) f cdv A outer s H E) (defBody st) t ∧ ∃ wv, (∀ B : Bs, VS K B (fun _ => E) t wv) ∧ ∀ (ts : List T) (Qv : Rt → List T → Prop) (Xv : VErr → List T → Prop), fv ts Qv Xv → wv (env0 [false] ts (N.length - 1)) (endsX Qv Xv)) :
    FnR P w K mg base (L2.CX P w) (k + 1) f (XR.spStar (vsp K [false] fv)) := by
  refine XR.okStar F S hb fun cdv A outer s H vs Q E hr h => ?_
  obtain ⟨t, hp, wv, hv, go⟩ := body cdv A outer s H E hr
  obtain ⟨G, ts, Qv, Xv, vw, ar, nd, hf, kr, kx⟩ := h
  refine ⟨t, hp, ?_⟩
  have hl : vs.length = 1 := ar.len
  have S0 := start_ok (N := N) vw ar nd (by omega)
  have q := go ts Qv Xv hf
  rw [← hl] at q
  refine (hv _).run S0 q ⟨fun γ' as' σ' G' H' _ _ S' z => ?_, fun _ _ _ _ _ _ _ _ z => z.elim, fun _ _ _ _ _ _ _ _ z => z.elim, fun σ' r γ' as' v G' H' _ _ S' rr z => ?_, fun σ' e γ' as' d G' H' _ _ S' er z => ?_⟩
  · obtain ⟨o, f, z⟩ := fin_of S' z
    exact kr (.val .non) _ _ _ _ f Rp.non z
  · obtain ⟨rt, o, f, rr, z⟩ := rt_of S' rr z
    exact kr _ _ _ _ _ f rr z
  · obtain ⟨o, f, z⟩ := fin_of S' z
    exact kx e _ d G' H' f er z
end
instance {K : PySem.W.Frag} {fv : VSp} : VF K (XR.spStar (vsp K [false] fv)) (fun rs γ Q X => toTs rs γ fun ts γ1 => small ts.length ∧ callQ [false] fv [.val (.tup ts)] γ1 Q X) := ⟨fun {B as γ σ G H rs vs Q E1 Qv Xv} S rr h k kx => by
  obtain ⟨ts, γ1, G1, g1, S1, rp, hz, q⟩ := toTs_ok S rr h
  refine ⟨by rw [rp.length]; exact hz, fun p hp => ?_⟩
  obtain ⟨S2, g2⟩ := S1.lay (o := .tup vs) hp
  have rp2 : Rp K (L2.upd G1 p (.tup vs)) (.ref p) (.tup ts) := .tup (SqT.of upd_same) (rp.mono g2)
  exact call_ok S2 (.cons (show RR K B.ex as _ (.val (.tup ts)) (.ref p) from rp2) .nil) q (k.mono (List.prefix_refl _) (g1.trans g2)) (kx.mono (List.prefix_refl _) (g1.trans g2))⟩
end VL
set_option Elab.async false
set_option linter.all false
set_option maxRecDepth 100000
set_option maxHeartbeats 4000000
/-! comprehensions over an open list that stands as it is -/
namespace VL
open PySem PySem.Spec PyProof.Rows L2 XR
section
variable {γ1 : Env} {vs : List Nat} {step : T → Env → (Env → Prop) → Prop} {Q : RQ} {α : Type} {xs : List α} {f : α → T} {k : Nat}
theorem lc_live {ts : List T} (hon : ∀ out, nth (EL γ1 vs out).mem k = some (.mu (.lst ts))) (I : Nat → List T → Prop) (i0 : I 0 []) (hs : ∀ i t out, ts[i]? = some t → I i out → step t ((EL γ1 vs out).wipe vs) (NL γ1 vs (I (i + 1)))) (hd : ∀ out, I ts.length out → Q (.ref γ1.mem.length) (EL γ1 vs out)) : LcI (.live k ts) γ1 vs step Q := by
  unfold NL at hs
  refine ⟨fun i γ => ∃ out, γ = EL γ1 vs out ∧ I i out, ⟨EL γ1 vs [], .refl _, [], rfl, i0⟩, fun i γ2 h => ?_, fun i t γ2 e h => ?_, fun γ2 h => ?_⟩
  · obtain ⟨out, rfl, _⟩ := h
    exact hon out
  · obtain ⟨out, rfl, p⟩ := h
    exact hs i t out e p
  · obtain ⟨out, rfl, p⟩ := h
    exact hd out p
theorem lc_mapL (hon : ∀ out, nth (EL γ1 vs out).mem k = some (.mu (.lst (xs.map f)))) (g : α → T) (hs : ∀ (i : Nat) x out, xs[i]? = some x → out.length < xs.length → step (f x) ((EL γ1 vs out).wipe vs) (NL γ1 vs (fun o => o = out ++ [g x]))) (hd : Q (.ref γ1.mem.length) (EL γ1 vs (xs.map g))) : LcI (.live k (xs.map f)) γ1 vs step Q := by
  refine lc_live hon (fun i out => out = (xs.take i).map g) rfl (fun i t out e h => ?_) fun out h => ?_
  · subst h
    rw [List.getElem?_map] at e
    cases ex : xs[i]? with
    | none => rw [ex] at e; cases e
    | some x =>
      rw [ex] at e
      cases e
      have := hs i x ((xs.take i).map g) ex (by have := (List.getElem?_eq_some_iff.mp ex).1; rw [List.length_map, List.length_take]; omega)
      rw [XR.take_one ex, List.map_append]
      exact this
  · subst h
    rw [List.length_map, List.take_length]
    exact hd
end
end VL
set_option Elab.async false
set_option linter.all false
set_option maxRecDepth 100000
set_option maxHeartbeats 4000000
/-! isinstance(e, (C1, C2, ..)) of a handled error -/
namespace VL
open PySem PySem.Spec PyProof.Rows L2 XR
def clsT : Rf → Bool
  | .val (.ty _) => true
  | .val (.cls _) => true
  | _ => false
def okN : List Rf → Bool
  | [] => false
  | r :: rs => Nat.ble rs.length 900
def errAny (K : PySem.W.Frag) (D : Addr) : List Rf → (Bool → Prop) → Prop
  | [], Q => Q false
  | r :: rs, Q => match r with
    | .val c => ∃ b, ErrIs K D c b ∧ br b (rs.all clsT = true ∧ Q true) (errAny K D rs Q)
    | _ => False
section
variable {K : PySem.W.Frag} {B : Bs} {E : L2.St → XK} {ex : Addr × Value × Option Addr} {as : List Addr} {G : Hp} {D : Addr}
theorem clsT_all (vw : Same G H) : ∀ {rs : List Rf} {vs : List V}, RRs K ex as G rs vs → rs.all clsT = true → ∃ us, Paired ClsV vs us
  | [], _, .nil, _ => ⟨[], .nil⟩
  | r :: rs, v :: vs, .cons a b, h => by
    rw [List.all_cons, Bool.and_eq_true] at h
    obtain ⟨us, hu⟩ := clsT_all vw b h.2
    match r, a, h.1 with
    | .val (.ty n), a, _ => exact ⟨_, .cons (ClR.ok (.ty n) (show Rp K G v (.ty n) from a)) hu⟩
    | .val (.cls n), a, _ => exact ⟨_, .cons (ClR.ok (.cls n) (show Rp K G v (.cls n) from a)) hu⟩
theorem errAny_ok (vw : Same G H) : ∀ {rs : List Rf} {vs : List V} {Q : Bool → Prop}, RRs K ex as G rs vs → errAny K D rs Q → ∃ us b, Paired ClsV vs us ∧ PySem.W.kitAny K (.ref D) us = some b ∧ Q b
  | [], _, _, .nil, h => ⟨[], false, .nil, rfl, h⟩
  | r :: rs, v :: vs, Q, .cons a b, h => by
    match r, a, h with
    | .val c, a, h =>
      obtain ⟨x, ⟨_, u, hu, hk⟩, q⟩ := h
      have hv : ClsV v u := hu.ok (show Rp K G v c from a)
      cases x with
      | true =>
        obtain ⟨q1, q2⟩ := q
        obtain ⟨us, hus⟩ := clsT_all vw b q1
        exact ⟨u :: us, true, .cons hv hus, by unfold PySem.W.kitAny; rw [hk], q2⟩
      | false =>
        obtain ⟨us, y, hus, e, q2⟩ := errAny_ok vw b q
        exact ⟨u :: us, y, .cons hv hus, by unfold PySem.W.kitAny; rw [hk]; exact e, q2⟩
theorem errAny_asks {rs : List Rf} {Q : Bool → Prop} (h0 : okN rs = true) (h : errAny K D rs Q) : XR.Asks K D := by
  match rs, h0, h with
  | .val c :: rs, _, h =>
    obtain ⟨_, ⟨as_, _⟩, _⟩ := h
    exact as_
  | .ref k :: rs, _, h => exact h.elim
  | .err _ _ :: rs, _, h => exact h.elim
def vIsET (K : PySem.W.Frag) (we : VW) (wa : Env → (List Rf → Env → Prop) → XQ → Prop) : VW := fun γ Q X => we γ (fun r γ1 => wa γ1 (fun rs γ2 => match r with
  | .err D _ => okN rs = true ∧ errAny K D rs fun b => Q (.val (.bl b)) γ2
  | _ => False) X) X
instance {a : Addr} {cls : Value} {d : Option Addr} {te : TE} {ta : TA} {we : VW} {wa : Env → (List Rf → Env → Prop) → XQ → Prop} [he : VE K (B.hot a cls d) E te we] [ha : VA K (B.hot a cls d) E ta wa] :
    VE K (B.hot a cls d) E (tCB (rIsAT K cls d a) (tCons te (tCons (tTup ta) tNil))) (vIsET K we wa) where
  run := fun {as γ σ G H Q Qv Xv} S h k kx => by
    refine he.run S h (fun r1 γ1 as1 v1 G1 H1 p1 g1 S1 rr1 q1 => ?_) kx
    refine ha.run S1 q1 (fun rs γ2 as2 vs G2 H2 p2 g2 S2 rr2 q2 => ?_) (kx.mono p1 g1)
    have hl : vs.length = rs.length := by
      clear q2
      induction rr2 with
      | nil => rfl
      | cons _ _ ih => rw [List.length_cons, List.length_cons, ih]
    match r1, rr1, q2 with
    | .err D gs, rr1, q2 =>
      obtain ⟨h0, q2⟩ := q2
      have hz : rs.length ≤ 901 := by
        match rs, h0 with
        | _ :: rs, h0 => have := Nat.le_of_ble_eq_true h0; rw [List.length_cons]; omega
      refine ⟨by show _ ≤ sizeLine; rw [sizeLine_eq, hl]; omega, fun p hp => ?_⟩
      have as_ := errAny_asks h0 q2
      obtain ⟨us, b, hu, hk, q⟩ := errAny_ok S2.vw rr2 q2
      obtain ⟨S3, g3⟩ := S2.lay (o := .tup vs) hp
      have rr1 := (RR.mono rr1 p2 g2).mono (List.prefix_refl _) g3
      obtain ⟨rfl, ec, er⟩ := rr1
      have ec : cls = .ref D := ec
      subst ec
      have kk := kval (((k.mono p1 g1).mono p2 g2).mono (List.prefix_refl _) g3) S3 (.bl b) q
      rcases er with ⟨e1, _⟩ | ⟨dd, fs, e1, e2, _⟩
      · have e1 : d = none := e1
        exact .inr ⟨_, p, vs, us, b, rfl, e1, as_, rfl, upd_same, hu, hk, kk⟩
      · have e1 : d = some dd := e1
        exact .inl ⟨_, dd, p, fs, vs, us, b, rfl, e1, S3.vw _ _ e2, as_, rfl, upd_same, hu, hk, kk⟩
end
end VL
set_option Elab.async false
set_option linter.all false
set_option maxRecDepth 100000
set_option maxHeartbeats 4000000
/-! comprehensions whose item may raise: what a call lets out goes on through the block of names -/
namespace CpX
open PySem PySem.Spec PyProof.Rows L2
theorem frames_but {B B' h h' : Heap} : ∀ {l : List Env}, h.FunFrames B l → (∀ L ∈ frs l, h'.get? L = h.get? L) → (∀ b o, B'.get? b = some o → B.get? b = some o) → h'.FunFrames B' l
  | [], _, _, _ => trivial
  | env :: l, x, e, sub => by
    obtain ⟨hk, ⟨L, o, hL, none_, there, nf⟩, more⟩ := x
    have here : h'.get? L = h.get? L := e L (List.mem_filterMap.mpr ⟨env, List.mem_cons_self, hL⟩)
    refine ⟨hk, ⟨L, o, hL, ?_, here.trans there, nf⟩, frames_but more (fun b hb => ?_) sub⟩
    · match q : B'.get? L with
      | none => rfl
      | some u => have z := sub L u q; rw [none_] at z; cases z
    · obtain ⟨f, hf, q⟩ := List.mem_filterMap.mp hb
      exact e b (List.mem_filterMap.mpr ⟨f, List.mem_cons_of_mem _ hf, q⟩)
section
variable {X : Cx} {pins : List (Addr × Obj)} {σ : L2.St} {H5 : Hp} {s7 s8 : Shared} {u : Value} {E : XK} {W : WX} {ce : Env} {m : Str → Option Value}
theorem comp_air (hs : X.stack = X.env :: X.outer) (hf : X.env.frame = some X.env.locals) (hcf : ce.frame = X.env.frame) (tk : Takes X W) (hW : ∀ cls d H, E cls d H → W cls d σ H)
    (I : Inv X pins σ H5 s7) (hn : s7.heap.Ns ce.locals m) (hC : FpOk X pins H5 ce.locals) (c : CX X.prog X.w X.stack H5 s7 E u s8) :
    notedBy (model X.prog X.w) X.A ce (CompFails (model X.prog X.w) X.A X.xe ce) u s8 := by
  obtain ⟨a, B, H', cls, d, rfl, fly, hokB, ub, na, os, ag, hE⟩ := c
  generalize hCe : ce.locals = C at hn hC
  obtain ⟨c0, c1, c2, c3, c4, c5⟩ := hC
  have outC : C ∉ frs X.stack := fun z => (List.mem_cons.mp (I.stkSub C z)).elim c1 c2
  obtain ⟨oC, es, ep, atC, kindC, restC⟩ := hn
  have freeC : H' C = none := ub.free C oC atC c0
  have stays : B.StaysIn s8.heap := fly.1
  -- the state without the exception's objects and without the block of names
  obtain ⟨G, g1, g2⟩ := restrict s8.heap fun b => ((B.get? b).isSome || decide (b ∈ frs X.stack)) && !decide (b = C)
  obtain ⟨BX, b1, b2⟩ := restrict B fun b => !decide (b = C)
  have intoG : ∀ b o, b ≠ C → B.get? b = some o → G.get? b = some o := fun b o ne e => by
    rw [g1 b (by simp [e, ne])]
    exact stays b o e
  have frameG : ∀ b, b ∈ frs X.stack → G.get? b = s8.heap.get? b := fun b hb => g1 b (by simp [hb]; exact fun z => outC (z ▸ hb))
  have outG : ∀ b o, G.get? b = some o → s8.heap.get? b = some o ∧ b ≠ C ∧ ((B.get? b).isSome = true ∨ b ∈ frs X.stack) := fun b o e => by
    cases q : (((B.get? b).isSome || decide (b ∈ frs X.stack)) && !decide (b = C)) with
    | false => rw [g2 b q] at e; cases e
    | true =>
      rw [g1 b q] at e
      rw [Bool.and_eq_true, Bool.or_eq_true] at q
      exact ⟨e, by simpa using q.2, q.1.imp id (fun z => by simpa using z)⟩
  have ofBX : ∀ b o, BX.get? b = some o → b ≠ C ∧ B.get? b = some o := fun b o e => by
    cases q : (!decide (b = C)) with
    | false => rw [b2 b q] at e; cases e
    | true => rw [b1 b q] at e; exact ⟨by simpa using q, e⟩
  have toBX : ∀ b o, b ≠ C → B.get? b = some o → BX.get? b = some o := fun b o ne e => by rw [b1 b (by simp [ne])]; exact e
  have hokG : HOk X.prog X.w H' G := fun b o q => (hokB b o q).stay (fun y v hy r => intoG y v (fun z => by
    subst z
    rcases hy with hy | hy
    · rw [← hy, freeC] at q; cases q
    · rw [freeC] at hy; cases hy) r) (fun _ r => r) fun _ _ r => r
  have IG : Inv X pins σ H' { s7 with heap := G, gens := s8.gens, drawn := s8.drawn, toks := s8.toks } := by
    refine I.call (ch := [C]) ⟨fun b o e n hb hc => intoG b o (by simpa using hc) (ub.keep b o e n hb), fun b o e n hb hc => ?_, fun b o e n hc => ub.free b o e n, fun b o e hc => ?_, ub.tups, ub.frzs, ub.tbls⟩ hokG ag fun b hb => ?_
    · obtain ⟨sl, q⟩ := ub.slot b o e hb
      exact ⟨sl, (frameG b hb).trans q⟩
    · by_cases hb : b ∈ frs X.stack
      · obtain ⟨sl, q⟩ := ub.slot b o e hb
        exact ⟨_, (frameG b hb).trans q⟩
      · obtain ⟨o', q⟩ := ub.there b o e hb
        exact ⟨o', intoG b o' (by simpa using hc) q⟩
    · obtain rfl : b = C := by simpa using hb
      exact ⟨c3, c1, c4, c5⟩
  -- noted in the def's own frame
  have same : noteFrame (.ref a) ce = noteFrame (.ref a) X.env := by unfold noteFrame PySem.frameOf; rw [hcf]
  have hfr : X.A.frames = some (X.env :: X.outer) := by rw [I.ok.frames, hs]
  unfold notedBy
  rw [same]
  rw [hs] at fly
  refine HandSPX.looks_onZ Zc.steady hfr hf fly fun h9 held up9 => ?_
  have at8 : s8.heap.get? C = some oC := stays C oC (ub.keep C oC atC c0 outC)
  have nfC : ∀ vs, oC.data ≠ .fields vs := fun vs z => by rw [kindC] at z; cases z
  obtain ⟨slC, at9⟩ := up9 C oC at8 nfC
  refine ⟨m, hCe ▸ ⟨_, es, ep, at9, kindC, restC⟩, fun h' m' _ sb => ?_⟩
  rw [hCe] at sb
  -- the names let go
  obtain ⟨k1, k2, k3, oe, vs, T, oT, ts, he, hz, hd, h1, hnT, hTe, hT, hdT, h3⟩ := held
  have ne_of : ∀ {b : Addr} {o : Obj} {ws : Array Value}, h9.get? b = some o → o.data = .fields ws → b ≠ C := fun {b o ws} e q z => by
    subst z
    rw [at9] at e
    cases e
    exact nfC ws q
  have aC := ne_of he hd
  have tC := ne_of hT hdT
  have subBX : ∀ b o, BX.get? b = some o → B.get? b = some o := fun b o e => (ofBX b o e).2
  have noneBX : ∀ b, B.get? b = none → BX.get? b = none := fun b e => by
    match q : BX.get? b with
    | none => rfl
    | some o => have := subBX b o q; rw [e] at this; cases this
  have held' : HandSPX.HeldZ BX (X.env :: X.outer) a (Zc cls d) X.env.locals h' := by
    refine ⟨fun b o e => ?_, noneBX a k2, frames_but k3 (fun L hL => sb.2 L fun z => outC (by rw [hs, ← z]; exact hL)) subBX, oe, vs, T, oT, ts, (sb.2 a aC).trans he, hz, hd, h1, noneBX T hnT, hTe, (sb.2 T tC).trans hT, hdT, h3⟩
    obtain ⟨ne, e⟩ := ofBX b o e
    exact (sb.2 b ne).trans (k1 b o e)
  have he' : h'.get? a = some oe := (sb.2 a aC).trans he
  unfold PySem.passOn
  refine wpAny_bind (wpAny_field he' hd h1 ?_)
  rw [if_neg (show ¬ ((Value.ref T == Value.none) = true) from by simp)]
  have fin : wpAny (model X.prog X.w) X.A (setFlight (.ref a) ce.frame) (fun _ s4 => wpAny (model X.prog X.w) X.A (throw (.ref a) : Sem Value) (fun _ _ => False) X.xe s4) X.xe { s8 with heap := h' } := by
    rw [hcf, hf]
    refine HandSPX.setFlight_onZ held' fun h2 held2 up2 => wpAny_throw (tk _ _ ?_)
    refine ⟨a, BX, _, pins, σ, H', cls, d, rfl, IG, fun b o e hb => ?_, fun b o e nf => ?_, .inr (.inr (by rw [hs]; exact held2)), na, os, ag, hW cls d H' hE⟩
    · obtain ⟨e1, e2, e3⟩ := outG b o e
      rcases e3 with e3 | e3
      · obtain ⟨o', q⟩ := Option.isSome_iff_exists.mp e3
        have := stays b o' q
        rw [e1] at this
        cases this
        exact toBX b o e2 q
      · exact absurd e3 hb
    · obtain ⟨e1, e2, _⟩ := outG b o e
      obtain ⟨sl, q⟩ := up9 b o e1 nf
      obtain ⟨sl2, q2⟩ := up2 b { o with slots := sl } ((sb.2 b e2).trans q) nf
      exact ⟨sl2, q2⟩
  first
    | exact wpAny_bind (wpAny_pure (wpAny_bind fin))
    | exact wpAny_bind fin
end
end CpX
set_option Elab.async false
set_option linter.all false
set_option maxRecDepth 100000
set_option maxHeartbeats 4000000
/-! the rule of such a comprehension -/
namespace CpX
open PySem PySem.Spec PyProof.Rows L2
section
variable {X : Cx} {elt tg iter : Expr} {ifs : List Expr} {scope : Scope} {own : List (Str × Nat)} {pos pos' : Pos} {wi : TI} {g : TG} {tt : TT} {te : TE} {E : XK} {W : WX}
/-- its item's context: what a callee lets out is taken -/
abbrev ItemOk (X : Cx) (scope : Scope) (E : XK) (elt : Expr) (te : TE) : Prop := ∀ (s : Shared) (H : Hp) (C : Addr) (cl : List (Str × Addr)) (fp : List Addr) (xe : Value → Shared → Prop),
  Passes (L2.CX X.prog X.w) ((X.blk s H scope (compEnvC scope cl C X.env) fp).wish xe) E → PE ((X.blk s H scope (compEnvC scope cl C X.env) fp).wish xe) elt te
theorem lcx_run {pins : List (Addr × Obj)} {s : Shared} {σ : L2.St} {H : Hp} {Q : VK} {use : Option (Value → Sem Unit)} {Qf : Value → Shared → Prop}
    (hs : X.stack = X.env :: X.outer) (hf : X.env.frame = some X.env.locals) (tk : Takes X W) (hW : ∀ cls d σ H, E cls d H → W cls d σ H) (hc : X.calm = true) (hN : X.N.Nodup) (I : Inv X pins σ H s) (hi : PI X tg iter wi) (ok : BlkOk X.N X.env.scope scope own)
    (hg : ∀ (s : Shared) (H : Hp) (C : Addr) (cl : List (Str × Addr)) (fp : List Addr), PG (X.blk s H scope (compEnvC scope cl C X.env) fp) tg g)
    (ht : ∀ (s : Shared) (H : Hp) (C : Addr) (cl : List (Str × Addr)) (fp : List Addr), PTs (X.blk s H scope (compEnvC scope cl C X.env) fp) ifs tt)
    (he : ItemOk X scope E elt te) (hfs : ∀ x, foldedSetIterable iter X.env x = pure x) (h : tLc wi g tt te (own.map (·.2)) σ H Q)
    (land : ∀ D ce s' m H', Inv X pins σ H' s' → Q (.ref D) H' → s'.heap.Ns ce.locals m → FpOk X pins H' ce.locals → compEnds (model X.prog X.w) X.A X.xe use Qf (.ref D) ce (.ok .next) s') :
    wpAny (model X.prog X.w) X.A (comprehension (.ListComp elt [⟨tg, iter, ifs, 0⟩] scope pos) scope X.env pos' (newList []) false (eval iter X.env) use) Qf X.xe s := by
  have closed : ∀ y ∈ scope.names, y.2 = .free → ∃ c, X.env.cells.lookup y.1 = some c := fun y hy e => (ok.free y hy e).elim (fun z => I.ok.has _ (.inl z)) fun z => I.ok.has _ (.inr z)
  refine comprehension_at (use := use) rfl hfs (closure_ok closed) ok.kind (fun y hy e => by rw [ok.uniq y hy, e]) ?_
  refine thn (hi.run pins s σ H _ I h) fun xv s1 made1 => thn made1 fun itv s2 made2 => ?_
  obtain ⟨it, fp, tn, J, H2, rfl, I2, turns, st2, f2, q⟩ := made2
  refine wpAny_newObj_type (newEnv_comp ?_) (by show 0 ≤ sizeLine; decide)
  generalize eD : s2.heap.objs.size = D
  have noD : H2 D = none := I2.hok.fresh (Nat.le_of_eq eD)
  obtain ⟨Wn, ⟨m0, w0⟩, steps⟩ := q D noD
  -- the list is laid
  generalize e3 : ({ s2 with heap := s2.heap.push { cls := .type "list", data := .seq ([] : List Value).toArray } } : Shared) = s3
  have heap3 : s3.heap = s2.heap.push { cls := .type "list", data := .seq ([] : List Value).toArray } := by rw [← e3]
  generalize eH : upd H2 D (.lst []) = H3 at w0
  have I3 : Inv X pins σ H3 s3 := by
    rw [← e3, ← eH]
    refine I2.laid (t' := s2.toks) (fun b o z => Heap.get?_push_of_some _ z) (Nat.le_of_eq eD) ⟨Nat.zero_le _, [], 0, .nil, ?_⟩
    rw [← eD]
    exact Heap.get?_push_size _ rfl
  have f3 : ∀ b ∈ fp, FpOk X pins H3 b ∧ b < s3.heap.objs.size := fun b hb => by
    obtain ⟨o, z, _⟩ := turns.obj _ _ st2 b hb
    have lt : b < s2.heap.objs.size := Heap.lt_size z
    refine ⟨⟨?_, (f2 b hb).2⟩, by rw [heap3, Heap.size_push]; exact Nat.lt_succ_of_lt lt⟩
    rw [← eH, upd_ne (by rw [← eD]; exact Nat.ne_of_lt lt)]
    exact (f2 b hb).1
  have st3 : tn 0 s3.heap := turns.keep _ _ _ st2 fun b _ o z => by rw [heap3]; exact Heap.get?_push_of_some _ z
  -- the block of names
  have I4 := block_start I3 ok hN f3
  generalize ecl : cellsFrom (s3.heap.objs.size + 1) scope.names (cloFrom X.env.cells scope.names []) = cl at I4
  have pg := hg s3 H3 s3.heap.objs.size cl fp
  have pt := ht s3 H3 s3.heap.objs.size cl fp
  have pe := he s3 H3 s3.heap.objs.size cl fp
  obtain ⟨ce, ece⟩ : ∃ ce, ce = compEnvC scope cl s3.heap.objs.size X.env := ⟨_, rfl⟩
  rw [← ece] at I4 pg pt pe
  have eL : ce.locals = s3.heap.objs.size := by rw [ece]; rfl
  have eF : ce.frame = X.env.frame := by rw [ece]; rfl
  generalize e4 : ({ s3 with heap := pushCells (s3.heap.push { cls := .type "dict", data := .dict #[] }) scope.names } : Shared) = s4 at I4
  have st4 : tn 0 s4.heap := turns.keep _ _ _ st3 fun b _ o z => by rw [← e4]; exact pushCells_keeps _ _ _ _ (Heap.get?_push_of_some _ z)
  -- back in the def's context
  have back : ∀ {ps : List (Addr × Obj)} {τ : L2.St} {G : Hp} {r : Shared}, Inv (X.blk s3 H3 scope ce fp) ps τ G r → Inv X pins σ G r ∧ (∃ m, r.heap.Ns ce.locals m) ∧ FpOk X pins G ce.locals := fun {ps τ G r} J => by
    refine ⟨I3.call' (ch := fp) J.os J.base J.hok J.bare fun b hb => ?_, ?_, ?_⟩
    · obtain ⟨⟨_, z1, _, z3, z4, z5⟩, _⟩ := f3 b hb
      exact ⟨z3, z1, z4, z5⟩
    · obtain ⟨m, hm, _⟩ := J.loc
      exact ⟨m, hm⟩
    · have z : G ce.locals = none := J.free
      exact I3.fpOk (by rw [eL]; exact Nat.le_refl _) z
  have keepOk : ∀ {τ : L2.St} {G : Hp} {r : Shared}, Inv (X.blk s3 H3 scope ce fp) [] τ G r → (∀ b ∈ fp, G b = none) → ∀ b ∈ fp, FpOk (X.blk s3 H3 scope ce fp) [] G b := fun {τ G r} J no b hb =>
    ⟨no b hb, (J.ok.exf b hb).1, J.ok.exfs b hb, .inl hb, fun x c z => (J.ok.exf b hb).2 x c z, fun p hp => absurd (show p ∈ ([] : List (Addr × Obj)) ++ [] from hp) (by simp)⟩
  obtain ⟨R, eR⟩ : ∃ R, R = compEnds (model X.prog X.w) X.A X.xe use Qf (.ref D) ce := ⟨_, rfl⟩
  -- what the item's callees let out
  have air : Passes (L2.CX X.prog X.w) ((X.blk s3 H3 scope ce fp).wish (notedBy (model X.prog X.w) X.A ce fun e r => R (.error e) r)) E := fun ps τ G r u r' J c => by
    obtain ⟨J1, ⟨m, hm⟩, J3⟩ := back (Inv.unwish J)
    have z := comp_air hs hf eF tk (fun cls d H hE => hW cls d σ H hE) J1 hm J3 c
    have same : (fun e r => R (.error e) r) = CompFails (model X.prog X.w) X.A X.xe ce := by
      rw [eR]
      funext e r
      cases use <;> rfl
    rw [same]
    exact z
  have pe := pe _ air
  have loop : codeAny (model X.prog X.w) X.A (.compLoop (.ListComp elt [⟨tg, iter, ifs, 0⟩] scope pos) 0 (.ref it) (.ref D) ce) R s4 := by
    refine compLoop_any (fun n r => ∃ i G, Inv (X.blk s3 H3 scope ce fp) [] (wipe σ (own.map (·.2))) G r ∧ tn i r.heap ∧ (∀ b ∈ fp, G b = none) ∧ Wn i n G) ?_ m0 ⟨0, H3, I4, st4, fun b hb => (f3 b hb).1.1, w0⟩
    rintro n r5 ⟨i, G5, J5, st5, n5, w5⟩
    rcases steps i n G5 w5 with ⟨stop, qq⟩ | ⟨go, Nxt, hNxt, step⟩
    · refine thnF (turns.done (X.blk s3 H3 scope ce fp) rfl rfl rfl hc i [] r5 _ G5 (fun _ _ => False) J5 (keepOk J5 n5) st5 stop) fun _ r6 ⟨hr, J6⟩ => ?_
      subst hr
      obtain ⟨J7, ⟨m, hm⟩, J8⟩ := back J6
      rw [eR]
      exact land D ce r6 m G5 J7 qq hm J8
    · refine thnF (turns.item (X.blk s3 H3 scope ce fp) rfl rfl rfl hc i [] r5 _ G5 (fun _ _ => False) J5 (keepOk J5 n5) st5 go) fun _ r6 ⟨u, hr, more⟩ => ?_
      subst hr
      refine thnF more fun _ r7 ⟨x, G7, J7, rx, y7, st7, n7⟩ => ?_
      refine thnF (pg.run _ r7 _ G7 x u _ (J7.pinned (keepOk J7 n7) (turns.obj _ _ st7)) rx (step x G7 y7)) fun _ r8 ⟨τ, G8, J8, sameW, q8⟩ => ?_
      refine thnF (pt.run _ r8 τ G8 _ J8 q8) fun b r9 ⟨G9, J9, q9⟩ => ?_
      have close : ∀ {r : Shared} {G : Hp}, Inv (X.blk s3 H3 scope ce fp) ([] ++ pinsAt fp r7.heap) τ G r → Nxt G → ∃ m, m < n ∧ ∃ i G, Inv (X.blk s3 H3 scope ce fp) [] (wipe σ (own.map (·.2))) G r ∧ tn i r.heap ∧ (∀ b ∈ fp, G b = none) ∧ Wn i m G := fun {r G} J nx => by
        obtain ⟨m', less, w'⟩ := hNxt G nx
        have stay : ∀ b ∈ fp, ∀ o, r7.heap.get? b = some o → r.heap.get? b = some o ∧ G b = none := fun b hb o z => by
          have := J.pin (b, o) (List.mem_append_right _ (List.mem_append_right _ (mem_pinsAt hb z)))
          exact ⟨this.1, this.2.1⟩
        refine ⟨m', less, i + 1, G, Inv.weak (Inv.unpinned (pins := []) J) (by rw [← sameW, wipe_length]) (fun j v z => (wipe_some (by rw [sameW]; exact z)).1), turns.keep _ _ _ st7 fun b hb o z => (stay b hb o z).1, fun b hb => ?_, w'⟩
        obtain ⟨o, z, _⟩ := turns.obj _ _ st7 b hb
        exact (stay b hb o z).2
      cases b with
      | false => exact close J9 (by simpa using q9)
      | true =>
        rw [if_pos rfl] at q9 ⊢
        refine wpAny_mono (pe.run _ r9 τ G9 _ (Inv.wish J9 _) q9) (fun z r10 done => ?_) fun _ _ z => z
        obtain ⟨yv, G10, J10, ry, acc, hD, hz, nx⟩ := done
        exact L2.app_ok (X := X.blk s3 H3 scope ce fp) (Inv.unwish J10) hD hz ry fun r11 J11 => close J11 nx
  have start := codeAny_compStart_list loop (turns.self X.A 0 _ _ _ st4 loop)
  subst eR ece e4 ecl
  exact start
end
end CpX
set_option Elab.async false
set_option linter.all false
set_option maxRecDepth 100000
set_option maxHeartbeats 4000000
/-! such comprehensions as a value, and stored on one line; their reading over values -/
namespace CpX
open PySem PySem.Spec PyProof.Rows L2
/-- the reading of a comprehension whose item may raise -/
def tLcX (wi : TI) (g : TG) (tt : TT) (te : TE) (vs : List Nat) : TE := fun σ H Q => tLc wi g tt te vs σ H Q
section
variable {X : Cx} {elt tg iter : Expr} {ifs : List Expr} {scope : Scope} {own : List (Str × Nat)} {pos : Pos} {wi : TI} {g : TG} {tt : TT} {te : TE} {E : XK} {W : WX}
theorem pe_lcX (hs : X.stack = X.env :: X.outer) (hf : X.env.frame = some X.env.locals) (tk : Takes X W) (hW : ∀ cls d σ H, E cls d H → W cls d σ H) (hc : X.calm = true) (hN : X.N.Nodup) (hi : PI X tg iter wi) (ok : BlkOk X.N X.env.scope scope own)
    (hg : ∀ (s : Shared) (H : Hp) (C : Addr) (cl : List (Str × Addr)) (fp : List Addr), PG (X.blk s H scope (compEnvC scope cl C X.env) fp) tg g)
    (ht : ∀ (s : Shared) (H : Hp) (C : Addr) (cl : List (Str × Addr)) (fp : List Addr), PTs (X.blk s H scope (compEnvC scope cl C X.env) fp) ifs tt)
    (he : ItemOk X scope E elt te) (hfs : ∀ x, foldedSetIterable iter X.env x = pure x := by intro _; rfl) :
    PE X (.ListComp elt [⟨tg, iter, ifs, 0⟩] scope pos) (tLcX wi g tt te (own.map (·.2))) := by
  refine ⟨fun pins s σ H Q I h => ?_⟩
  rw [eval_ListComp]
  refine lcx_run hs hf tk hW hc hN I hi ok hg ht he hfs h fun D ce s' m H' J q hm fC => ⟨m, hm, fun h2 sb => ?_⟩
  obtain ⟨z0, z1, z2, z3, z4, z5⟩ := fC
  exact ⟨.ref D, H', J.turned (t' := s'.toks) (fun b o ne e => (sb.2 b ne).trans e) z0 z1 z3 z4 z5, rfl, q⟩
theorem ps_setLcX {i : Nat} {y : Str} {py spos : Pos} (hs : X.stack = X.env :: X.outer) (hf : X.env.frame = some X.env.locals) (tk : Takes X W) (hW : ∀ cls d σ H, E cls d H → W cls d σ H) (hc : X.calm = true) (hN : X.N.Nodup)
    (hy : X.N[i]? = some y) (hyl : X.env.scope.names.lookup y = some .local) (hsw : swapsWith (.ListComp elt [⟨tg, iter, ifs, 0⟩] scope pos) (some (.Name y py)) spos.line X.env = pure true) (hi : PI X tg iter wi) (ok : BlkOk X.N X.env.scope scope own)
    (hg : ∀ (s : Shared) (H : Hp) (C : Addr) (cl : List (Str × Addr)) (fp : List Addr), PG (X.blk s H scope (compEnvC scope cl C X.env) fp) tg g)
    (ht : ∀ (s : Shared) (H : Hp) (C : Addr) (cl : List (Str × Addr)) (fp : List Addr), PTs (X.blk s H scope (compEnvC scope cl C X.env) fp) ifs tt)
    (he : ItemOk X scope E elt te) (hfs : ∀ x, foldedSetIterable iter X.env x = pure x := by intro _; rfl) :
    PS X (.Assign [.Name y py] (.ListComp elt [⟨tg, iter, ifs, 0⟩] scope pos) spos) (tAsg (tLcX wi g tt te (own.map (·.2))) (gName i)) := by
  refine ⟨fun pins s σ H D I h => ?_⟩
  rw [exec_Assign_Name_used _ _ _ _ hsw]
  refine wpAny_bind (wpAny_standAt (wpAny_bind ?_))
  have h2 : tLc wi g tt te (own.map (·.2)) σ H (fun x H1 => gName i x σ H1 D.nx) := h
  show wpAny _ X.A (do let _ ← comprehension (.ListComp elt [⟨tg, iter, ifs, 0⟩] scope pos) scope X.env (firstIterPos [⟨tg, iter, ifs, 0⟩] pos) (newList []) false (eval iter X.env) (some (assign (.Name y py) X.env))) _ _ s
  refine wpAny_bind (thn (lcx_run (Qf := fun _ r => SP X pins D .next r) hs hf tk hW hc hN I hi ok hg ht he hfs h2 fun L ce s' m H' J q hm fC => ?_) fun _ _ hq => wpAny_pure (wpAny_pure hq))
  refine wpAny_assign_Name (store_ok2 (v := V.ref L) J hN hy (.inl hyl) rfl (fun s2 J2 ⟨a, sb, there⟩ => ?_) (.inr hyl))
  obtain ⟨z0, z1, z2, z3, z4, z5⟩ := fC
  have ne : ce.locals ≠ a := there.elim (fun z => by rw [z]; exact z1) fun z e => z4 y a z e.symm
  exact ⟨m, hm.sameBut sb ne, fun h3 sb3 => ⟨_, H', J2.turned (t' := s2.toks) (fun b o hb e => (sb3.2 b hb).trans e) z0 z1 z3 z4 z5, q⟩⟩
end
end CpX
namespace VL
open PySem PySem.Spec PyProof.Rows L2 XR CpX
section
variable {K : PySem.W.Frag} {B : Bs}
theorem wipe_state {as : List Addr} {γ : Env} {σ σ' : L2.St} {G H : Hp} {vs : List Nat} (S : StR K B as γ σ' G H) (h : L2.wipe σ' vs = L2.wipe σ vs) : StR K B as (γ.wipe vs) σ G H :=
  (S.wipe vs).rewipe (vs := vs) h.symm fun i r e => Env.wipe_none γ e
def vLcX (wi : Env → (Src → Env → Prop) → XQ → Prop) (wg : Rf → Env → (Env → Prop) → XQ → Prop) (wt : Env → (Bool → Env → Prop) → XQ → Prop) (we : VW) (vs : List Nat) : VW := fun γ Q X => wi γ (fun src γ1 =>
  LcI src γ1 vs (fun t γ2 N => wg (.val t) γ2 (fun γ3 => wt γ3 (fun c γ4 => br c (we γ4 (fun r γ5 => toT r γ5 fun t' γ6 => appQ γ1.mem.length t' γ6 N) (fun e γ5 => X e (γ5.wipe vs))) (N γ4)) noX) noX) Q) X
instance {E1 : XK} {wi : TI} {g : TG} {tt : TT} {te : TE} {vs is : List Nat} {vi : Env → (Src → Env → Prop) → XQ → Prop} {vg : Rf → Env → (Env → Prop) → XQ → Prop} {vt : Env → (Bool → Env → Prop) → XQ → Prop} {ve : VW} [hi : VI K B (fun _ => E1) wi vi] [hg : VG K B (fun _ => E1) g vg is] [ht : VT K B (fun _ => E1) tt vt] [he : VE K B (fun _ => E1) te ve] [hs : SubL is vs] :
    VE K B (fun _ => E1) (tLcX wi g tt te vs) (vLcX vi vg vt ve vs) where
  run := fun {as γ σ G H Q Qv Xv} S h k kx => by
    refine hi.run S h (fun src γ1 as1 G1 H1 J p1 g1 S1 ok q1 => ?_) kx
    intro Da hD
    obtain ⟨⟨I, ⟨γ0, le0, i0⟩, on, step, done⟩⟩ := q1
    have SD := (S1.alloc (t := .lst []) (o := .lst []) hD ⟨[], upd_same, .nil⟩)
    have lD : (as1 ++ [Da]).length = γ1.mem.length + 1 := by rw [List.length_append, S1.mlen]; rfl
    have aD : (as1 ++ [Da])[γ1.mem.length]? = some Da := by rw [← S1.mlen, List.getElem?_append_right (Nat.le_refl _), Nat.sub_self]; rfl
    obtain ⟨as0, G0, pp0, gg0, SS0⟩ := StR.le le0 (SD.wipe vs) (List.prefix_refl _) lD
    refine ⟨fun i m H' => m = src.ts.length - i ∧ i ≤ src.ts.length ∧ ∃ as' γ' G', as1 ++ [Da] <+: as' ∧ Same G1 G' ∧ StR K B as' γ' σ G' H' ∧ I i γ', ⟨_, rfl, Nat.zero_le _, as0, γ0, G0, pp0, gg0, SS0, i0⟩, ?_⟩
    rintro i m H' ⟨rfl, hi', as', γ', G', p', g', S', inv⟩
    have pq : as1 <+: as' := (List.prefix_append _ _).trans p'
    obtain ⟨go, stop, yld⟩ := ok pq g' S' (on i γ' inv)
    by_cases hlt : i < src.ts.length
    · refine .inr ⟨go i hlt, fun H'' => i + 1 ≤ src.ts.length ∧ ∃ as'' γ'' G'', as1 ++ [Da] <+: as'' ∧ Same G1 G'' ∧ StR K B as'' γ'' σ G'' H'' ∧ I (i + 1) γ'', fun H'' q => ⟨_, by omega, rfl, q.1, q.2⟩, fun x H'' hy => ?_⟩
      obtain ⟨G2, t, et, g2, S2, rp⟩ := yld i x H'' hlt hy
      have S2' : StR K B as' (γ'.wipe vs) (L2.wipe σ vs) G2 H'' := (S2.wipe vs).rewipe (vs := vs) (wipe_wipe σ vs) fun i r e => Env.wipe_none γ' e
      refine hg.run S2' (r := .val t) rp (step i t γ' et inv) (fun γ3 as3 σ3 G3 H3 p3 g3 S3 w3 q3 => ?_) kxno
      have ws : L2.wipe σ3 vs = L2.wipe σ vs := (w3 vs hs.h).trans (wipe_wipe σ vs)
      refine ⟨ws, ht.run S3 q3 (fun b γ4 as4 b' G4 H4 p4 g4 S4 e q4 => ?_) kxno⟩
      cases e
      have gG : Same G1 G4 := (g'.trans g2).trans (g3.trans g4)
      have pP : as1 ++ [Da] <+: as4 := p'.trans (p3.trans p4)
      have fin : ∀ {γ5 : Env} {as5 : List Addr} {G5 H5 : Hp}, Same G1 G5 → as1 ++ [Da] <+: as5 → StR K B as5 γ5 σ3 G5 H5 → (∃ γ6, Le (γ1.mem.length + 1) (γ5.wipe vs) γ6 ∧ I (i + 1) γ6) → i + 1 ≤ src.ts.length ∧ ∃ as'' γ'' G'', as1 ++ [Da] <+: as'' ∧ Same G1 G'' ∧ StR K B as'' γ'' σ G'' H5 ∧ I (i + 1) γ'' := by
        rintro γ5 as5 G5 H5 gg pp S5 ⟨γ6, le6, i6⟩
        obtain ⟨as7, G7, p7, g7, S7⟩ := StR.le le6 (wipe_state S5 ws) pp lD
        exact ⟨hlt, as7, γ6, G7, p7, gg.trans g7, S7, i6⟩
      cases b with
      | false => exact fin gG pP S4 q4
      | true =>
        refine he.run S4 q4 (fun r γ5 as5 v G5 H5 p5 g5 S5 rr5 q5 => ?_) fun e γ5 as5 d G5 H5 p5 g5 S5 er q5 => ?_
        · obtain ⟨t', γ6, G6, g6, S6, rp6, q6⟩ := toT_ok S5 rr5 q5
          have pp : as1 ++ [Da] <+: as5 := pP.trans p5
          obtain ⟨acc, e1, e2, γ7, S7, q7⟩ := app_ok S6 (pre_get pp aD) rp6 q6
          exact ⟨acc, e1, e2, fin (gG.trans (g5.trans g6)) pp S7 q7⟩
        · exact kx e _ as5 d G5 H5 (p1.trans ((List.prefix_append _ _).trans (pP.trans p5))) (g1.trans (gG.trans g5)) (wipe_state S5 ws) er q5
    · have e : i = src.ts.length := by omega
      subst e
      refine .inl ⟨stop, k (.ref γ1.mem.length) _ _ _ _ _ (p1.trans pq) (g1.trans g') S' ⟨Da, pre_get p' aD, rfl⟩ (done γ' inv)⟩
end
end VL
set_option Elab.async false
set_option linter.all false
set_option maxRecDepth 100000
set_option maxHeartbeats 4000000
/-! except without a name -/
namespace VL
open PySem PySem.Spec PyProof.Rows L2 XR
section
variable {K : PySem.W.Frag} {B : Bs} {E : L2.St → XK}
def tTryO (K : PySem.W.Frag) (c : Value) (ts : Addr → Value → Option Addr → TS) (tb : WX → TS) : TS := fun D σ H => tb (wOnly K c ts (fun _ _ _ _ => False) D) D σ H
theorem ps_tryO {X : Cx} {x : Str} {c : Value} {body suite : List Stmt} {b₀ : Stmt} {np pos pos' : Pos} {tb : WX → TS} {ts : Addr → Value → Option Addr → TS} (hs : X.stack = X.env :: X.outer) (hf : X.env.frame = some X.env.locals) (hc : Names X x c) (tk : Takes X (fun _ _ _ _ => False))
    (hb : ∀ (W : WX) (pn : List (Addr × Obj)) (xe : Value → Shared → Prop), Takes (X.tr pn xe) W → PassesOwn (model X.prog X.w) X.A X.env xe → PSs (X.tr pn xe) body (tb W))
    (hsu : ∀ (a : Addr) (oe : Obj) (cls : Value) (d : Option Addr) (pn : List (Addr × Obj)), Zc cls d oe → (∃ vs, oe.data = .fields vs) → PSs (X.suite a ((a, oe) :: pn)) (b₀ :: suite) (ts a cls d)) :
    PS X (.Try body [.ExceptHandler (some (.Name x np)) none (b₀ :: suite) pos'] [] [] pos) (tTryO X.K c ts tb) := ps_try_only hs hf hc tk hb hsu
def suiteO (D : VEnds) : VEnds := ⟨fun γ2 => D.nx γ2.noErr, rtE D.rt, fun γ2 => D.bk γ2.noErr, fun γ2 => D.ct γ2.noErr, noX⟩
def vTryO (K : PySem.W.Frag) (c : Value) (wb ws : VSW) : VSW := fun γ D => wb γ ⟨D.nx, D.rt, D.bk, D.ct, fun e γ1 => PySem.W.exmOne K (.ref e.1) c = some true ∧ ws γ1.noErr (suiteO D)⟩
instance {c : Value} {ts : Addr → Value → Option Addr → TS} {tb : WX → TS} {wb ws : VSW} [hb : ∀ W : WX, VS K B (WE W) (tb W) wb] [hs : ∀ (a : Addr) (cls : Value) (d : Option Addr), VS K (B.hot a cls d) E (ts a cls d) ws] : VS K B E (tTryO K c ts tb) (vTryO K c wb ws) where
  run := fun {as γ σ G H D Dv} S h k => by
    refine (hb _).run S h ⟨k.nx, k.bk, k.ct, k.rt, fun σ1 e γ1 as1 d G1 H1 p1 g1 S1 er q1 => ?_⟩
    obtain ⟨em, q1⟩ := q1
    refine ⟨true, em, fun _ a ha => ?_, fun z => by cases z⟩
    have S2 : StR K (B.hot a (.ref e.1) d) as1 γ1.noErr σ1 G1 H1 := S1.reex rfl rfl rfl
    have back : ∀ {γ2 : Env} {as2 : List Addr} {σ2 : L2.St} {G2 H2 : Hp}, StR K (B.hot a (.ref e.1) d) as2 γ2 σ2 G2 H2 → StR K B as2 γ2.noErr σ2 G2 H2 := fun {γ2 as2 σ2 G2 H2} S4 => S4.reex rfl rfl rfl
    refine (hs a (.ref e.1) d).run (Dv := suiteO Dv) S2 q1 ⟨fun γ2 as2 σ2 G2 H2 p2 g2 S4 q => ?_, fun γ2 as2 σ2 G2 H2 p2 g2 S4 q => ?_, fun γ2 as2 σ2 G2 H2 p2 g2 S4 q => ?_, fun σ2 r γ2 as2 v G2 H2 p2 g2 S4 rr q => ?_, fun σ2 => kxno⟩
    · exact k.nx _ _ _ _ _ (p1.trans p2) (g1.trans g2) (back S4) q
    · exact k.bk _ _ _ _ _ (p1.trans p2) (g1.trans g2) (back S4) q
    · exact k.ct _ _ _ _ _ (p1.trans p2) (g1.trans g2) (back S4) q
    · have S5 : StR K B as2 γ2.noErr σ2 G2 H2 := back S4
      cases r with
      | err D gs => exact q.elim
      | val t => exact k.rt σ2 (.val t) γ2.noErr as2 v G2 H2 (p1.trans p2) (g1.trans g2) S5 rr q
      | ref n => exact k.rt σ2 (.ref n) γ2.noErr as2 v G2 H2 (p1.trans p2) (g1.trans g2) S5 rr q
end
end VL
set_option Elab.async false
set_option linter.all false
set_option maxRecDepth 100000
set_option maxHeartbeats 4000000
/-! C.m(*xs), m a staticmethod with a star parameter -/
namespace XR
open PySem PySem.Spec PyProof.Rows L2
def tStatS (K : PySem.W.Frag) (C : Addr) (sp : Sp) (ES : L2.St → XK) (ta te : TE) : TE := fun σ H Q => ta σ H fun x H1 => x = .ref C ∧ te σ H1 fun y H2 => ∃ a xs, y = V.ref a ∧ (SqT K H2 a xs ∨ SqL K H2 a xs) ∧ sp xs H2 Q (ES σ)
section
variable {X : Cx} {CX : CXT} {k : Nat} {C p g : Addr} {sp : Sp} {m : Str} {o e : Expr} {apos pos sq : Pos} {ta te : TE} {ES : L2.St → XK}
theorem star_one {M : Model} {A : Around} {F : Value → Shared → Prop} {s : Shared} {env : Env} {Q : Value → Shared → Prop} (hb : attributeBase o m env (eval o env) = eval o env) (hst : starEach [.Starred e sq] env = [(true, eval e env)])
    (h : wpAny M A (eval o env) (fun ov s₁ => wpAny M A (getAttr ov m true) (fun f s₂ => wpAny M A (callWith pos f [] (backTo pos (starEach [.Starred e sq] env)) []) Q F s₂) F s₁) F s) : wpAny M A (eval (.Call (.Attribute o m apos) [.Starred e sq] [] pos) env) Q F s := by
  rw [hst] at h
  have f1 : methodCallForm ([Expr.Starred e sq].length + ([] : List Keyword).length) (backTo pos [(true, eval e env)]) [] = false := rfl
  have f2 : methodCallPos false o env apos pos = pure pos := rfl
  have f3 : ∀ ov, calleeOf false o env ov m = (getAttr ov m true >>= fun v => pure (v, [])) := fun _ => rfl
  rw [arm_eval_Call, hb, hst, show backToKw pos (keywordEach [] env) = [] from rfl]
  refine wpAny_bind (wpAny_mono h (fun ov s₁ q => wpAny_bind (wpAny_standAt ?_)) fun _ _ z => z)
  unfold methodCall
  rw [f1, f2, f3]
  refine wpAny_bind (wpAny_holding (wpAny_bind (wpAny_mono q (fun f s₂ q2 => wpAny_pure (wpAny_bind (wpAny_pure q2))) fun _ _ z => z)))
theorem attr_stat {pins : List (Addr × Obj)} {σ : L2.St} {H : Hp} {s : Shared} {b : Bool} {A : Around} {F : Value → Shared → Prop} {Q : Value → Shared → Prop} (I : Inv X pins σ H s) (r : CStat X.K C p g m) (h : ∀ s', Inv X pins σ H s' → Q (.ref g) s') :
    wpAny (model X.prog X.w) A (getAttr (.ref C) m b) Q F s := by
  obtain ⟨rest, hp⟩ := r.rc
  exact PySem.W.cls_bind I.kIn r.rd r.at_ (wpAny_call (PySem.W.sm_get (s := { s with toks := s.toks + 1 }) I.kIn hp (PySem.W.handed_on rfl (h _ (I.tok _)))))
theorem pe_statS {K : PySem.W.Frag} (ek : X.K = K) (ho : PE X o ta) (r : CStat X.K C p g m) (F : FnR X.prog X.w X.K X.mg X.base CX k g sp) (hr : Room k X.A) (hk : PySem.W.keepIn X.K (.ref g) = true) (hx : ∀ σ, PassesAt CX X σ (ES σ)) (he : PE X e te)
    (hst : starEach [.Starred e sq] X.env = [(true, eval e X.env)] := by rfl) (hb : attributeBase o m X.env (eval o X.env) = eval o X.env := by rfl) :
    PE X (.Call (.Attribute o m apos) [.Starred e sq] [] pos) (tStatS K C sp ES ta te) := by
  subst ek
  refine ⟨fun pins s σ H Q I h => ?_⟩
  refine star_one hb hst (thn (ho.run pins s σ H _ I h) fun u s1 ⟨x, H1, I1, rx, ex, q⟩ => ?_)
  subst ex
  obtain rfl : u = Value.ref C := rx
  refine attr_stat I1 r fun s2 I2 => ?_
  refine PySem.W.callWith_S (h₀ := X.base) I.ok.mod.kin hk (thn (he.run pins s2 σ H1 _ I2 q) fun v s3 ⟨y, H2, I3, ry, a, xs, ey, hxs, q2⟩ => ?_) hst
  subst ey
  obtain rfl : v = Value.ref a := ry
  exact StX.star_any I3 hxs fun us s4 I4 rv => ⟨I4.kIn, run_atR F hr rfl (hx σ) I4 rv q2⟩
end
end XR
namespace VL
open PySem PySem.Spec PyProof.Rows L2 XR
section
variable {K : PySem.W.Frag} {B : Bs} {E : L2.St → XK} {sp : Sp} {wf : List Rf → Env → RQ → XQ → Prop} [hf : VF K sp wf] {C : Addr}
theorem rrs_vals {ex : Addr × Value × Option Addr} {as : List Addr} {G : Hp} : ∀ {vs : List V} {ts : List T}, RpAll K G vs ts → RRs K ex as G (ts.map Rf.val) vs
  | _, _, .nil => .nil
  | _, _, .cons a b => .cons a (rrs_vals b)
def vStatS (C : Addr) (wf : List Rf → Env → RQ → XQ → Prop) (wo we : VW) : VW := fun γ Q X => wo γ (fun r γ1 => r = .val (.cls C) ∧ we γ1 (fun y γ2 => peek y γ2 fun u => seqT u fun _ ts => wf (ts.map Rf.val) γ2 Q X) X) X
instance {to te : TE} {wo we : VW} [ho : VE K B E to wo] [he : VE K B E te we] : VE K B E (tStatS K C sp E to te) (vStatS C wf wo we) where
  run := fun {as γ σ G H Q Qv Xv} S h k kx => by
    refine ho.run S h (fun r γ1 as1 v G1 H1 p1 g1 S1 rr1 q1 => ?_) kx
    obtain ⟨rfl, q1⟩ := q1
    have rr1 : Rp K G1 v (.cls C) := rr1
    cases rr1
    refine ⟨rfl, he.run S1 q1 (fun y γ2 as2 u G2 H2 p2 g2 S2 rr2 q2 => ?_) (kx.mono p1 g1)⟩
    obtain ⟨b, ts, a, acc, rfl, sq, rp, q3⟩ := peek_seq S2 rr2 q2
    refine ⟨a, acc, rfl, sq.or.symm, hf.run S2 (rrs_vals rp) q3 ((k.mono p1 g1).mono p2 g2) ((kx.mono p1 g1).mono p2 g2)⟩
end
end VL
set_option Elab.async false
set_option linter.all false
set_option maxRecDepth 100000
set_option maxHeartbeats 4000000
/-! x.split(sep), x.find(y), int(text) -/
namespace VL
open PySem PySem.Spec PyProof.Rows L2 XR
section
variable {K : PySem.W.Frag} {B : Bs} {E : L2.St → XK}
def rSplitS : V → List V → Hp → VK → Prop := fun x xs H Q => ∃ a b, x = .str a ∧ xs = [.str b] ∧ (b.length == 0) = false ∧ a.length + 2 ≤ sizeLine ∧ rNewStrs (Txt.split a b) H Q
def rFindS : V → List V → Hp → VK → Prop := fun x xs H Q => ∃ a b, x = .str a ∧ xs = [.str b] ∧ Q (.int (Txt.find a b)) H
theorem pe_splitS {X : Cx} {o e : Expr} {to te : TE} {apos pos : Pos} (ho : PE X o to) (he : PE X e te) (hs : starEach [e] X.env = [(false, eval e X.env)]) (hbase : attributeBase o "split" X.env (eval o X.env) = eval o X.env) (hline : (apos.endLine == pos.line) = true) :
    PE X (.Call (.Attribute o "split" apos) [e] [] pos) (tM1 rSplitS to te) := pe_split ho he hs hbase hline
theorem pe_findS {X : Cx} {o e : Expr} {to te : TE} {apos pos : Pos} (ho : PE X o to) (he : PE X e te) (hs : starEach [e] X.env = [(false, eval e X.env)]) (hbase : attributeBase o "find" X.env (eval o X.env) = eval o X.env) (hline : (apos.endLine == pos.line) = true) :
    PE X (.Call (.Attribute o "find" apos) [e] [] pos) (tM1 rFindS to te) := pe_m1 PySem.F.slot_str_find PySem.F.type_str_find mt_find ho he hs hbase hline
/-- the parts of a text, by its signs -/
def parts (sep : List Nat) (a : Str) : List Str := (TL.spl sep 0 [] a.cps.toList).map SX.S
theorem split_parts (a : Str) {sep : List Nat} (h : sep ≠ []) (k : sep.all (· < 256) = true) : Txt.split a (SX.S sep) = parts sep a := by
  have := SX.split_S (a := a.cps.toList) h k
  rw [SX.S_tl] at this
  exact this
theorem spl_mem {sep : List Nat} : ∀ (k : Nat) (acc l : List Nat) (p : List Nat), p ∈ TL.spl sep k acc l → ∀ c ∈ p, c ∈ acc ∨ c ∈ l
  | k, acc, [], p, h, c, hc => by
    rw [TL.spl_nil] at h
    rw [List.mem_singleton.mp h] at hc
    exact .inl hc
  | 0, acc, d :: r, p, h, c, hc => by
    unfold TL.spl at h
    split at h
    · rcases List.mem_cons.mp h with h | h
      · rw [h] at hc; exact .inl hc
      · rcases spl_mem _ [] r p h c hc with z | z
        · cases z
        · exact .inr (List.mem_cons_of_mem _ z)
    · rcases spl_mem 0 (acc ++ [d]) r p h c hc with z | z
      · rcases List.mem_append.mp z with z | z
        · exact .inl z
        · rw [List.mem_singleton.mp z]; exact .inr List.mem_cons_self
      · exact .inr (List.mem_cons_of_mem _ z)
  | k + 1, acc, d :: r, p, h, c, hc => by
    unfold TL.spl at h
    rcases spl_mem k acc r p h c hc with z | z
    · exact .inl z
    · exact .inr (List.mem_cons_of_mem _ z)
theorem strOk_parts {sep : List Nat} {a : Str} (h : PyData.strOk a = true) : ∀ y ∈ parts sep a, PyData.strOk y = true := fun y hy => by
  obtain ⟨p, hp, rfl⟩ := List.mem_map.mp hy
  have h : a.cps.all (· < 0x110000) = true := h
  rw [Array.all_eq_true_iff_forall_mem] at h
  show (p.toArray : Array Nat).all (· < 0x110000) = true
  rw [Array.all_eq_true_iff_forall_mem]
  intro c hc
  rcases spl_mem 0 [] _ p hp c (by simpa using hc) with z | z
  · cases z
  · exact h c (by simpa using z)
theorem strs_rp {G : Hp} : ∀ {ys : List Str}, (∀ y ∈ ys, PyData.strOk y = true) → RpAll K G (ys.map V.str) (ys.map T.str)
  | [], _ => .nil
  | y :: ys, h => .cons (.str y (h y List.mem_cons_self)) (strs_rp fun z hz => h z (List.mem_cons_of_mem _ hz))
def vSplitM : Rf → List Rf → VW := fun r rs γ Q _ => arg1 rs fun y => peek r γ fun t => match t with
  | .str a => peek y γ fun u => match u with
    | .str b => ∃ sep, b = SX.S sep ∧ (sep.isEmpty = false ∧ sep.all (· < 256) = true) ∧ a.length + 2 ≤ sizeLine ∧ γ.new (.lst ((parts sep a).map T.str)) Q
    | _ => False
  | _ => False
instance : VM K B E rSplitS vSplitM where
  run := fun {as γ σ G H x rx vs rs Q Qv Xv} S rr rrs h kk _ => by
    unfold vSplitM arg1 at h
    split at h
    · cases rrs with | cons a0 b =>
      cases b
      obtain ⟨t, h, z⟩ := peek_rp S rr h
      split at h
      · cases z with | str _ ok =>
        obtain ⟨u, h, z2⟩ := peek_rp S a0 h
        split at h
        · cases z2 with | str _ ok2 =>
          obtain ⟨sep, rfl, ⟨h1, h2⟩, h3, h4⟩ := h
          have hne : sep ≠ [] := fun e => by rw [e] at h1; cases h1
          refine ⟨_, SX.S sep, rfl, rfl, ?_, h3, fun p hp => ?_⟩
          · rw [SX.S_len]
            cases sep with
            | nil => exact absurd rfl hne
            | cons _ _ => rfl
          · rw [split_parts _ hne h2]
            exact knew kk S (strs_rp (strOk_parts ok)) h4 hp
        · exact h.elim
      · exact h.elim
    · exact h.elim
def vFindM : Rf → List Rf → VW := fun r rs γ Q _ => arg1 rs fun y => peek r γ fun t => match t with
  | .str a => peek y γ fun u => match u with
    | .str b => Q (.val (.int (Txt.find a b))) γ
    | _ => False
  | _ => False
instance : VM K B E rFindS vFindM where
  run := fun {as γ σ G H x rx vs rs Q Qv Xv} S rr rrs h kk _ => by
    unfold vFindM arg1 at h
    split at h
    · cases rrs with | cons a0 b =>
      cases b
      obtain ⟨t, h, z⟩ := peek_rp S rr h
      split at h
      · cases z with | str _ ok =>
        obtain ⟨u, h, z2⟩ := peek_rp S a0 h
        split at h
        · cases z2 with | str _ ok2 =>
          exact ⟨_, _, rfl, rfl, kval kk S (.int _) h⟩
        · exact h.elim
      · exact h.elim
    · exact h.elim
def rIntS : List V → Hp → VK → Prop := fun xs H Q => ∃ a n, xs = [.str a] ∧ PySem.intText? a = some n ∧ a.length ≤ 640 ∧ Q (.int n) H
theorem call_intS {X : Cx} : CallR X (.type "int") rIntS := call_int_str
def vIntS : List Rf → VW := fun rs γ Q _ => arg1 rs fun r => peek r γ fun t => match t with
  | .str a => ∃ n, PySem.intText? a = some n ∧ a.length ≤ 640 ∧ Q (.val (.int n)) γ
  | _ => False
instance : VC K B E rIntS vIntS where
  run := fun {as γ σ G H vs rs Q Qv Xv} S rr h k _ => by
    unfold vIntS arg1 at h
    split at h
    · cases rr with | cons r1 b =>
      cases b
      obtain ⟨t, h, z⟩ := peek_rp S r1 h
      split at h
      · cases z with | str _ ok =>
        obtain ⟨n, h1, h2, h3⟩ := h
        exact ⟨_, n, rfl, h1, h2, kval k S (.int _) h3⟩
      · exact h.elim
    · exact h.elim
end
end VL
set_option Elab.async false
set_option linter.all false
set_option maxRecDepth 100000
set_option maxHeartbeats 4000000
/-! several except clauses, each with a name -/
namespace TrN
open PySem PySem.Spec PyProof.Rows L2
abbrev Clause := Value × Nat × (Addr → Value → Option Addr → TS)
def endAs (i : Nat) (D : Ends) : Ends := { nx := fun τ G => D.nx (τ.set i none) G, rt := D.rt, bk := fun τ G => D.bk (τ.set i none) G, ct := fun τ G => D.ct (τ.set i none) G }
def wList (K : PySem.W.Frag) (Wout : WX) (D : Ends) : List Clause → WX
  | [] => Wout
  | (c, i, ts) :: r => fun cls d σ H => ∃ b, PySem.W.exmOne K cls c = some b ∧ (b = true → ∀ a, H a = none → ts a cls d (endAs i D) (σ.set i (some (.ref a))) H) ∧ (b = false → wList K Wout D r cls d σ H)
inductive Cls (X : Cx) : List ExceptHandler → List Clause → Prop
  | nil : Cls X [] []
  | cons {x n : Str} {c : Value} {i : Nat} {ts : Addr → Value → Option Addr → TS} {b₀ : Stmt} {suite : List Stmt} {np hp : Pos} {hds : List ExceptHandler} {l : List Clause} (hi : X.N[i]? = some n) (hln : X.env.kindOf n = some .local) (hc : Names X x c)
      (hsu : ∀ (a : Addr) (oe : Obj) (cls : Value) (d : Option Addr) (pn : List (Addr × Obj)), Zc cls d oe → (∃ vs, oe.data = .fields vs) → PSs (X.suite a ((a, oe) :: pn)) (b₀ :: suite) (ts a cls d)) (r : Cls X hds l) :
      Cls X (.ExceptHandler (some (.Name x np)) (some n) (b₀ :: suite) hp :: hds) ((c, i, ts) :: l)
section
variable {X : Cx} {Wout : WX} {D : Ends} {pins : List (Addr × Obj)} {σ : L2.St} {H : Hp} {sI s : Shared} {a : Addr} {B h3 : Heap} {cls : Value} {d : Option Addr}
theorem clauses (hs : X.stack = X.env :: X.outer) (hf : X.env.frame = some X.env.locals) (hN : X.N.Nodup) (tk : Takes X Wout) (J : Inv X pins σ H sI) (nb : ∀ b o, sI.heap.get? b = some o → b ∉ frs X.stack → B.get? b = some o)
    (up : sI.heap.UpToSlots h3) (os : s.os = sI.os) (ag : AllBare s.gens) (na : H a = none) (fly : HandSPX.FlyingZ B (X.env :: X.outer) a (Zc cls d) h3) :
    ∀ {hds : List ExceptHandler} {l : List Clause}, Cls X hds l → wList X.K Wout D l cls d σ H → wpAny (model X.prog X.w) X.A (handleBy (.ref a) X.env hds) (SP X pins D) X.xe { s with heap := h3 } := by
  have ok := J.ok
  have J3 : Inv X pins σ H { s with heap := h3 } := J.landed nb fly.1 up os ag
  obtain ⟨oe3, vs3, he3, hz3, hd3⟩ := fly.there
  have outF : a ∉ frs (X.env :: X.outer) := fun hm => by
    obtain ⟨_, o, q, nf⟩ := fly.2.2.1.mem hm
    rw [he3] at q; cases q
    exact nf _ hd3
  have nL : a ≠ X.env.locals := fun z => outF (List.mem_filterMap.mpr ⟨X.env, List.mem_cons_self, by rw [hf, z]⟩)
  have nF : a ∉ X.fs := fun hm => by
    obtain ⟨e, he, q⟩ := List.mem_filterMap.mp hm
    exact outF (List.mem_filterMap.mpr ⟨e, List.mem_cons_of_mem _ he, q⟩)
  intro hds l hk
  induction hk with
  | nil =>
    intro w
    refine wpAny_handleBy_nil ?_
    obtain ⟨k1, k2, k3, oe, vs, T, oT, ts, he, hz, hd, h1, hr⟩ := id fly
    unfold PySem.passOn
    refine wpAny_bind (wpAny_field he hd h1 ?_)
    rw [if_neg (show ¬ ((Value.ref T == Value.none) = true) from by simp)]
    have fin : wpAny (model X.prog X.w) X.A (setFlight (.ref a) X.env.frame) (fun _ s4 => wpAny (model X.prog X.w) X.A (throw (.ref a) : Sem Flow) (SP X pins D) X.xe s4) X.xe { s with heap := h3 } := by
      rw [hf]
      refine HandSPX.setFlight_upZ fly fun h4 hh4 up4 => wpAny_throw (tk _ _ ?_)
      exact ⟨a, B, sI, pins, σ, H, cls, d, rfl, J, nb, up.trans up4, .inr (.inr (by rw [hs]; exact hh4)), na, os, ag, w⟩
    first
      | exact wpAny_bind (wpAny_pure (wpAny_bind fin))
      | exact wpAny_bind fin
  | @cons x n c i ts b₀ suite np hp hds2 l2 hi hln hc hsu r ih =>
    intro w
    obtain ⟨b, hb, yes, no⟩ := w
    have S3 := J3.suite he3 hd3 na nL nF
    refine wpAny_handleBy_cons (codeAny_handlers_test ?_) (by intro q; cases q)
    have looks : PySem.W.Looks (model X.prog X.w) h3 (typeOf (.ref a)) cls := fun A Q E s k q => wpAny_typeOf_ref (k _ _ he3) (by rw [hz3.1]; exact q)
    have match_ := PySem.W.exm_one (M := model X.prog X.w) J3.kIn looks hb
    have test : ∀ {Q : Value → Shared → Prop} {F : Value → Shared → Prop}, Q c { s with heap := h3 } → wpAny (model X.prog X.w) (X.A.mark (some (.ref a))) (eval (.Name x np) X.env) Q F { s with heap := h3 } := fun {Q F} q => by
      obtain ⟨hg, hdb, hm | ⟨hm, hv, hnn⟩⟩ := hc
      · exact ld_glob (X := X.suite a ((a, oe3) :: (X.pn ++ pins))) S3 hg hm q hdb
      · exact ld_blt (X := X.suite a ((a, oe3) :: (X.pn ++ pins))) S3 hg hm hv q hnn hdb
    refine test (match_.here ?_)
    cases b with
    | false => exact ih (no rfl)
    | true =>
      refine codeAny_handlers_suite_as ?_
      refine HandSPX.lands_againZ fly fun h4 fly4 up4 => ?_
      have J4 : Inv X pins σ H { s with heap := h4 } := J.landed nb fly4.1 (up.trans up4) os ag
      obtain ⟨oe4, vs4, he4, hz4, hd4⟩ := fly4.there
      have S4 := J4.suite he4 hd4 na nL nF
      refine store_ok (X := X.suite a ((a, oe4) :: (X.pn ++ pins))) (v := .ref a) S4 hN hi (.inl hln) rfl (fun s5 S5 => ?_) (.inr hln)
      refine wpAny_mono ((hsu a oe4 cls d (X.pn ++ pins) hz4 ⟨_, hd4⟩).run [] s5 _ H _ S5 (yes rfl a na)) (fun f s6 done => ?_) (fun _ _ z => False.elim z)
      have gone : ∀ {τ : L2.St} {G : Hp} {Q : Shared → Prop}, Inv (X.suite a ((a, oe4) :: (X.pn ++ pins))) [] τ G s6 → (∀ s7, Inv X pins (τ.set i none) G s7 → Q s7) →
          wpAny (model X.prog X.w) X.A (do bindName X.env n .none; unbindBehindTheSuite X.env n hp) (fun _ s7 => Q s7) X.xe s6 := fun {τ G Q} S6 hq => gone_ok (S6.unsuite ok) hN hi hln hq
      cases f with
      | ret u =>
        obtain ⟨v6, τ, G, S6, r6, q6⟩ := done
        exact gone S6 fun s7 J7 => ⟨_, _, _, J7, r6, q6⟩
      | next =>
        obtain ⟨τ, G, S6, q6⟩ := done
        exact gone S6 fun s7 J7 => ⟨_, _, J7, q6⟩
      | brk =>
        obtain ⟨τ, G, S6, q6⟩ := done
        exact gone S6 fun s7 J7 => ⟨_, _, J7, q6⟩
      | cont =>
        obtain ⟨τ, G, S6, q6⟩ := done
        exact gone S6 fun s7 J7 => ⟨_, _, J7, q6⟩
end
section
variable {X : Cx} {Wout : WX} {body : List Stmt} {h₀ : ExceptHandler} {hds : List ExceptHandler} {l : List Clause} {pos : Pos} {tb : WX → TS}
theorem ps_tryN (hs : X.stack = X.env :: X.outer) (hf : X.env.frame = some X.env.locals) (hN : X.N.Nodup) (tk : Takes X Wout)
    (hb : ∀ (W : WX) (pn : List (Addr × Obj)) (xe : Value → Shared → Prop), Takes (X.tr pn xe) W → PassesOwn (model X.prog X.w) X.A X.env xe → PSs (X.tr pn xe) body (tb W)) (hk : Cls X (h₀ :: hds) l) :
    PS X (.Try body (h₀ :: hds) [] [] pos) (fun D σ H => tb (wList X.K Wout D l) D σ H) := by
  refine ⟨fun pins s σ H D I h => ?_⟩
  have ok := I.ok
  have hfr : X.A.frames = some (X.env :: X.outer) := by rw [ok.frames, hs]
  refine wpAny_Try_except ?_
  have run := (hb (wList X.K Wout D l) (X.pn ++ pins) (fun e s₁ => wpAny (model X.prog X.w) X.A (noteFrame e X.env) (fun _ s₂ => wpAny (model X.prog X.w) X.A (setFlight e none) (fun _ s₃ =>
    wpAny (model X.prog X.w) X.A (handleBy e X.env (h₀ :: hds)) (SP X pins D) X.xe s₃) X.xe s₂) X.xe s₁) (fun u s' air => ?_) PassesOwn.looking).run [] s σ H D (I.toTry _) h
  · refine wpAny_mono run (fun f s1 done => ?_) (fun _ _ z => z)
    cases f with
    | ret u =>
      obtain ⟨v, τ, G, J, r, q⟩ := done
      exact ⟨v, τ, G, J.ofTry ok, r, q⟩
    | next =>
      obtain ⟨τ, G, J, q⟩ := done
      exact wpAny_execs_nil ⟨τ, G, J.ofTry ok, q⟩
    | brk =>
      obtain ⟨τ, G, J, q⟩ := done
      exact ⟨τ, G, J.ofTry ok, q⟩
    | cont =>
      obtain ⟨τ, G, J, q⟩ := done
      exact ⟨τ, G, J.ofTry ok, q⟩
  · obtain ⟨a, B, sI, pins', τ, G, cls, d, rfl, J', nb, up, sky, na, os, ag, w⟩ := air
    have J : Inv X pins τ G sI := J'.ofTry ok
    have sky' : Sky B (X.env :: X.outer) a (Zc cls d) X.env.locals s'.heap := by rw [← hs]; exact sky
    show wpAny (model X.prog X.w) X.A (noteFrame (.ref a) X.env) _ _ _
    exact Sky.land Zc.steady hfr hf sky' fun h3 fly up3 => clauses hs hf hN tk J nb (up.trans up3) os ag na fly hk w
end
end TrN
set_option Elab.async false
set_option linter.all false
set_option maxRecDepth 100000
set_option maxHeartbeats 4000000
/-! try with two named clauses, classmethods called at their class, cls(..) in them: rules and readings -/
namespace XR
open PySem PySem.Spec PyProof.Rows L2
/-- C.m(..), m a classmethod; E told at the caller's slots -/
def tCMethS (C : Addr) (sp : Sp) (ES : L2.St → XK) (ta : TE) (t : TA) : TE := fun σ H Q => ta σ H fun x H1 => x = .ref C ∧ t σ H1 fun vs H2 => sp (.ref C :: vs) H2 Q (ES σ)
/-- x(..), slot i holds the class at C -/
def tMakeV (i : Nat) (C : Addr) (sp : Sp) (E : XK) (t : TA) : TE := fun σ H Q => σ[i]? = some (some (.ref C)) ∧ tMake C sp [] E t σ H Q
section
variable {X : Cx} {CX : CXT} {k i : Nat} {C p g f : Addr} {mc : Value} {fd : FuncData} {ps : List Str} {sp : Sp} {ES : L2.St → XK} {E : XK} {o e : Expr} {es : List Expr} {m x : Str} {pos apos np : Pos} {ta : TE} {t : TA} {pl : Sem Bool}
theorem run_codeR {A : Around} {pins : List (Addr × Obj)} {σ : L2.St} {H : Hp} {s : Shared} {Q : VK} {us : List Value} {vs : List V} {F0 : XK} (F : FnR X.prog X.w X.K X.mg X.base CX k g sp) (hr : Room k A) (hA : A.frames = X.A.frames) (hx : PassesAt CX X σ F0)
    (I : Inv X pins σ H s) (r : Vals vs us) (h : sp vs H Q F0) : codeAny (model X.prog X.w) A (.call (.ref g) { pos := us, kw := [] }) (fun r s' => match r with
      | .ok (.ret v) => EP X pins σ Q v s'
      | .ok _ => False
      | .error e => X.xe e s') s := by
  have e0 : Env0 X.prog X.w X.K X.mg X.base A X.stack s H := by
    have e := I.env0
    exact ⟨by rw [hA]; exact e.frames, e.mod, e.bs, e.bsz, e.funs, e.frf, e.hok, e.bare⟩
  refine codeAny_mono (F A X.stack s H us vs Q F0 hr e0 r h) fun r s' hq => ?_
  match r, hq with
  | .error e, hq => exact hx pins H s e s' I hq
  | .ok (.ret u), hq => exact I.after hq
  | .ok .next, hq => exact hq
  | .ok .brk, hq => exact hq
  | .ok .cont, hq => exact hq
theorem pe_cmethS (ho : PE X o ta) (r : ClX.CRead X.K C mc) (c : ClX.CMet X.K C mc m p g) (F : FnR X.prog X.w X.K X.mg X.base CX k g sp) (hr : Room k X.A) (hx : ∀ σ, PassesAt CX X σ (ES σ)) (ha : PA X (e :: es) t)
    (hst : starEach (e :: es) X.env = (false, eval e X.env) :: starEach es X.env := by rfl) (hpl : (backTo pos (starEach es X.env)).any (·.1) = false := by rfl)
    (ht : eval (.Call (.Attribute o m apos) (e :: es) [] pos) X.env = (do
      let ov ← eval o X.env
      standAt apos.atName
      let (f, first) ← holding [ov] (getMethod ov m pl)
      callWith pos f first (backTo pos (starEach (e :: es) X.env)) (backToKw pos (keywordEach [] X.env))) := by rfl) :
    PE X (.Call (.Attribute o m apos) (e :: es) [] pos) (tCMethS C sp ES ta t) := by
  refine ⟨fun pins s σ H Q I h => ?_⟩
  refine PySem.W.methodCall_KW (pl := pl) (thn (ho.run pins s σ H _ I h) fun u s1 ⟨y, H1, I1, ry, ey, q⟩ => ?_) ht
  subst ey
  obtain rfl : u = Value.ref C := ry
  refine ClX.getmethcm_ok I1 r c fun s2 I2 => ?_
  refine ClX.callwith_cm I2 (ClX.base_none I1 (Nat.le_refl _)) c.fi (thn (ha.run pos _ s2 σ H1 _ I2 q) fun us s3 ⟨vs, H2, I3, rv, q2⟩ => ⟨⟨ClX.pin_at I3, I3.kIn⟩, ?_⟩) hst hpl
  have z := wpAny_call (PySem.W.method_call (ClX.pin_at I3) (run_codeR (us := .ref C :: us) (vs := .ref C :: vs) F hr rfl (hx σ) I3 (.cons rfl rv) q2))
  exact thn z fun _ _ w => ClX.unpinE w
theorem pe_makeV (M : Mk X.K C f) (F : FnOk X.prog X.w X.K X.mg X.base CX k f fd ps sp) (hr : Room (k + 1) X.A) (hN : X.N[i]? = some x) (hv : Vis X.env.scope x) (hb : Binds X.K fd ps []) (hx : Passes CX X E) (ha : PA X (e :: es) t)
    (hdb : (x == ("__debug__" : Str)) = false := by decide) (hcd : (x == ("__classdict__" : Str)) = false := by decide)
    (he : starEach (e :: es) X.env = (false, eval e X.env) :: starEach es X.env := by rfl) (hpl : (backTo pos (starEach es X.env)).any (·.1) = false := by rfl) : PE X (.Call (.Name x np) (e :: es) [] pos) (tMakeV i C sp E t) := by
  refine ⟨fun pins s σ H Q I h => ?_⟩
  obtain ⟨hs, h⟩ := h
  refine wpAny_Call_Name_kw (thn ((pe_var (pos := np) hN hv hdb hcd).run pins s σ H (fun v H1 => v = .ref C ∧ H1 = H) I ⟨.ref C, hs, rfl, rfl⟩) fun u s1 ⟨v, H1, I1, r1, q1⟩ => ?_)
  obtain ⟨rfl, rfl⟩ := q1
  cases r1
  refine PySem.W.callWith_K (h₀ := X.base) I.ok.mod.kin M.kp (thn (ha.run pos pins s1 σ _ _ I1 h) fun us s2 ⟨vs, H2, I2, r, q⟩ => ⟨I2.kIn, ?_⟩) he hpl
  exact run_make M F hr hb .nil hx I2 r q
end
end XR
namespace VL
open PySem PySem.Spec PyProof.Rows L2 XR
section
variable {K : PySem.W.Frag} {B : Bs} {E : L2.St → XK}
def tTry2 (K : PySem.W.Frag) (c1 : Value) (i1 : Nat) (ts1 : Addr → Value → Option Addr → TS) (c2 : Value) (i2 : Nat) (ts2 : Addr → Value → Option Addr → TS) (tb : WX → TS) : TS := fun D σ H => tb (TrN.wList K (fun _ _ _ _ => False) D [(c1, i1, ts1), (c2, i2, ts2)]) D σ H
theorem ps_try2 {X : Cx} {body : List Stmt} {h₀ : ExceptHandler} {hds : List ExceptHandler} {c1 c2 : Value} {i1 i2 : Nat} {ts1 ts2 : Addr → Value → Option Addr → TS} {pos : Pos} {tb : WX → TS} (hs : X.stack = X.env :: X.outer) (hf : X.env.frame = some X.env.locals) (hN : X.N.Nodup) (tk : Takes X (fun _ _ _ _ => False))
    (hb : ∀ (W : WX) (pn : List (Addr × Obj)) (xe : Value → Shared → Prop), Takes (X.tr pn xe) W → PassesOwn (model X.prog X.w) X.A X.env xe → PSs (X.tr pn xe) body (tb W)) (hk : TrN.Cls X (h₀ :: hds) [(c1, i1, ts1), (c2, i2, ts2)]) :
    PS X (.Try body (h₀ :: hds) [] [] pos) (tTry2 X.K c1 i1 ts1 c2 i2 ts2 tb) := TrN.ps_tryN hs hf hN tk hb hk
def vTry2 (K : PySem.W.Frag) (c1 : Value) (i1 : Nat) (w1 : VSW) (c2 : Value) (i2 : Nat) (w2 : VSW) (wb : VSW) : VSW := fun γ D => wb γ ⟨D.nx, D.rt, D.bk, D.ct, fun e γ1 => ∃ b, PySem.W.exmOne K (.ref e.1) c1 = some b ∧
  br b (w1 (γ1.noErr.set i1 (.err e.1 e.2)) (suiteE i1 D)) (PySem.W.exmOne K (.ref e.1) c2 = some true ∧ w2 (γ1.noErr.set i2 (.err e.1 e.2)) (suiteE i2 D))⟩
/-- a clause's suite runs -/
theorem suite_run {a : Addr} {D0 : Addr} {gs : List (Str × T)} {d : Option Addr} {i : Nat} {ts : TS} {ws : VSW} {D : Ends} {Dv : VEnds} {as1 : List Addr} {γ1 : Env} {σ1 : L2.St} {G1 H1 : Hp} (hs : VS K (B.hot a (.ref D0) d) E ts ws) (S1 : StR K B as1 γ1 σ1 G1 H1) (er : ErrF K G1 d gs) (q1 : ws (γ1.noErr.set i (.err D0 gs)) (suiteE i Dv))
    (knx : ∀ (γ2 : Env) (as2 : List Addr) (σ2 : L2.St) (G2 H2 : Hp), as1 <+: as2 → Same G1 G2 → StR K B as2 γ2 σ2 G2 H2 → Dv.nx γ2 → D.nx σ2 H2) (kbk : ∀ (γ2 : Env) (as2 : List Addr) (σ2 : L2.St) (G2 H2 : Hp), as1 <+: as2 → Same G1 G2 → StR K B as2 γ2 σ2 G2 H2 → Dv.bk γ2 → D.bk σ2 H2)
    (kct : ∀ (γ2 : Env) (as2 : List Addr) (σ2 : L2.St) (G2 H2 : Hp), as1 <+: as2 → Same G1 G2 → StR K B as2 γ2 σ2 G2 H2 → Dv.ct γ2 → D.ct σ2 H2)
    (krt : ∀ (σ2 : L2.St) (r : Rf) (γ2 : Env) (as2 : List Addr) (v : V) (G2 H2 : Hp), as1 <+: as2 → Same G1 G2 → StR K B as2 γ2 σ2 G2 H2 → RR K B.ex as2 G2 r v → Dv.rt r γ2 → D.rt v H2) :
    ts (TrN.endAs i D) (σ1.set i (some (.ref a))) H1 := by
  have S2 : StR K (B.hot a (.ref D0) d) as1 γ1.noErr σ1 G1 H1 := S1.reex rfl rfl rfl
  have S3 := S2.store (r := .err D0 gs) (v := .ref a) ⟨rfl, rfl, er⟩ i
  have back : ∀ {γ2 : Env} {as2 : List Addr} {σ2 : L2.St} {G2 H2 : Hp}, StR K (B.hot a (.ref D0) d) as2 γ2 σ2 G2 H2 → StR K B as2 (γ2.unset i).noErr (σ2.set i none) G2 H2 := fun {γ2 as2 σ2 G2 H2} S4 => by
    have S5 := (S4.unset i).slots (σ' := σ2.set i none) (by simp) fun j r e => by
      have e : (γ2.sl.set i none)[j]? = some (some r) := e
      by_cases hj : j = i
      · subst hj
        rcases Nat.lt_or_ge j γ2.sl.length with z | z
        · rw [List.getElem?_set_self z] at e; cases e
        · rw [List.getElem?_eq_none (by simpa using z)] at e; cases e
      · rw [List.getElem?_set_ne (Ne.symm hj)]
    exact S5.reex rfl rfl rfl
  refine hs.run (Dv := suiteE i Dv) S3 q1 ⟨fun γ2 as2 σ2 G2 H2 p2 g2 S4 q => knx _ _ _ _ _ p2 g2 (back S4) q, fun γ2 as2 σ2 G2 H2 p2 g2 S4 q => kbk _ _ _ _ _ p2 g2 (back S4) q, fun γ2 as2 σ2 G2 H2 p2 g2 S4 q => kct _ _ _ _ _ p2 g2 (back S4) q, fun σ2 r γ2 as2 v G2 H2 p2 g2 S4 rr q => ?_, fun σ2 => kxno⟩
  have S5 : StR K B as2 γ2.noErr σ2 G2 H2 := S4.reex rfl rfl rfl
  cases r with
  | err D gs => exact q.elim
  | val t => exact krt σ2 (.val t) γ2.noErr as2 v G2 H2 p2 g2 S5 rr q
  | ref n => exact krt σ2 (.ref n) γ2.noErr as2 v G2 H2 p2 g2 S5 rr q
instance {c1 c2 : Value} {i1 i2 : Nat} {ts1 ts2 : Addr → Value → Option Addr → TS} {tb : WX → TS} {wb w1 w2 : VSW} [hb : ∀ W : WX, VS K B (WE W) (tb W) wb] [h1 : ∀ (a : Addr) (cls : Value) (d : Option Addr), VS K (B.hot a cls d) E (ts1 a cls d) w1] [h2 : ∀ (a : Addr) (cls : Value) (d : Option Addr), VS K (B.hot a cls d) E (ts2 a cls d) w2] :
    VS K B E (tTry2 K c1 i1 ts1 c2 i2 ts2 tb) (vTry2 K c1 i1 w1 c2 i2 w2 wb) where
  run := fun {as γ σ G H D Dv} S h k => by
    refine (hb _).run S h ⟨k.nx, k.bk, k.ct, k.rt, fun σ1 e γ1 as1 d G1 H1 p1 g1 S1 er q1 => ?_⟩
    obtain ⟨b, em, q1⟩ := q1
    refine ⟨b, em, fun eb a ha => ?_, fun eb => ?_⟩
    · subst eb
      exact suite_run (h1 a (.ref e.1) d) S1 er q1 (fun γ2 as2 σ2 G2 H2 p2 g2 => k.nx γ2 as2 σ2 G2 H2 (p1.trans p2) (g1.trans g2)) (fun γ2 as2 σ2 G2 H2 p2 g2 => k.bk γ2 as2 σ2 G2 H2 (p1.trans p2) (g1.trans g2)) (fun γ2 as2 σ2 G2 H2 p2 g2 => k.ct γ2 as2 σ2 G2 H2 (p1.trans p2) (g1.trans g2)) (fun σ2 r γ2 as2 v G2 H2 p2 g2 => k.rt σ2 r γ2 as2 v G2 H2 (p1.trans p2) (g1.trans g2))
    · subst eb
      refine ⟨true, q1.1, fun _ a ha => ?_, fun z => by cases z⟩
      exact suite_run (h2 a (.ref e.1) d) S1 er q1.2 (fun γ2 as2 σ2 G2 H2 p2 g2 => k.nx γ2 as2 σ2 G2 H2 (p1.trans p2) (g1.trans g2)) (fun γ2 as2 σ2 G2 H2 p2 g2 => k.bk γ2 as2 σ2 G2 H2 (p1.trans p2) (g1.trans g2)) (fun γ2 as2 σ2 G2 H2 p2 g2 => k.ct γ2 as2 σ2 G2 H2 (p1.trans p2) (g1.trans g2)) (fun σ2 r γ2 as2 v G2 H2 p2 g2 => k.rt σ2 r γ2 as2 v G2 H2 (p1.trans p2) (g1.trans g2))
/-! ### C.m(..) of a classmethod, cls(..) -/
section
variable {sp : Sp} {wf : List Rf → Env → RQ → XQ → Prop} [hf : VF K sp wf] {C : Addr} {to : TE} {t : TA} {wo : VW} {wa : Env → (List Rf → Env → Prop) → XQ → Prop}
def vCMeth0 (C : Addr) (wf : List Rf → Env → RQ → XQ → Prop) (wo : VW) (wa : Env → (List Rf → Env → Prop) → XQ → Prop) : VW := fun γ Q X => wo γ (fun r γ1 => r = .val (.cls C) ∧ wa γ1 (fun rs γ2 => wf (.val (.cls C) :: rs) γ2 Q noX) X) X
def vCMeth (C : Addr) (wf : List Rf → Env → RQ → XQ → Prop) (wo : VW) (wa : Env → (List Rf → Env → Prop) → XQ → Prop) : VW := fun γ Q X => wo γ (fun r γ1 => r = .val (.cls C) ∧ wa γ1 (fun rs γ2 => wf (.val (.cls C) :: rs) γ2 Q X) X) X
instance [ho : VE K B E to wo] [ha : VA K B E t wa] : VE K B E (tCMethS C sp (fun _ => E0) to t) (vCMeth0 C wf wo wa) where
  run := fun {as γ σ G H Q Qv Xv} S h k kx => by
    refine ho.run S h (fun r γ1 as1 v G1 H1 p1 g1 S1 rr1 q1 => ?_) kx
    obtain ⟨rfl, q1⟩ := q1
    have rr1 : Rp K G1 v (.cls C) := rr1
    cases rr1
    refine ⟨rfl, ha.run S1 q1 (fun rs γ2 as2 vs G2 H2 p2 g2 S2 rr2 q2 => ?_) (kx.mono p1 g1)⟩
    exact hf.run S2 (.cons (show RR K B.ex as2 G2 (.val (.cls C)) (.ref C) from Rp.cls C) rr2) q2 ((k.mono p1 g1).mono p2 g2) kxno
instance [ho : VE K B E to wo] [ha : VA K B E t wa] : VE K B E (tCMethS C sp E to t) (vCMeth C wf wo wa) where
  run := fun {as γ σ G H Q Qv Xv} S h k kx => by
    refine ho.run S h (fun r γ1 as1 v G1 H1 p1 g1 S1 rr1 q1 => ?_) kx
    obtain ⟨rfl, q1⟩ := q1
    have rr1 : Rp K G1 v (.cls C) := rr1
    cases rr1
    refine ⟨rfl, ha.run S1 q1 (fun rs γ2 as2 vs G2 H2 p2 g2 S2 rr2 q2 => ?_) (kx.mono p1 g1)⟩
    exact hf.run S2 (.cons (show RR K B.ex as2 G2 (.val (.cls C)) (.ref C) from Rp.cls C) rr2) q2 ((k.mono p1 g1).mono p2 g2) ((kx.mono p1 g1).mono p2 g2)
def vMakeV (i : Nat) (C : Addr) (wf : List Rf → Env → RQ → XQ → Prop) (wa : Env → (List Rf → Env → Prop) → XQ → Prop) : VW := fun γ Q X => γ.sl[i]? = some (some (.val (.cls C))) ∧ vMake C wf wa γ Q X
instance {E1 : XK} {i : Nat} [ha : VA K B (fun _ => E1) t wa] : VE K B (fun _ => E1) (tMakeV i C sp E1 t) (vMakeV i C wf wa) where
  run := fun {as γ σ G H Q Qv Xv} S h k kx => by
    obtain ⟨e, h⟩ := h
    obtain ⟨v, e2, rp⟩ := S.sl i _ e
    have rp : Rp K G v (.cls C) := rp
    cases rp
    exact ⟨e2, VE.run (K := K) (B := B) (E := fun _ => E1) (t := tMake C sp [] E1 t) (w := vMake C wf wa) S h k kx⟩
end
end
end VL
set_option Elab.async false
set_option linter.all false
set_option maxRecDepth 100000
set_option maxHeartbeats 4000000
set_option synthInstance.maxSize 1000000
set_option synthInstance.maxHeartbeats 4000000
namespace Toy
open PySem L2 XR VL
def top (i : Nat) : Stmt := PySem.Challenge.pw_fittingpasts_k31_rule_texts.main.body.getD i (.Pass ⟨0, 0, 0, 0⟩)
abbrev s__wall : Stmt := top 0
abbrev s_InvalidText_init : Stmt := inClass (top 6) 0
abbrev s_InvalidRule_init : Stmt := inClass (top 7) 0
abbrev s_is_term : Stmt := top 10
abbrev s_all_terms : Stmt := top 11
abbrev s__read_term : Stmt := top 12
abbrev s_Rule_init : Stmt := inClass (top 13) 0
abbrev s_Rule___eq__ : Stmt := inClass (top 13) 1
abbrev s_Rule___str__ : Stmt := inClass (top 13) 2
abbrev s_Rule___call__ : Stmt := inClass (top 13) 3
abbrev s_Rule___neg__ : Stmt := inClass (top 13) 4
abbrev s_Rule___add__ : Stmt := inClass (top 13) 5
abbrev s_Rule_compare : Stmt := inClass (top 13) 6
abbrev s_Rule_direction_of : Stmt := inClass (top 13) 7
abbrev s_Rule_mark_order : Stmt := inClass (top 13) 8
abbrev s_Rule_plain : Stmt := inClass (top 13) 9
abbrev s_Rule_read : Stmt := inClass (top 13) 10
abbrev s_all_rules : Stmt := top 14
abbrev s__law_box : Stmt := top 16
abbrev s__law_take : Stmt := top 17
abbrev s__law_integer : Stmt := top 18
abbrev s__law_sign : Stmt := top 19
abbrev s__law_words : Stmt := top 20
abbrev s__law_changed : Stmt := top 21
abbrev s__law_reading : Stmt := top 22
abbrev s__law_is_rule : Stmt := top 23
abbrev s__law_read_right : Stmt := top 24
abbrev s__law_full : Stmt := top 25
abbrev s__law_all_right : Stmt := top 26
abbrev s_law : Stmt := top 27
/-- where the defs and classes of the text stand -/
structure Ad where
  a_InvalidText_init : Addr
  d_InvalidText_init : FuncData
  a_InvalidRule_init : Addr
  d_InvalidRule_init : FuncData
  a_is_term : Addr
  d_is_term : FuncData
  a_all_terms : Addr
  d_all_terms : FuncData
  a__read_term : Addr
  d__read_term : FuncData
  a_Rule_init : Addr
  d_Rule_init : FuncData
  a_Rule___eq__ : Addr
  d_Rule___eq__ : FuncData
  a_Rule___str__ : Addr
  d_Rule___str__ : FuncData
  a_Rule_read : Addr
  d_Rule_read : FuncData
  a_all_rules : Addr
  d_all_rules : FuncData
  a__law_box : Addr
  d__law_box : FuncData
  a__law_take : Addr
  d__law_take : FuncData
  a__law_integer : Addr
  d__law_integer : FuncData
  a__law_sign : Addr
  d__law_sign : FuncData
  a__law_words : Addr
  d__law_words : FuncData
  a__law_changed : Addr
  d__law_changed : FuncData
  a__law_reading : Addr
  d__law_reading : FuncData
  a__law_is_rule : Addr
  d__law_is_rule : FuncData
  a__law_read_right : Addr
  d__law_read_right : FuncData
  a__law_full : Addr
  d__law_full : FuncData
  a__law_all_right : Addr
  d__law_all_right : FuncData
  a_law : Addr
  d_law : FuncData
  c_ArchiveError : Addr
  c_UnknownError : Addr
  c_TextError : Addr
  c_ImpossibleError : Addr
  c_InvalidText : Addr
  c_InvalidRule : Addr
  c_Rule : Addr
  p_Rule_read : Addr
structure Txt (K : PySem.W.Frag) (mg : Str → Option Value) (D : Ad) : Prop where
  F_InvalidText_init : Fun K "__init__" "InvalidText.__init__" s_InvalidText_init D.a_InvalidText_init D.d_InvalidText_init
  b_InvalidText_init : Binds K D.d_InvalidText_init ["self", "text"] []
  m_InvalidText_init : PySem.W.findIn K (.ref D.c_InvalidText) "__init__" = some (some (.ref D.a_InvalidText_init))
  i_InvalidText_init : PySem.W.isFn K (.ref D.a_InvalidText_init) = true
  F_InvalidRule_init : Fun K "__init__" "InvalidRule.__init__" s_InvalidRule_init D.a_InvalidRule_init D.d_InvalidRule_init
  b_InvalidRule_init : Binds K D.d_InvalidRule_init ["self", "at"] []
  m_InvalidRule_init : PySem.W.findIn K (.ref D.c_InvalidRule) "__init__" = some (some (.ref D.a_InvalidRule_init))
  i_InvalidRule_init : PySem.W.isFn K (.ref D.a_InvalidRule_init) = true
  F_is_term : Fun K "is_term" "is_term" s_is_term D.a_is_term D.d_is_term
  b_is_term : Binds K D.d_is_term ["term"] []
  g_is_term : mg "is_term" = some (.ref D.a_is_term)
  F_all_terms : Fun K "all_terms" "all_terms" s_all_terms D.a_all_terms D.d_all_terms
  b_all_terms : Binds K D.d_all_terms ["count"] []
  g_all_terms : mg "all_terms" = some (.ref D.a_all_terms)
  F__read_term : Fun K "_read_term" "_read_term" s__read_term D.a__read_term D.d__read_term
  b__read_term : Binds K D.d__read_term ["word", "text"] []
  g__read_term : mg "_read_term" = some (.ref D.a__read_term)
  F_Rule_init : Fun K "__init__" "Rule.__init__" s_Rule_init D.a_Rule_init D.d_Rule_init
  b_Rule_init : Binds K D.d_Rule_init ["self", "terms"] []
  m_Rule_init : PySem.W.findIn K (.ref D.c_Rule) "__init__" = some (some (.ref D.a_Rule_init))
  i_Rule_init : PySem.W.isFn K (.ref D.a_Rule_init) = true
  F_Rule___eq__ : Fun K "__eq__" "Rule.__eq__" s_Rule___eq__ D.a_Rule___eq__ D.d_Rule___eq__
  b_Rule___eq__ : Binds K D.d_Rule___eq__ ["self", "other"] []
  m_Rule___eq__ : PySem.W.findIn K (.ref D.c_Rule) "__eq__" = some (some (.ref D.a_Rule___eq__))
  i_Rule___eq__ : PySem.W.isFn K (.ref D.a_Rule___eq__) = true
  F_Rule___str__ : Fun K "__str__" "Rule.__str__" s_Rule___str__ D.a_Rule___str__ D.d_Rule___str__
  b_Rule___str__ : Binds K D.d_Rule___str__ ["self"] []
  m_Rule___str__ : PySem.W.findIn K (.ref D.c_Rule) "__str__" = some (some (.ref D.a_Rule___str__))
  i_Rule___str__ : PySem.W.isFn K (.ref D.a_Rule___str__) = true
  F_Rule_read : Fun K "read" "Rule.read" s_Rule_read D.a_Rule_read D.d_Rule_read
  b_Rule_read : Binds K D.d_Rule_read ["cls", "text"] []
  fi_Rule_read : PySem.W.fnIn K D.a_Rule_read = true
  sr_Rule_read : PySem.W.readsIn K D.c_Rule (.type "type") = true
  sg_Rule_read : PySem.W.specialIn K (.ref D.c_Rule) "__getattribute__" = some (some (.builtin "type.__getattribute__"))
  pa_Rule_read : PySem.W.findCls K (.ref D.c_Rule) (.type "type") "read" = some (.get (.builtin "classmethod.__get__") (.ref D.p_Rule_read) .none (.ref D.c_Rule))
  pr_Rule_read : ∃ rest, PySem.W.recIn K D.p_Rule_read "classmethod" = some (.ref D.a_Rule_read :: rest)
  F_all_rules : Fun K "all_rules" "all_rules" s_all_rules D.a_all_rules D.d_all_rules
  b_all_rules : Binds K D.d_all_rules ["count"] []
  g_all_rules : mg "all_rules" = some (.ref D.a_all_rules)
  F__law_box : Fun K "_law_box" "_law_box" s__law_box D.a__law_box D.d__law_box
  b__law_box : Binds K D.d__law_box ["_law_script", "_law_place"] []
  g__law_box : mg "_law_box" = some (.ref D.a__law_box)
  F__law_take : Fun K "_law_take" "_law_take" s__law_take D.a__law_take D.d__law_take
  b__law_take : Binds K D.d__law_take ["_law_bag", "_law_size"] []
  g__law_take : mg "_law_take" = some (.ref D.a__law_take)
  F__law_integer : Fun K "_law_integer" "_law_integer" s__law_integer D.a__law_integer D.d__law_integer
  b__law_integer : Binds K D.d__law_integer ["_law_told"] []
  g__law_integer : mg "_law_integer" = some (.ref D.a__law_integer)
  F__law_sign : Fun K "_law_sign" "_law_sign" s__law_sign D.a__law_sign D.d__law_sign
  b__law_sign : Binds K D.d__law_sign ["_law_bag"] []
  g__law_sign : mg "_law_sign" = some (.ref D.a__law_sign)
  F__law_words : Fun K "_law_words" "_law_words" s__law_words D.a__law_words D.d__law_words
  b__law_words : Binds K D.d__law_words ["_law_bag"] []
  g__law_words : mg "_law_words" = some (.ref D.a__law_words)
  F__law_changed : Fun K "_law_changed" "_law_changed" s__law_changed D.a__law_changed D.d__law_changed
  b__law_changed : Binds K D.d__law_changed ["_law_bag", "_law_text", "_law_turn"] []
  g__law_changed : mg "_law_changed" = some (.ref D.a__law_changed)
  F__law_reading : Fun K "_law_reading" "_law_reading" s__law_reading D.a__law_reading D.d__law_reading
  b__law_reading : Binds K D.d__law_reading ["_law_text"] []
  g__law_reading : mg "_law_reading" = some (.ref D.a__law_reading)
  F__law_is_rule : Fun K "_law_is_rule" "_law_is_rule" s__law_is_rule D.a__law_is_rule D.d__law_is_rule
  b__law_is_rule : Binds K D.d__law_is_rule ["_law_rule", "_law_terms"] []
  g__law_is_rule : mg "_law_is_rule" = some (.ref D.a__law_is_rule)
  F__law_read_right : Fun K "_law_read_right" "_law_read_right" s__law_read_right D.a__law_read_right D.d__law_read_right
  b__law_read_right : Binds K D.d__law_read_right ["_law_text"] []
  g__law_read_right : mg "_law_read_right" = some (.ref D.a__law_read_right)
  F__law_full : Fun K "_law_full" "_law_full" s__law_full D.a__law_full D.d__law_full
  b__law_full : Binds K D.d__law_full ["_law_count"] []
  g__law_full : mg "_law_full" = some (.ref D.a__law_full)
  F__law_all_right : Fun K "_law_all_right" "_law_all_right" s__law_all_right D.a__law_all_right D.d__law_all_right
  b__law_all_right : Binds K D.d__law_all_right ["_law_count"] []
  g__law_all_right : mg "_law_all_right" = some (.ref D.a__law_all_right)
  F_law : Fun K "law" "law" s_law D.a_law D.d_law
  b_law : Binds K D.d_law ["_law_script"] []
  g_law : mg "law" = some (.ref D.a_law)
  g_ArchiveError : mg "ArchiveError" = some (.ref D.c_ArchiveError)
  k_ArchiveError : PySem.W.keepIn K (.ref D.c_ArchiveError) = true
  g_UnknownError : mg "UnknownError" = some (.ref D.c_UnknownError)
  k_UnknownError : PySem.W.keepIn K (.ref D.c_UnknownError) = true
  g_TextError : mg "TextError" = some (.ref D.c_TextError)
  k_TextError : PySem.W.keepIn K (.ref D.c_TextError) = true
  g_ImpossibleError : mg "ImpossibleError" = some (.ref D.c_ImpossibleError)
  k_ImpossibleError : PySem.W.keepIn K (.ref D.c_ImpossibleError) = true
  g_InvalidText : mg "InvalidText" = some (.ref D.c_InvalidText)
  k_InvalidText : PySem.W.keepIn K (.ref D.c_InvalidText) = true
  g_InvalidRule : mg "InvalidRule" = some (.ref D.c_InvalidRule)
  k_InvalidRule : PySem.W.keepIn K (.ref D.c_InvalidRule) = true
  g_Rule : mg "Rule" = some (.ref D.c_Rule)
  k_Rule : PySem.W.keepIn K (.ref D.c_Rule) = true
  g_MOST_MARKS : ∃ t : Tok, mg "MOST_MARKS" = some (.int 4 t)
  n_ValueError : mg "ValueError" = none
  n_abs : mg "abs" = none
  n_all : mg "all" = none
  n_any : mg "any" = none
  n_bool : mg "bool" = none
  n_enumerate : mg "enumerate" = none
  n_int : mg "int" = none
  n_isinstance : mg "isinstance" = none
  n_len : mg "len" = none
  n_list : mg "list" = none
  n_max : mg "max" = none
  n_min : mg "min" = none
  n_range : mg "range" = none
  n_str : mg "str" = none
  n_tuple : mg "tuple" = none
  oxl_InvalidRule : ∃ nm q N bs bm sn sub ab col dd k0 k1 k2 k3 k5, K.lookup D.c_InvalidRule = some (excClassObj nm q D.c_InvalidRule N bs bm true sn sub ab col dd k0 k1 k2 k3 k5 "ValueError.__new__") ∧ PySem.HandSPX.refsVE bm = true
  xsa_InvalidRule : PySem.W.findIn K (.ref D.c_InvalidRule) "__setattr__" = some (some (.builtin "object.__setattr__"))
  xga_InvalidRule : PySem.W.findIn K (.ref D.c_InvalidRule) "__getattribute__" = some (some (.builtin "BaseException.__getattribute__"))
  xgg_InvalidRule : PySem.W.findIn K (.ref D.c_InvalidRule) "__getattr__" = some none
  xbe_InvalidRule : PySem.W.subIn K (.ref D.c_InvalidRule) (.type "BaseException") = some true
  xty_InvalidRule : PySem.W.typeIn K (.ref D.c_InvalidRule) = some (.type "type")
  xhd_InvalidRule : PySem.W.hasDictIn K D.c_InvalidRule = true
  xca_InvalidRule : PySem.W.findIn K (.ref D.c_InvalidRule) "__class__" = some (some (.builtin "object.__class__"))
  xmo_InvalidRule : PySem.W.mroIn K D.c_InvalidRule (.type "object") = some true
  xti_InvalidRule : PySem.W.typeIn K (.ref D.a_InvalidRule_init) = some (.type "function")
  oxl_InvalidText : ∃ nm q N bs bm sn sub ab col dd k0 k1 k2 k3 k5, K.lookup D.c_InvalidText = some (excClassObj nm q D.c_InvalidText N bs bm true sn sub ab col dd k0 k1 k2 k3 k5 "ValueError.__new__") ∧ PySem.HandSPX.refsVE bm = true
  xsa_InvalidText : PySem.W.findIn K (.ref D.c_InvalidText) "__setattr__" = some (some (.builtin "object.__setattr__"))
  xga_InvalidText : PySem.W.findIn K (.ref D.c_InvalidText) "__getattribute__" = some (some (.builtin "BaseException.__getattribute__"))
  xgg_InvalidText : PySem.W.findIn K (.ref D.c_InvalidText) "__getattr__" = some none
  xbe_InvalidText : PySem.W.subIn K (.ref D.c_InvalidText) (.type "BaseException") = some true
  xty_InvalidText : PySem.W.typeIn K (.ref D.c_InvalidText) = some (.type "type")
  xhd_InvalidText : PySem.W.hasDictIn K D.c_InvalidText = true
  xca_InvalidText : PySem.W.findIn K (.ref D.c_InvalidText) "__class__" = some (some (.builtin "object.__class__"))
  xmo_InvalidText : PySem.W.mroIn K D.c_InvalidText (.type "object") = some true
  xti_InvalidText : PySem.W.typeIn K (.ref D.a_InvalidText_init) = some (.type "function")
  cn_ : PySem.W.specialIn K (.builtin "object.__class__") "__get__" = some (some (.builtin "getset_descriptor.__get__"))
  ct_ : PySem.W.takesIn K (.builtin "object.__class__") = some true
  ymk_Rule : PySem.W.makesIn K D.c_Rule = true
  ypg_Rule : PySem.W.plainGet K D.c_Rule Str.empty = true
  yhd_Rule : PySem.W.hasDictIn K D.c_Rule = true
  ypo_Rule : PySem.W.plainOver K D.c_Rule = true
  ysa_Rule : PySem.W.findIn K (.ref D.c_Rule) "__setattr__" = some (some (.builtin "object.__setattr__"))
  ysf_Rule : PySem.W.selfFirst K D.c_Rule = true
  yca_Rule : PySem.W.findIn K (.ref D.c_Rule) "__class__" = some (some (.builtin "object.__class__"))
  ymo_Rule : PySem.W.mroIn K D.c_Rule (.type "object") = some true
  e_InvalidRule_at : PySem.W.findIn K (.ref D.c_InvalidRule) "at" = some none
  e_InvalidText_text : PySem.W.findIn K (.ref D.c_InvalidText) "text" = some none
  z_InvalidRule_ImpossibleError : PySem.W.kitOne K (.ref D.c_InvalidRule) (.ref D.c_ImpossibleError) = some false
  z_InvalidRule_InvalidRule : PySem.W.kitOne K (.ref D.c_InvalidRule) (.ref D.c_InvalidRule) = some true
  z_InvalidRule_TextError : PySem.W.kitOne K (.ref D.c_InvalidRule) (.ref D.c_TextError) = some false
  z_InvalidRule_UnknownError : PySem.W.kitOne K (.ref D.c_InvalidRule) (.ref D.c_UnknownError) = some false
  z_InvalidRule_ValueError : PySem.W.kitOne K (.ref D.c_InvalidRule) (.type "ValueError") = some true
  m_InvalidRule_ArchiveError : PySem.W.exmOne K (.ref D.c_InvalidRule) (.ref D.c_ArchiveError) = some true
  m_InvalidRule_InvalidText : PySem.W.exmOne K (.ref D.c_InvalidRule) (.ref D.c_InvalidText) = some false
  z_InvalidText_ImpossibleError : PySem.W.kitOne K (.ref D.c_InvalidText) (.ref D.c_ImpossibleError) = some false
  z_InvalidText_InvalidRule : PySem.W.kitOne K (.ref D.c_InvalidText) (.ref D.c_InvalidRule) = some false
  z_InvalidText_TextError : PySem.W.kitOne K (.ref D.c_InvalidText) (.ref D.c_TextError) = some true
  z_InvalidText_UnknownError : PySem.W.kitOne K (.ref D.c_InvalidText) (.ref D.c_UnknownError) = some false
  z_InvalidText_ValueError : PySem.W.kitOne K (.ref D.c_InvalidText) (.type "ValueError") = some true
  m_InvalidText_ArchiveError : PySem.W.exmOne K (.ref D.c_InvalidText) (.ref D.c_ArchiveError) = some true
  m_InvalidText_InvalidText : PySem.W.exmOne K (.ref D.c_InvalidText) (.ref D.c_InvalidText) = some true
  zo_Rule_ImpossibleError : PySem.W.kitOne K (.ref D.c_Rule) (.ref D.c_ImpossibleError) = some false
  zo_Rule_InvalidRule : PySem.W.kitOne K (.ref D.c_Rule) (.ref D.c_InvalidRule) = some false
  zo_Rule_Rule : PySem.W.kitOne K (.ref D.c_Rule) (.ref D.c_Rule) = some true
  zo_Rule_TextError : PySem.W.kitOne K (.ref D.c_Rule) (.ref D.c_TextError) = some false
  zo_Rule_UnknownError : PySem.W.kitOne K (.ref D.c_Rule) (.ref D.c_UnknownError) = some false
  zo_Rule_ValueError : PySem.W.kitOne K (.ref D.c_Rule) (.type "ValueError") = some false
  zo_Rule_bool : PySem.W.kitOne K (.ref D.c_Rule) (.type "bool") = some false
  zo_Rule_int : PySem.W.kitOne K (.ref D.c_Rule) (.type "int") = some false
  zo_Rule_list : PySem.W.kitOne K (.ref D.c_Rule) (.type "list") = some false
  zo_Rule_str : PySem.W.kitOne K (.ref D.c_Rule) (.type "str") = some false
  zo_Rule_tuple : PySem.W.kitOne K (.ref D.c_Rule) (.type "tuple") = some false
  no_Rule_terms : PySem.W.findIn K (.ref D.c_Rule) "terms" = some none
  ne_Rule : PySem.W.findIn K (.ref D.c_Rule) "__ne__" = some (some (.builtin "object.__ne__"))
section
variable {K : PySem.W.Frag} {mg : Str → Option Value} {D : Ad}
theorem T_cl_Rule (T : Txt K mg D) : Cls K D.c_Rule := ⟨T.ypg_Rule, T.yhd_Rule, T.ypo_Rule, T.ysa_Rule⟩
theorem T_mk_Rule (T : Txt K mg D) : Mk K D.c_Rule D.a_Rule_init := ⟨T.ymk_Rule, T.m_Rule_init, T.i_Rule_init, T.k_Rule⟩
theorem T_ty_Rule (T : Txt K mg D) {H : Hp} {a dx : Addr} {fs : List (Str × V)} (e : H a = some (.ins D.c_Rule dx fs)) : TyX K H (.ref a) (.ref D.c_Rule) := .base (.ins e (T_cl_Rule T) T.yca_Rule T.cn_ T.ct_ T.ymo_Rule)
theorem T_cr_Rule_read (T : Txt K mg D) : ClX.CRead K D.c_Rule (.type "type") := ⟨T.sr_Rule_read, T.sg_Rule_read⟩
theorem T_cm_Rule_read (T : Txt K mg D) : ClX.CMet K D.c_Rule (.type "type") "read" D.p_Rule_read D.a_Rule_read := ⟨T.pa_Rule_read, T.pr_Rule_read, T.fi_Rule_read⟩
theorem T_ox_InvalidRule (T : Txt K mg D) : OexC K D.c_InvalidRule := ⟨T.oxl_InvalidRule, T.xsa_InvalidRule, T.xbe_InvalidRule, T.xty_InvalidRule, T.k_InvalidRule⟩
theorem T_as_InvalidRule (T : Txt K mg D) : XR.Asks K D.c_InvalidRule := ⟨T.xga_InvalidRule, T.xgg_InvalidRule, T.xbe_InvalidRule, T.xhd_InvalidRule, T.xca_InvalidRule, T.cn_, T.ct_, T.xmo_InvalidRule⟩
theorem T_xf_InvalidRule (T : Txt K mg D) : XfC K D.c_InvalidRule := ⟨T.xga_InvalidRule, T.xgg_InvalidRule, T.xbe_InvalidRule, T.xhd_InvalidRule⟩
theorem T_ox_InvalidText (T : Txt K mg D) : OexC K D.c_InvalidText := ⟨T.oxl_InvalidText, T.xsa_InvalidText, T.xbe_InvalidText, T.xty_InvalidText, T.k_InvalidText⟩
theorem T_as_InvalidText (T : Txt K mg D) : XR.Asks K D.c_InvalidText := ⟨T.xga_InvalidText, T.xgg_InvalidText, T.xbe_InvalidText, T.xhd_InvalidText, T.xca_InvalidText, T.cn_, T.ct_, T.xmo_InvalidText⟩
theorem T_xf_InvalidText (T : Txt K mg D) : XfC K D.c_InvalidText := ⟨T.xga_InvalidText, T.xgg_InvalidText, T.xbe_InvalidText, T.xhd_InvalidText⟩
end

section
variable {K : PySem.W.Frag} {mg : Str → Option Value} {D : Ad}
theorem T_o_Rule___eq__ (T : Txt K mg D) : XR.OwnE K D.c_Rule D.a_Rule___eq__ := ⟨T.m_Rule___eq__, T.i_Rule___eq__, T.ne_Rule, T.ymo_Rule⟩
theorem T_o_Rule___str__ (T : Txt K mg D) : XR.OwnM K D.c_Rule D.a_Rule___str__ "__str__" := ⟨T.m_Rule___str__, T.i_Rule___str__⟩
end
local macro_rules | `(tactic| walk_at "ne") => `(tactic| first | assumption | (apply Ne.symm; assumption) | exact XR.ne_fresh (by assumption) (by walk_at "hp") | exact Ne.symm (XR.ne_fresh (by assumption) (by walk_at "hp")))
local macro_rules | `(tactic| walk_at "hp") => `(tactic| first | assumption | exact upd_same | (refine Eq.trans (upd_ne ?_) ?_; (walk_at "ne"); walk_at "hp"))
local macro_rules | `(tactic| walk_at "sq") => `(tactic| first | walk_at "hp" | exact SqL.of (by walk_at "hp") | exact SqT.of (by walk_at "hp") | exact XR.SqT.same (by assumption) (by assumption) | exact XR.SqL.same (by assumption) (by assumption))
local macro_rules | `(tactic| walk_at "br") => `(tactic| (refine ite2 ?_ ?_ <;> intro hbr <;> (try simp only [decide_eq_true_eq, decide_eq_false_iff_not, V.int.injEq, V.bl.injEq, V.str.injEq, Bool.not_eq_true, Bool.not_eq_eq_eq_not, Bool.not_true, Bool.not_false, ne_eq, Int.reduceToNat, Int.reducePow, Int.reduceMul, Int.reduceAdd, Int.reduceSub, reduceCtorEq, not_true_eq_false, not_false_eq_true, Int.not_lt, Int.not_le] at hbr)))
local macro_rules | `(tactic| walk_at "side") => `(tactic| first
  | exact ⟨by decide, by decide, by decide⟩
  | exact .inl ⟨by decide, by decide⟩
  | exact .inr ⟨by decide, by decide⟩
  | exact XR.divw (by first | decide | omega) (by first | decide | omega)
  | (show (_ : Int) = _; first | rfl | omega)
  | (show (0 : Int) < _; first | decide | assumption | omega)
  | exact .inl ⟨by omega, by omega⟩
  | exact .inr ⟨by omega, by omega⟩
  | exact .inl (XR.cmul_mod (by decide))
  | exact XR.log_lt (by omega) (by omega)
  | decide
  | (rw [sizeLine_eq]; simp; done)
  | (show 2 ≤ sizeLine; decide) | (show 3 ≤ sizeLine; decide) | (show 4 ≤ sizeLine; decide) | (show 5 ≤ sizeLine; decide) | (show 6 ≤ sizeLine; decide) | (show 7 ≤ sizeLine; decide) | (show 1 ≤ sizeLine; decide) | (show 8 ≤ sizeLine; decide) | (show 0 ≤ sizeLine; decide))
local macro_rules | `(tactic| walk_at "rd1") => `(tactic| first
  | refine ⟨_, rfl, ?_⟩
  | refine ⟨_, _, rfl, rfl, ?_⟩
  | refine ⟨_, _, _, _, rfl, rfl, (by walk_at "sq"), rfl, ?_⟩
  | refine ⟨_, _, _, _, rfl, rfl, (by walk_at "hp"), (by walk_at "hp"), (by walk_at "side"), ?_⟩
  | refine ⟨_, _, rfl, .inl (by walk_at "sq"), ?_⟩
  | refine ⟨_, _, rfl, .inl ⟨(by walk_at "sq"), ?_⟩⟩
  | refine ⟨_, _, rfl, .inr (by walk_at "sq"), ?_⟩
  | refine ⟨_, _, _, _, _, rfl, (by walk_at "hp"), (by walk_at "cls"), (by walk_at "noat"), rfl, ?_⟩
  | refine ⟨_, _, _, _, rfl, rfl, (by walk_at "sq"), (by first | assumption | exact XR.at0 | exact XR.at1), ?_⟩
  | refine ⟨rfl, ?_⟩
  | refine And.intro (by walk_at "side") ?_
  | refine .inl ⟨_, rfl, ?_⟩
  | refine And.intro ⟨_, (by walk_at "sq")⟩ ?_
  | refine ⟨_, _, rfl, (by walk_at "sq"), ?_⟩
  | refine ⟨_, _, rfl, ?_⟩
  | refine .inr ⟨_, rfl, (by walk_at "side"), ?_⟩
  | refine ⟨_, _, _, rfl, (by walk_at "hp"), ?_⟩
  | refine iteT ?_
  | refine iteF ?_)
local macro_rules | `(tactic| walk_at "rd") => `(tactic| repeat (walk_at "rd1"))
local macro_rules | `(tactic| walk_at "nn") => `(tactic| (simp only [Int.reduceToNat, Int.reducePow, Int.reduceMul, Int.reduceAdd, Int.reduceSub, Int.reduceNeg]))
local macro_rules | `(tactic| walk_at "dr") => `(tactic| repeat (first | refine And.intro (by first | assumption | walk_at "pre") ?_ | refine And.intro (by first | decide | omega) ?_))
local macro_rules | `(tactic| walk_at "vi") => `(tactic| ((try dsimp only [L2.cxOf, L2.Cx.nox, L2.Cx.wish, L2.Cx.blk, L2.Cx.suite, L2.Cx.tr, L2H.cxH, List.map_cons, List.map_nil]); (try simp only [List.map_cons, List.map_nil]); infer_instance))
local macro_rules | `(tactic| walk_at "w") => `(tactic| conv => whnf)
local macro_rules | `(tactic| walk_at "sz") => `(tactic| first
  | (show _ ≤ sizeLine; rw [sizeLine_eq]; first | decide | omega | (simp; done) | (simp; omega))
  | (show _ < sizeLine; rw [sizeLine_eq]; first | decide | omega | (simp; done) | (simp; omega)))
local macro_rules | `(tactic| walk_at "ok") => `(tactic| first
  | exact encInt.list.ok (by decide) _ | exact encInt.tupl.ok (by decide) _ | exact encStr.list.ok (by decide) _ | exact encStr.tupl.ok (by decide) _
  | exact (encInt.pair encInt).list.ok (by decide) _ | exact (encInt.pair encInt).ok (by decide) _ | exact (encStr.pair encStr).list.ok (by decide) _ | exact (encStr.pair encStr).ok (by decide) _
  | exact encInt.tupl.list.ok (by decide) _)
local macro_rules | `(tactic| walk_at "vs") => `(tactic| first
  | exact trivial
  | assumption
  | exact rfl
  | exact ⟨rfl, rfl⟩
  | walk_at "ok"
  | walk_at "sz"
  | exact .inl (.inr ⟨by decide, by decide⟩)
  | exact .inl (.inl ⟨by first | decide | omega, by first | decide | omega⟩)
  | exact .inl (.inr ⟨by first | decide | omega, by first | decide | omega⟩)
  | exact XR.divw (by first | decide | omega) (by first | decide | omega)
  | (show (0 : Int) < _; first | decide | omega)
  | exact ⟨by first | decide | omega, by first | decide | omega⟩
  | exact ⟨by first | decide | omega, by first | decide | omega, by first | decide | omega⟩
  | exact ⟨by walk_at "sz", by omega, by omega⟩
  | exact ⟨by walk_at "cls", by walk_at "noat"⟩
  | exact ⟨by walk_at "xf", by walk_at "xe"⟩
  | walk_at "exm"
  | decide
  | exact XR.log_lt (by omega) (by omega)
  | ((try dsimp only); (try simp only [List.length_map, List.length_append, List.length_cons, List.length_nil, List.length_eraseIdx]); omega))
local macro_rules | `(tactic| walk_at "v") => `(tactic| (walk_at "w"; (repeat ((first | refine And.intro (by walk_at "vs") ?_ | refine isS_i (by assumption) ?_); walk_at "w")); (try walk_at "n")))
local macro_rules | `(tactic| walk_at "isi") => `(tactic| first | refine ⟨_, VL.IsI.int_int _, ?_⟩ | refine ⟨_, VL.IsI.int_bool _, ?_⟩ | refine ⟨_, VL.IsI.int_str _, ?_⟩ | refine ⟨_, VL.IsI.int_list _, ?_⟩ | refine ⟨_, VL.IsI.int_tuple _, ?_⟩ | refine ⟨_, VL.IsI.bl_int _, ?_⟩ | refine ⟨_, VL.IsI.bl_bool _, ?_⟩ | refine ⟨_, VL.IsI.bl_str _, ?_⟩ | refine ⟨_, VL.IsI.str_str _, ?_⟩ | refine ⟨_, VL.IsI.str_int _, ?_⟩ | refine ⟨_, VL.IsI.str_bool _, ?_⟩ | refine ⟨_, VL.IsI.lst_list _, ?_⟩ | refine ⟨_, VL.IsI.lst_tuple _, ?_⟩ | refine ⟨_, VL.IsI.tup_list _, ?_⟩ | refine ⟨_, VL.IsI.tup_tuple _, ?_⟩ | refine ⟨_, VL.IsI.tup_str _, ?_⟩ | refine ⟨_, VL.IsI.tup_int _, ?_⟩ | refine ⟨_, VL.IsI.dk_dict _, ?_⟩ | refine ⟨_, VL.IsI.non_int, ?_⟩ | refine ⟨_, VL.IsI.non_tuple, ?_⟩ | refine ⟨_, VL.IsI.non_list, ?_⟩ | refine ⟨_, VL.IsI.non_str, ?_⟩)
local macro_rules | `(tactic| walk_at "V") => `(tactic| (walk_at "w"; (repeat ((first | refine And.intro (by walk_at "vs") ?_ | refine isS_i (by assumption) ?_ | refine Or.inr ?_ | walk_at "isi" | walk_at "eis" | refine ⟨_, rfl, ?_⟩); walk_at "w")); (try walk_at "n")))
set_option hygiene false
local macro_rules | `(tactic| walk_at "vb") => `(tactic| (refine br_i ?_ ?_ <;> intro hbr <;> (try simp only [nb, decide_eq_true_eq, decide_eq_false_iff_not, Bool.not_eq_true, Bool.not_eq_eq_eq_not, Bool.not_true, Bool.not_false, ne_eq, Bool.and_eq_true, Bool.or_eq_true, Bool.and_eq_false_imp, Decidable.not_not, Int.not_lt, Int.not_le, bne_iff_ne, Bool.not_eq_false, Bool.or_eq_false_iff, reduceCtorEq, not_true_eq_false, not_false_eq_true] at hbr)))
set_option hygiene true
local macro_rules | `(tactic| walk_at "le") => `(tactic| exact VL.Le.to rfl (Nat.le_of_ble_eq_true rfl))
local macro_rules | `(tactic| walk_at "d") => `(tactic| dsimp only at *)
local macro_rules | `(tactic| walk_at "n") => `(tactic| dsimp only [VL.env0, VL.slots0, VL.mem0, VL.nones, VL.falses, VL.put_mk, VL.push_mk, VL.set_mk, VL.unset_mk, VL.wipe_nl, VL.wipe_cs, VL.el_mk, VL.frs_nl, VL.frs_cs, VL.fr_mk, VL.frX, VL.frSl, VL.nth, Nat.reduceAdd, Nat.reduceSub, Nat.reduceMul, Nat.reduceBEq, List.set, List.length_cons, List.length_nil, List.cons_append, List.nil_append, VL.qI, VL.qT, VL.qR])
local macro_rules | `(tactic| walk_at "cls") => `(tactic| first | exact T_cl_Rule (by assumption))
local macro_rules | `(tactic| walk_at "noat") => `(tactic| first | exact Txt.no_Rule_terms (by assumption))
local macro_rules | `(tactic| walk_at "eis") => `(tactic| first | refine ⟨_, ⟨T_as_InvalidRule (by assumption), _, .cls _, Txt.z_InvalidRule_ImpossibleError (by assumption)⟩, ?_⟩ | refine ⟨_, ⟨T_as_InvalidRule (by assumption), _, .cls _, Txt.z_InvalidRule_InvalidRule (by assumption)⟩, ?_⟩ | refine ⟨_, ⟨T_as_InvalidRule (by assumption), _, .cls _, Txt.z_InvalidRule_TextError (by assumption)⟩, ?_⟩ | refine ⟨_, ⟨T_as_InvalidRule (by assumption), _, .cls _, Txt.z_InvalidRule_UnknownError (by assumption)⟩, ?_⟩ | refine ⟨_, ⟨T_as_InvalidRule (by assumption), _, .ty _, Txt.z_InvalidRule_ValueError (by assumption)⟩, ?_⟩ | refine ⟨_, Txt.m_InvalidRule_ArchiveError (by assumption), ?_⟩ | refine ⟨_, Txt.m_InvalidRule_InvalidText (by assumption), ?_⟩ | refine ⟨_, ⟨T_as_InvalidText (by assumption), _, .cls _, Txt.z_InvalidText_ImpossibleError (by assumption)⟩, ?_⟩ | refine ⟨_, ⟨T_as_InvalidText (by assumption), _, .cls _, Txt.z_InvalidText_InvalidRule (by assumption)⟩, ?_⟩ | refine ⟨_, ⟨T_as_InvalidText (by assumption), _, .cls _, Txt.z_InvalidText_TextError (by assumption)⟩, ?_⟩ | refine ⟨_, ⟨T_as_InvalidText (by assumption), _, .cls _, Txt.z_InvalidText_UnknownError (by assumption)⟩, ?_⟩ | refine ⟨_, ⟨T_as_InvalidText (by assumption), _, .ty _, Txt.z_InvalidText_ValueError (by assumption)⟩, ?_⟩ | refine ⟨_, Txt.m_InvalidText_ArchiveError (by assumption), ?_⟩ | refine ⟨_, Txt.m_InvalidText_InvalidText (by assumption), ?_⟩ | fail)
local macro_rules | `(tactic| walk_at "exm") => `(tactic| first | exact Txt.m_InvalidRule_ArchiveError (by assumption) | exact Txt.m_InvalidText_ArchiveError (by assumption) | exact Txt.m_InvalidText_InvalidText (by assumption) | fail)
local macro_rules | `(tactic| walk_at "xf") => `(tactic| first | exact T_xf_InvalidRule (by assumption) | exact T_xf_InvalidText (by assumption) | fail)
local macro_rules | `(tactic| walk_at "xe") => `(tactic| first | exact Txt.e_InvalidRule_at (by assumption) | exact Txt.e_InvalidText_text (by assumption) | fail)
local macro_rules | `(tactic| walk_at "isi") => `(tactic| first | refine ⟨_, VL.IsI.mk _ _ (.obj (fun _ _ _ _ e => T_ty_Rule (by assumption) e)) (.cls _) (Txt.zo_Rule_ImpossibleError (by assumption)), ?_⟩ | refine ⟨_, VL.IsI.mk _ _ (.obj (fun _ _ _ _ e => T_ty_Rule (by assumption) e)) (.cls _) (Txt.zo_Rule_InvalidRule (by assumption)), ?_⟩ | refine ⟨_, VL.IsI.mk _ _ (.obj (fun _ _ _ _ e => T_ty_Rule (by assumption) e)) (.cls _) (Txt.zo_Rule_Rule (by assumption)), ?_⟩ | refine ⟨_, VL.IsI.mk _ _ (.obj (fun _ _ _ _ e => T_ty_Rule (by assumption) e)) (.cls _) (Txt.zo_Rule_TextError (by assumption)), ?_⟩ | refine ⟨_, VL.IsI.mk _ _ (.obj (fun _ _ _ _ e => T_ty_Rule (by assumption) e)) (.cls _) (Txt.zo_Rule_UnknownError (by assumption)), ?_⟩ | refine ⟨_, VL.IsI.mk _ _ (.obj (fun _ _ _ _ e => T_ty_Rule (by assumption) e)) (.ty _) (Txt.zo_Rule_ValueError (by assumption)), ?_⟩ | refine ⟨_, VL.IsI.mk _ _ (.obj (fun _ _ _ _ e => T_ty_Rule (by assumption) e)) (.ty _) (Txt.zo_Rule_bool (by assumption)), ?_⟩ | refine ⟨_, VL.IsI.mk _ _ (.obj (fun _ _ _ _ e => T_ty_Rule (by assumption) e)) (.ty _) (Txt.zo_Rule_int (by assumption)), ?_⟩ | refine ⟨_, VL.IsI.mk _ _ (.obj (fun _ _ _ _ e => T_ty_Rule (by assumption) e)) (.ty _) (Txt.zo_Rule_list (by assumption)), ?_⟩ | refine ⟨_, VL.IsI.mk _ _ (.obj (fun _ _ _ _ e => T_ty_Rule (by assumption) e)) (.ty _) (Txt.zo_Rule_str (by assumption)), ?_⟩ | refine ⟨_, VL.IsI.mk _ _ (.obj (fun _ _ _ _ e => T_ty_Rule (by assumption) e)) (.ty _) (Txt.zo_Rule_tuple (by assumption)), ?_⟩)
section
variable {P : Program} {w : World} {K : PySem.W.Frag} {mg : Str → Option Value} {base : Heap} {D : Ad}
/-- the box of draws; c: how many there were -/
def Bx (c : Nat) (t : T) : Prop := ∃ f x m : Int, t = .lst [.int f, .int x, .int m] ∧ 0 ≤ x ∧ (f = 1 ∨ f ≠ 1 ∧ x < 2 ^ 31) ∧ 0 ≤ m ∧ m ≤ c
theorem Bx.mono {c d : Nat} {t : T} (h : Bx c t) (e : c ≤ d) : Bx d t := by
  obtain ⟨f, x, m, h1, h2, h3, h4, h5⟩ := h
  exact ⟨f, x, m, h1, h2, h3, h4, by omega⟩
def spTake : VSp := fun ts Q _ => ∃ (bx : T) (c : Nat) (n : Int), ts = [bx, .int n] ∧ Bx c bx ∧ c < 2 ^ 40 ∧ 0 < n ∧ n < 2 ^ 63 ∧ ∀ r bx', 0 ≤ r → r < n → Bx (c + 1) bx' → Q (.val (.int r)) [bx']
theorem sc__law_take : FnScope ["_law_bag", "_law_size", "_law_digit", "_law_mixed"] ["_law_bag", "_law_size"] (defScope s__law_take) := ⟨rfl, rfl, rfl, by decide +kernel, rfl, by decide +kernel, by decide +kernel⟩
theorem ok__law_take (T : Txt K mg D) : FnOk P w K mg base CX0 1 D.a__law_take D.d__law_take ["_law_bag", "_law_size"] (vsp K [true, false] spTake) := by
  refine VL.okV T.F__law_take sc__law_take rfl (by decide) (fun cdv A outer s H E hr => have hu := VL.huR hr; ⟨_, (pss_cons (ps_if (pt_cmpR (op_eqD (VL.hu64 hu)) (pe_ix ix_seq (pv 0) pe_int (fun _ _ => rfl)) pe_int (nomark _))
      (pss_cons (ps_set (i := 2) sc__law_take.nd rfl (Or.inl rfl) (pe_op op_mod (pe_callTy VL.call_intU (by rfl) T.n_int (by decide +kernel) (pa_cons (pe_ix ix_seq (pv 0) pe_int (fun _ _ => rfl)) pa_nil)) (pv 1)))
      (pss_cons (ps_asg (pe_op op_fdivW (pe_ix ix_seq (pv 0) pe_int (fun _ _ => rfl)) (pv 1)) (pg_sub (pv 0) pe_int set_list))
      (pss_one (ps_ret (pv 2)))))
      pss_nil)
      (pss_cons (ps_asg (pe_op VL.op_addU (pe_ix ix_seq (pv 0) pe_int (fun _ _ => rfl)) pe_int) (pg_sub (pv 0) pe_int set_list))
      (pss_cons (ps_set (i := 3) sc__law_take.nd rfl (Or.inl rfl) (pe_op VL.op_addU (pe_op VL.op_addU (pe_op VL.op_addU (pe_op VL.op_mulU (pe_ix ix_seq (pv 0) pe_int (fun _ _ => rfl)) pe_int) (pe_op VL.op_mulU (pe_op VL.op_mulU (pe_ix ix_seq (pv 0) pe_int (fun _ _ => rfl)) (pe_ix ix_seq (pv 0) pe_int (fun _ _ => rfl))) pe_int)) (pe_op VL.op_mulU (pe_ix ix_seq (pv 0) pe_int (fun _ _ => rfl)) pe_int)) pe_int))
      (pss_cons (ps_set (i := 3) sc__law_take.nd rfl (Or.inl rfl) (pe_op op_mod (pe_callTy VL.call_intU (by rfl) T.n_int (by decide +kernel) (pa_cons (pv 3) pa_nil)) pe_int))
      (pss_cons (ps_set (i := 3) sc__law_take.nd rfl (Or.inl rfl) (pe_op op_mod (pe_callTy VL.call_intU (by rfl) T.n_int (by decide +kernel) (pa_cons (pe_op VL.op_addU (pe_op VL.op_mulU (pv 3) (pv 3)) (pe_op VL.op_mulU (pe_ix ix_seq (pv 0) pe_int (fun _ _ => rfl)) pe_int)) pa_nil)) pe_int))
      (pss_one (ps_ret (pe_op op_mod (pe_callTy VL.call_intU (by rfl) T.n_int (by decide +kernel) (pa_cons (pe_op op_fdivW (pv 3) pe_int) pa_nil)) (pv 1))))))))), ?_⟩)
  apply VL.wvI
  · intro B; walk_at "vi"
  · intro ts Qv Xv h
    obtain ⟨bx, c, n, rfl, hB, hc, hn, hn2, k⟩ := h
    obtain ⟨f, x, m, rfl, hx, hf, hm, hm2⟩ := hB
    walk_at "v"
    walk_at "vb"
    · walk_at "v"
      exact k _ _ (Int.emod_nonneg _ (by omega)) (Int.emod_lt_of_pos _ hn) ⟨f, x / n, m, rfl, Int.ediv_nonneg hx (by omega), .inl hbr, hm, by omega⟩
    · have hx2 : x < 2 ^ 31 := by rcases hf with e | e <;> omega
      walk_at "v"
      exact k _ _ (Int.emod_nonneg _ (by omega)) (Int.emod_lt_of_pos _ hn) ⟨f, x, m + 1, rfl, hx, .inr ⟨hbr, hx2⟩, by omega, by omega⟩
def spBox : VSp := fun ts Q _ => ∃ (ns : List Int) (p : Int), ts = [.scr (ns.map T.int), .int p] ∧ 0 ≤ p ∧ p ≤ 9 ∧ ∀ bx, Bx 279 bx → Q (.new bx) []
theorem sc__law_box : FnScope ["_law_script", "_law_place"] ["_law_script", "_law_place"] (defScope s__law_box) := ⟨rfl, rfl, rfl, by decide +kernel, rfl, by decide +kernel, by decide +kernel⟩
theorem ok__law_box (T : Txt K mg D) : FnOk P w K mg base CX0 1 D.a__law_box D.d__law_box ["_law_script", "_law_place"] (vsp K [false, false] spBox) := by
  refine VL.okV T.F__law_box sc__law_box rfl (by decide) (fun cdv A outer s H E hr => have hu := VL.huR hr; ⟨_, (pss_cons (ps_if (pt_cmpR (op_eqD (VL.hu64 hu)) (pv 0) (pe_lst pa_nil) (nomark _))
      (pss_one (ps_ret (pe_lst (pa_cons pe_int (pa_cons pe_int (pa_cons pe_int pa_nil))))))
      pss_nil)
      (pss_cons (ps_if (pt_cmpR op_ge (pv 1) (pe_callB VL.call_lenU (by rfl) T.n_len (by decide +kernel) (pa_cons (pv 0) pa_nil)) (nomark _))
      (pss_one (ps_ret (pe_lst (pa_cons pe_int (pa_cons (pe_op VL.op_addU (pe_op op_mod (pe_callTy VL.call_intU (by rfl) T.n_int (by decide +kernel) (pa_cons (pe_ix ix_seq (pv 0) pe_int (fun _ _ => rfl)) pa_nil)) pe_int) (pv 1)) (pa_cons (pe_op VL.op_mulU pe_int (pv 1)) pa_nil))))))
      pss_nil)
      (pss_cons (ps_if (pt_cmpR op_ge (pe_ix ix_seq (pv 0) (pv 1) (fun _ _ => rfl)) (pe_op op_pow pe_int pe_int) (nomark _))
      (pss_one (ps_ret (pe_lst (pa_cons pe_int (pa_cons (pe_op op_sub (pe_ix ix_seq (pv 0) (pv 1) (fun _ _ => rfl)) (pe_op op_pow pe_int pe_int)) (pa_cons pe_int pa_nil))))))
      pss_nil)
      (pss_one (ps_ret (pe_lst (pa_cons pe_int (pa_cons (pe_op op_mod (pe_callTy VL.call_intU (by rfl) T.n_int (by decide +kernel) (pa_cons (pe_ix ix_seq (pv 0) (pv 1) (fun _ _ => rfl)) pa_nil)) pe_int) (pa_cons (pe_op VL.op_mulU pe_int (pv 1)) pa_nil))))))))), ?_⟩)
  apply VL.wvI
  · intro B; walk_at "vi"
  · intro ts Qv Xv h
    obtain ⟨ns, p, rfl, h0, h1, k⟩ := h
    walk_at "v"
    walk_at "vb"
    · walk_at "v"
      exact k _ ⟨1, 0, 0, rfl, by omega, .inl rfl, by omega, by omega⟩
    · have hn : 0 < ns.length := by cases ns <;> simp_all
      walk_at "v"
      rw [List.length_map]
      walk_at "vb"
      · obtain ⟨z, hz, e⟩ := at_map (f := VL.T.int) (xs := ns) (i := 0) (by omega) (by omega)
        refine isS_i e ?_
        walk_at "v"
        exact k _ ⟨0, _, _, rfl, by omega, .inr ⟨by decide, by omega⟩, by omega, by omega⟩
      · obtain ⟨z, hz, e⟩ := at_map (f := VL.T.int) (xs := ns) (i := p) h0 (by omega)
        refine isS_i e ?_
        walk_at "v"
        walk_at "vb"
        · refine isS_i e ?_
          walk_at "v"
          exact k _ ⟨1, _, _, rfl, by omega, .inl rfl, by omega, by omega⟩
        · refine isS_i e ?_
          walk_at "v"
          exact k _ ⟨0, _, _, rfl, by omega, .inr ⟨by decide, by omega⟩, by omega, by omega⟩
def spNum : VSpF := fun ts Q => ∃ x : Int, ts = [.int x] ∧ Q (.bl true)
theorem sc__law_integer : FnScope ["_law_told"] ["_law_told"] (defScope s__law_integer) := ⟨rfl, rfl, rfl, by decide +kernel, rfl, by decide +kernel, by decide +kernel⟩
theorem okv__law_integer (T : Txt K mg D) : FnOk P w K mg base CX0 1 D.a__law_integer D.d__law_integer ["_law_told"] (vsp K (VL.falses 1) (VL.ofF spNum)) := by
  refine VL.okV T.F__law_integer sc__law_integer rfl (by decide) (fun cdv A outer s H E hr => have hu := VL.huR hr; ⟨_, (pss_one (ps_ret (pe_and (pe_callB call_isi (by rfl) T.n_isinstance (by decide +kernel) (pa_cons (pv 0) (pa_cons (pe_bltn (v := .ty "int") (u := .type "int") (by rfl) T.n_int (by decide +kernel) rfl) pa_nil))) (pe_one (pe_not (pe_callB call_isi (by rfl) T.n_isinstance (by decide +kernel) (pa_cons (pv 0) (pa_cons (pe_bltn (v := .ty "bool") (u := .type "bool") (by rfl) T.n_bool (by decide +kernel) rfl) pa_nil)))))))), ?_⟩)
  apply VL.wvI
  · intro B; walk_at "vi"
  · intro ts Qv Xv h
    obtain ⟨Q0, ⟨x, rfl, k⟩, kq⟩ := h
    walk_at "v"
    refine ⟨_, .int_int _, ?_⟩
    walk_at "v"
    refine ⟨_, .int_bool _, ?_⟩
    walk_at "v"
    exact kq _ rfl k
theorem ok__law_integer (T : Txt K mg D) : FnOk P w K mg base CX0 1 D.a__law_integer D.d__law_integer ["_law_told"] (vspF K spNum) := VL.okF (okv__law_integer T) (fun ts Q h => by obtain ⟨x, rfl, _⟩ := h; rfl)
theorem okvq__law_integer (T : Txt K mg D) : XR.FnQ P w K mg base 1 D.a__law_integer D.d__law_integer ["_law_told"] (fun _ => (vsp K (VL.falses 1) (VL.ofF spNum))) := by
  refine VL.okVQ T.F__law_integer sc__law_integer rfl (by decide) (fun cdv A outer s H p hr => have hu := VL.huH hr; ⟨_, (pss_one (ps_ret (pe_and (pe_callB call_isi (by rfl) T.n_isinstance (by decide +kernel) (pa_cons (pv 0) (pa_cons (pe_bltn (v := .ty "int") (u := .type "int") (by rfl) T.n_int (by decide +kernel) rfl) pa_nil))) (pe_one (pe_not (pe_callB call_isi (by rfl) T.n_isinstance (by decide +kernel) (pa_cons (pv 0) (pa_cons (pe_bltn (v := .ty "bool") (u := .type "bool") (by rfl) T.n_bool (by decide +kernel) rfl) pa_nil)))))))), ?_⟩)
  apply VL.wvI
  · intro B; walk_at "vi"
  · intro ts Qv Xv h
    obtain ⟨Q0, ⟨x, rfl, k⟩, kq⟩ := h
    walk_at "v"
    refine ⟨_, .int_int _, ?_⟩
    walk_at "v"
    refine ⟨_, .int_bool _, ?_⟩
    walk_at "v"
    exact kq _ rfl k
theorem okq__law_integer (T : Txt K mg D) : XR.FnQ P w K mg base 1 D.a__law_integer D.d__law_integer ["_law_told"] (fun _ => vspF K spNum) := VL.okFQ (okvq__law_integer T) (fun ts Q h => by obtain ⟨x, rfl, _⟩ := h; rfl)
end
end Toy
set_option Elab.async false
set_option linter.all false
set_option maxRecDepth 100000
set_option maxHeartbeats 4000000
set_option synthInstance.maxSize 1000000
set_option synthInstance.maxHeartbeats 4000000
namespace Toy
open PySem L2 XR VL
local macro_rules | `(tactic| walk_at "ne") => `(tactic| first | assumption | (apply Ne.symm; assumption) | exact XR.ne_fresh (by assumption) (by walk_at "hp") | exact Ne.symm (XR.ne_fresh (by assumption) (by walk_at "hp")))
local macro_rules | `(tactic| walk_at "hp") => `(tactic| first | assumption | exact upd_same | (refine Eq.trans (upd_ne ?_) ?_; (walk_at "ne"); walk_at "hp"))
local macro_rules | `(tactic| walk_at "sq") => `(tactic| first | walk_at "hp" | exact SqL.of (by walk_at "hp") | exact SqT.of (by walk_at "hp") | exact XR.SqT.same (by assumption) (by assumption) | exact XR.SqL.same (by assumption) (by assumption))
local macro_rules | `(tactic| walk_at "br") => `(tactic| (refine ite2 ?_ ?_ <;> intro hbr <;> (try simp only [decide_eq_true_eq, decide_eq_false_iff_not, V.int.injEq, V.bl.injEq, V.str.injEq, Bool.not_eq_true, Bool.not_eq_eq_eq_not, Bool.not_true, Bool.not_false, ne_eq, Int.reduceToNat, Int.reducePow, Int.reduceMul, Int.reduceAdd, Int.reduceSub, reduceCtorEq, not_true_eq_false, not_false_eq_true, Int.not_lt, Int.not_le] at hbr)))
local macro_rules | `(tactic| walk_at "side") => `(tactic| first
  | exact ⟨by decide, by decide, by decide⟩
  | exact .inl ⟨by decide, by decide⟩
  | exact .inr ⟨by decide, by decide⟩
  | exact XR.divw (by first | decide | omega) (by first | decide | omega)
  | (show (_ : Int) = _; first | rfl | omega)
  | (show (0 : Int) < _; first | decide | assumption | omega)
  | exact .inl ⟨by omega, by omega⟩
  | exact .inr ⟨by omega, by omega⟩
  | exact .inl (XR.cmul_mod (by decide))
  | exact XR.log_lt (by omega) (by omega)
  | decide
  | (rw [sizeLine_eq]; simp; done)
  | (show 2 ≤ sizeLine; decide) | (show 3 ≤ sizeLine; decide) | (show 4 ≤ sizeLine; decide) | (show 5 ≤ sizeLine; decide) | (show 6 ≤ sizeLine; decide) | (show 7 ≤ sizeLine; decide) | (show 1 ≤ sizeLine; decide) | (show 8 ≤ sizeLine; decide) | (show 0 ≤ sizeLine; decide))
local macro_rules | `(tactic| walk_at "rd1") => `(tactic| first
  | refine ⟨_, rfl, ?_⟩
  | refine ⟨_, _, rfl, rfl, ?_⟩
  | refine ⟨_, _, _, _, rfl, rfl, (by walk_at "sq"), rfl, ?_⟩
  | refine ⟨_, _, _, _, rfl, rfl, (by walk_at "hp"), (by walk_at "hp"), (by walk_at "side"), ?_⟩
  | refine ⟨_, _, rfl, .inl (by walk_at "sq"), ?_⟩
  | refine ⟨_, _, rfl, .inl ⟨(by walk_at "sq"), ?_⟩⟩
  | refine ⟨_, _, rfl, .inr (by walk_at "sq"), ?_⟩
  | refine ⟨_, _, _, _, _, rfl, (by walk_at "hp"), (by walk_at "cls"), (by walk_at "noat"), rfl, ?_⟩
  | refine ⟨_, _, _, _, rfl, rfl, (by walk_at "sq"), (by first | assumption | exact XR.at0 | exact XR.at1), ?_⟩
  | refine ⟨rfl, ?_⟩
  | refine And.intro (by walk_at "side") ?_
  | refine .inl ⟨_, rfl, ?_⟩
  | refine And.intro ⟨_, (by walk_at "sq")⟩ ?_
  | refine ⟨_, _, rfl, (by walk_at "sq"), ?_⟩
  | refine ⟨_, _, rfl, ?_⟩
  | refine .inr ⟨_, rfl, (by walk_at "side"), ?_⟩
  | refine ⟨_, _, _, rfl, (by walk_at "hp"), ?_⟩
  | refine iteT ?_
  | refine iteF ?_)
local macro_rules | `(tactic| walk_at "rd") => `(tactic| repeat (walk_at "rd1"))
local macro_rules | `(tactic| walk_at "nn") => `(tactic| (simp only [Int.reduceToNat, Int.reducePow, Int.reduceMul, Int.reduceAdd, Int.reduceSub, Int.reduceNeg]))
local macro_rules | `(tactic| walk_at "dr") => `(tactic| repeat (first | refine And.intro (by first | assumption | walk_at "pre") ?_ | refine And.intro (by first | decide | omega) ?_))
local macro_rules | `(tactic| walk_at "vi") => `(tactic| ((try dsimp only [L2.cxOf, L2.Cx.nox, L2.Cx.wish, L2.Cx.blk, L2.Cx.suite, L2.Cx.tr, L2H.cxH, List.map_cons, List.map_nil]); (try simp only [List.map_cons, List.map_nil]); infer_instance))
local macro_rules | `(tactic| walk_at "w") => `(tactic| conv => whnf)
local macro_rules | `(tactic| walk_at "sz") => `(tactic| first
  | (show _ ≤ sizeLine; rw [sizeLine_eq]; first | decide | omega | (simp; done) | (simp; omega))
  | (show _ < sizeLine; rw [sizeLine_eq]; first | decide | omega | (simp; done) | (simp; omega)))
local macro_rules | `(tactic| walk_at "ok") => `(tactic| first
  | exact encInt.list.ok (by decide) _ | exact encInt.tupl.ok (by decide) _ | exact encStr.list.ok (by decide) _ | exact encStr.tupl.ok (by decide) _
  | exact (encInt.pair encInt).list.ok (by decide) _ | exact (encInt.pair encInt).ok (by decide) _ | exact (encStr.pair encStr).list.ok (by decide) _ | exact (encStr.pair encStr).ok (by decide) _
  | exact encInt.tupl.list.ok (by decide) _)
local macro_rules | `(tactic| walk_at "vs") => `(tactic| first
  | exact trivial
  | assumption
  | exact rfl
  | exact ⟨rfl, rfl⟩
  | walk_at "ok"
  | walk_at "sz"
  | exact .inl (.inr ⟨by decide, by decide⟩)
  | exact .inl (.inl ⟨by first | decide | omega, by first | decide | omega⟩)
  | exact .inl (.inr ⟨by first | decide | omega, by first | decide | omega⟩)
  | exact XR.divw (by first | decide | omega) (by first | decide | omega)
  | (show (0 : Int) < _; first | decide | omega)
  | exact ⟨by first | decide | omega, by first | decide | omega⟩
  | exact ⟨by first | decide | omega, by first | decide | omega, by first | decide | omega⟩
  | exact ⟨by walk_at "sz", by omega, by omega⟩
  | exact ⟨by walk_at "cls", by walk_at "noat"⟩
  | exact ⟨by walk_at "xf", by walk_at "xe"⟩
  | walk_at "exm"
  | decide
  | exact XR.log_lt (by omega) (by omega)
  | ((try dsimp only); (try simp only [List.length_map, List.length_append, List.length_cons, List.length_nil, List.length_eraseIdx]); omega))
local macro_rules | `(tactic| walk_at "v") => `(tactic| (walk_at "w"; (repeat ((first | refine And.intro (by walk_at "vs") ?_ | refine isS_i (by assumption) ?_); walk_at "w")); (try walk_at "n")))
local macro_rules | `(tactic| walk_at "isi") => `(tactic| first | refine ⟨_, VL.IsI.int_int _, ?_⟩ | refine ⟨_, VL.IsI.int_bool _, ?_⟩ | refine ⟨_, VL.IsI.int_str _, ?_⟩ | refine ⟨_, VL.IsI.int_list _, ?_⟩ | refine ⟨_, VL.IsI.int_tuple _, ?_⟩ | refine ⟨_, VL.IsI.bl_int _, ?_⟩ | refine ⟨_, VL.IsI.bl_bool _, ?_⟩ | refine ⟨_, VL.IsI.bl_str _, ?_⟩ | refine ⟨_, VL.IsI.str_str _, ?_⟩ | refine ⟨_, VL.IsI.str_int _, ?_⟩ | refine ⟨_, VL.IsI.str_bool _, ?_⟩ | refine ⟨_, VL.IsI.lst_list _, ?_⟩ | refine ⟨_, VL.IsI.lst_tuple _, ?_⟩ | refine ⟨_, VL.IsI.tup_list _, ?_⟩ | refine ⟨_, VL.IsI.tup_tuple _, ?_⟩ | refine ⟨_, VL.IsI.tup_str _, ?_⟩ | refine ⟨_, VL.IsI.tup_int _, ?_⟩ | refine ⟨_, VL.IsI.dk_dict _, ?_⟩ | refine ⟨_, VL.IsI.non_int, ?_⟩ | refine ⟨_, VL.IsI.non_tuple, ?_⟩ | refine ⟨_, VL.IsI.non_list, ?_⟩ | refine ⟨_, VL.IsI.non_str, ?_⟩)
local macro_rules | `(tactic| walk_at "V") => `(tactic| (walk_at "w"; (repeat ((first | refine And.intro (by walk_at "vs") ?_ | refine isS_i (by assumption) ?_ | refine Or.inr ?_ | walk_at "isi" | walk_at "eis" | refine ⟨_, rfl, ?_⟩); walk_at "w")); (try walk_at "n")))
set_option hygiene false
local macro_rules | `(tactic| walk_at "vb") => `(tactic| (refine br_i ?_ ?_ <;> intro hbr <;> (try simp only [nb, decide_eq_true_eq, decide_eq_false_iff_not, Bool.not_eq_true, Bool.not_eq_eq_eq_not, Bool.not_true, Bool.not_false, ne_eq, Bool.and_eq_true, Bool.or_eq_true, Bool.and_eq_false_imp, Decidable.not_not, Int.not_lt, Int.not_le, bne_iff_ne, Bool.not_eq_false, Bool.or_eq_false_iff, reduceCtorEq, not_true_eq_false, not_false_eq_true] at hbr)))
set_option hygiene true
local macro_rules | `(tactic| walk_at "le") => `(tactic| exact VL.Le.to rfl (Nat.le_of_ble_eq_true rfl))
local macro_rules | `(tactic| walk_at "d") => `(tactic| dsimp only at *)
local macro_rules | `(tactic| walk_at "n") => `(tactic| dsimp only [VL.env0, VL.slots0, VL.mem0, VL.nones, VL.falses, VL.put_mk, VL.push_mk, VL.set_mk, VL.unset_mk, VL.wipe_nl, VL.wipe_cs, VL.el_mk, VL.frs_nl, VL.frs_cs, VL.fr_mk, VL.frX, VL.frSl, VL.nth, Nat.reduceAdd, Nat.reduceSub, Nat.reduceMul, Nat.reduceBEq, List.set, List.length_cons, List.length_nil, List.cons_append, List.nil_append, VL.qI, VL.qT, VL.qR])
local macro_rules | `(tactic| walk_at "cls") => `(tactic| first | exact T_cl_Rule (by assumption))
local macro_rules | `(tactic| walk_at "noat") => `(tactic| first | exact Txt.no_Rule_terms (by assumption))
local macro_rules | `(tactic| walk_at "eis") => `(tactic| first | refine ⟨_, ⟨T_as_InvalidRule (by assumption), _, .cls _, Txt.z_InvalidRule_ImpossibleError (by assumption)⟩, ?_⟩ | refine ⟨_, ⟨T_as_InvalidRule (by assumption), _, .cls _, Txt.z_InvalidRule_InvalidRule (by assumption)⟩, ?_⟩ | refine ⟨_, ⟨T_as_InvalidRule (by assumption), _, .cls _, Txt.z_InvalidRule_TextError (by assumption)⟩, ?_⟩ | refine ⟨_, ⟨T_as_InvalidRule (by assumption), _, .cls _, Txt.z_InvalidRule_UnknownError (by assumption)⟩, ?_⟩ | refine ⟨_, ⟨T_as_InvalidRule (by assumption), _, .ty _, Txt.z_InvalidRule_ValueError (by assumption)⟩, ?_⟩ | refine ⟨_, Txt.m_InvalidRule_ArchiveError (by assumption), ?_⟩ | refine ⟨_, Txt.m_InvalidRule_InvalidText (by assumption), ?_⟩ | refine ⟨_, ⟨T_as_InvalidText (by assumption), _, .cls _, Txt.z_InvalidText_ImpossibleError (by assumption)⟩, ?_⟩ | refine ⟨_, ⟨T_as_InvalidText (by assumption), _, .cls _, Txt.z_InvalidText_InvalidRule (by assumption)⟩, ?_⟩ | refine ⟨_, ⟨T_as_InvalidText (by assumption), _, .cls _, Txt.z_InvalidText_TextError (by assumption)⟩, ?_⟩ | refine ⟨_, ⟨T_as_InvalidText (by assumption), _, .cls _, Txt.z_InvalidText_UnknownError (by assumption)⟩, ?_⟩ | refine ⟨_, ⟨T_as_InvalidText (by assumption), _, .ty _, Txt.z_InvalidText_ValueError (by assumption)⟩, ?_⟩ | refine ⟨_, Txt.m_InvalidText_ArchiveError (by assumption), ?_⟩ | refine ⟨_, Txt.m_InvalidText_InvalidText (by assumption), ?_⟩ | fail)
local macro_rules | `(tactic| walk_at "exm") => `(tactic| first | exact Txt.m_InvalidRule_ArchiveError (by assumption) | exact Txt.m_InvalidText_ArchiveError (by assumption) | exact Txt.m_InvalidText_InvalidText (by assumption) | fail)
local macro_rules | `(tactic| walk_at "xf") => `(tactic| first | exact T_xf_InvalidRule (by assumption) | exact T_xf_InvalidText (by assumption) | fail)
local macro_rules | `(tactic| walk_at "xe") => `(tactic| first | exact Txt.e_InvalidRule_at (by assumption) | exact Txt.e_InvalidText_text (by assumption) | fail)
local macro_rules | `(tactic| walk_at "isi") => `(tactic| first | refine ⟨_, VL.IsI.mk _ _ (.obj (fun _ _ _ _ e => T_ty_Rule (by assumption) e)) (.cls _) (Txt.zo_Rule_ImpossibleError (by assumption)), ?_⟩ | refine ⟨_, VL.IsI.mk _ _ (.obj (fun _ _ _ _ e => T_ty_Rule (by assumption) e)) (.cls _) (Txt.zo_Rule_InvalidRule (by assumption)), ?_⟩ | refine ⟨_, VL.IsI.mk _ _ (.obj (fun _ _ _ _ e => T_ty_Rule (by assumption) e)) (.cls _) (Txt.zo_Rule_Rule (by assumption)), ?_⟩ | refine ⟨_, VL.IsI.mk _ _ (.obj (fun _ _ _ _ e => T_ty_Rule (by assumption) e)) (.cls _) (Txt.zo_Rule_TextError (by assumption)), ?_⟩ | refine ⟨_, VL.IsI.mk _ _ (.obj (fun _ _ _ _ e => T_ty_Rule (by assumption) e)) (.cls _) (Txt.zo_Rule_UnknownError (by assumption)), ?_⟩ | refine ⟨_, VL.IsI.mk _ _ (.obj (fun _ _ _ _ e => T_ty_Rule (by assumption) e)) (.ty _) (Txt.zo_Rule_ValueError (by assumption)), ?_⟩ | refine ⟨_, VL.IsI.mk _ _ (.obj (fun _ _ _ _ e => T_ty_Rule (by assumption) e)) (.ty _) (Txt.zo_Rule_bool (by assumption)), ?_⟩ | refine ⟨_, VL.IsI.mk _ _ (.obj (fun _ _ _ _ e => T_ty_Rule (by assumption) e)) (.ty _) (Txt.zo_Rule_int (by assumption)), ?_⟩ | refine ⟨_, VL.IsI.mk _ _ (.obj (fun _ _ _ _ e => T_ty_Rule (by assumption) e)) (.ty _) (Txt.zo_Rule_list (by assumption)), ?_⟩ | refine ⟨_, VL.IsI.mk _ _ (.obj (fun _ _ _ _ e => T_ty_Rule (by assumption) e)) (.ty _) (Txt.zo_Rule_str (by assumption)), ?_⟩ | refine ⟨_, VL.IsI.mk _ _ (.obj (fun _ _ _ _ e => T_ty_Rule (by assumption) e)) (.ty _) (Txt.zo_Rule_tuple (by assumption)), ?_⟩)
section
variable {P : Program} {w : World} {K : PySem.W.Frag} {mg : Str → Option Value} {base : Heap} {D : Ad}
def tZ (r : List Int) : T := .tup (r.map T.int)
theorem encZ : Enc tZ 1 := encInt.tupl
def tP (p : Int × Int) : T := .tup [.int p.1, .int p.2]
theorem encP : Enc tP 1 := encInt.pair encInt
def pr (p : Int × Int) : List Int := [p.1, p.2]
theorem tZ_pr (p : Int × Int) : tZ (pr p) = tP p := rfl
structure TermsOk (m : Int) (ts : List (Int × Int)) : Prop where
  mr : ∀ t ∈ ts, 0 ≤ t.1 ∧ t.1 < m
  dr : ∀ t ∈ ts, t.2 = 1 ∨ t.2 = -1
  nd : (ts.map Prod.fst).Nodup
  m4 : 0 ≤ m ∧ m ≤ 4
  ln : ts.length ≤ 4
def tSq (b : Bool) (ts : List T) : T := if b then .lst ts else .tup ts
def tRule (D : Ad) (ts : List (Int × Int)) : T := .obj D.c_Rule [("terms", .tup (ts.map tP))]
/-- a term as the program asks it -/
def isT (r : List Int) : Bool := match r with
  | [a, d] => decide (0 ≤ a ∧ a < 4) && decide (d ∈ [1, -1])
  | _ => false
theorem isT_pr {r : List Int} (h : isT r = true) : ∃ p : Int × Int, r = pr p ∧ (0 ≤ p.1 ∧ p.1 < 4) ∧ (p.2 = 1 ∨ p.2 = -1) := by
  match r, h with
  | [a, d], h =>
    have h : (decide (0 ≤ a ∧ a < 4) && decide (d ∈ [1, -1])) = true := h
    simp only [Bool.and_eq_true, decide_eq_true_eq, List.mem_cons, List.not_mem_nil, or_false] at h
    exact ⟨(a, d), rfl, h.1, h.2⟩
def hd (r : List Int) : Int := r.headD 0
/-- the first wrong one -/
def go : List (List Int) → Nat → List Int → Option Nat
  | [], _, _ => none
  | r :: rs, i, seen => if isT r = true ∧ hd r ∉ seen then go rs (i + 1) (seen ++ [hd r]) else some i
def bad (rs : List (List Int)) : Option Nat := go rs 0 []
/-- what stands ahead of the first wrong one -/
theorem go_pre : ∀ (rs : List (List Int)) (i : Nat) (seen : List Int), seen.Nodup → ∃ ts : List (Int × Int), (∀ t ∈ ts, 0 ≤ t.1 ∧ t.1 < 4) ∧ (∀ t ∈ ts, t.2 = 1 ∨ t.2 = -1) ∧ (seen ++ ts.map Prod.fst).Nodup ∧ (go rs i seen = none → rs = ts.map pr) ∧ ∀ k, go rs i seen = some k → i ≤ k ∧ k - i < rs.length ∧ rs.take (k - i) = ts.map pr
  | [], i, seen, hs => ⟨[], by simp, by simp, by simpa using hs, fun _ => rfl, fun k h => by cases h⟩
  | r :: rs, i, seen, hs => by
    by_cases h : isT r = true ∧ hd r ∉ seen
    · have hs2 : (seen ++ [hd r]).Nodup := List.nodup_append.mpr ⟨hs, by simp, fun a ha b hb => by rw [List.mem_singleton.mp hb]; exact fun z => h.2 (z ▸ ha)⟩
      obtain ⟨ts, h1, h2, h3, h4, h5⟩ := go_pre rs (i + 1) (seen ++ [hd r]) hs2
      obtain ⟨p, rfl, p1, p2⟩ := isT_pr h.1
      refine ⟨p :: ts, ?_, ?_, ?_, fun e => ?_, fun k e => ?_⟩
      · intro t ht
        rcases List.mem_cons.mp ht with rfl | ht
        · exact p1
        · exact h1 t ht
      · intro t ht
        rcases List.mem_cons.mp ht with rfl | ht
        · exact p2
        · exact h2 t ht
      · rw [List.append_assoc] at h3
        exact h3
      · unfold go at e
        rw [if_pos h] at e
        rw [h4 e]; rfl
      · unfold go at e
        rw [if_pos h] at e
        obtain ⟨k1, k2, k3⟩ := h5 k e
        refine ⟨by omega, by rw [List.length_cons]; omega, ?_⟩
        rw [show k - i = (k - (i + 1)) + 1 by omega, List.take_succ_cons, k3]
        rfl
    · refine ⟨[], by simp, by simp, by simpa using hs, fun e => ?_, fun k e => ?_⟩
      · unfold go at e
        rw [if_neg h] at e
        cases e
      · unfold go at e
        rw [if_neg h] at e
        cases e
        exact ⟨Nat.le_refl _, by rw [Nat.sub_self, List.length_cons]; omega, by rw [Nat.sub_self]; rfl⟩
theorem pr_map (ts : List (Int × Int)) : (ts.map pr).map tZ = ts.map tP := by rw [List.map_map]; rfl
theorem nodup_le : ∀ (n : Nat) (xs : List Int), xs.Nodup → (∀ x ∈ xs, 0 ≤ x ∧ x < (n : Int)) → xs.length ≤ n
  | 0, [], _, _ => Nat.le_refl _
  | 0, x :: _, _, hb => by have := hb x List.mem_cons_self; omega
  | n + 1, xs, h, hb => by
    have ih := nodup_le n (xs.erase (n : Int)) (h.erase _) fun x hx => by
      have := (List.Nodup.mem_erase_iff h).mp hx
      have := hb x this.2
      omega
    by_cases hm : (n : Int) ∈ xs
    · rw [List.length_erase_of_mem hm] at ih
      omega
    · rw [List.erase_of_not_mem hm] at ih
      omega
theorem nodup_four {xs : List Int} (h : xs.Nodup) (hb : ∀ x ∈ xs, 0 ≤ x ∧ x < 4) : xs.length ≤ 4 := nodup_le 4 xs h hb
theorem bad_pre (rs : List (List Int)) : ∃ ts : List (Int × Int), TermsOk 4 ts ∧ (bad rs = none → rs = ts.map pr) ∧ ∀ k, bad rs = some k → k < rs.length ∧ rs.take k = ts.map pr := by
  obtain ⟨ts, h1, h2, h3, h4, h5⟩ := go_pre rs 0 [] List.nodup_nil
  have h3 : (ts.map Prod.fst).Nodup := h3
  have l4 : ts.length ≤ 4 := by
    have := nodup_four h3 fun x hx => by
      obtain ⟨t, ht, rfl⟩ := List.mem_map.mp hx
      exact h1 t ht
    rwa [List.length_map] at this
  exact ⟨ts, ⟨h1, h2, h3, by decide, l4⟩, h4, fun k e => (h5 k e).2⟩
theorem go_ok : ∀ (ts : List (Int × Int)) (i : Nat) (seen : List Int), (∀ t ∈ ts, 0 ≤ t.1 ∧ t.1 < 4) → (∀ t ∈ ts, t.2 = 1 ∨ t.2 = -1) → (seen ++ ts.map Prod.fst).Nodup → go (ts.map pr) i seen = none
  | [], _, _, _, _, _ => rfl
  | t :: ts, i, seen, h1, h2, h3 => by
    have e : isT (pr t) = true ∧ hd (pr t) ∉ seen := by
      refine ⟨?_, fun z => ?_⟩
      · have a := h1 t List.mem_cons_self
        have b := h2 t List.mem_cons_self
        show (decide (0 ≤ t.1 ∧ t.1 < 4) && decide (t.2 ∈ [1, -1])) = true
        rw [decide_eq_true a, Bool.true_and]
        exact decide_eq_true (by simpa using b)
      · exact (List.nodup_append.mp h3).2.2 _ z t.1 (List.mem_cons_self) rfl
    show go (pr t :: ts.map pr) i seen = none
    unfold go
    rw [if_pos e]
    refine go_ok ts (i + 1) (seen ++ [hd (pr t)]) (fun t ht => h1 t (List.mem_cons_of_mem _ ht)) (fun t ht => h2 t (List.mem_cons_of_mem _ ht)) ?_
    rw [List.append_assoc]
    exact h3
theorem bad_ok {ts : List (Int × Int)} (h : TermsOk 4 ts) : bad (ts.map pr) = none := go_ok ts 0 [] h.mr h.dr h.nd
def tRw (r : List (Int × Int)) : T := .tup (r.map tP)
theorem encRw : Enc tRw 2 := encP.tupl
abbrev Row := List (Int × Int)
/-- the terms of some marks, and the rules of all of them -/
def tms (c : Nat) : Row := (List.range c).flatMap fun (i : Nat) => [((i : Int), 1), ((i : Int), -1)]
def ext1 (p : Row) (ts : Row) : List Row := (ts.filter fun t => decide (t.1 ∉ p.map Prod.fst)).map fun t => p ++ [t]
def pre (c : Nat) : Nat → List Row
  | 0 => [[]]
  | i + 1 => (pre c i).flatMap fun p => ext1 p (tms c)
def exl1 (c : Nat) (p : List Int) (n : Nat) : List (List Int) := ((List.range n).filter fun (r : Nat) => decide ((r : Int) / 2 ∉ p.map (· / 2))).map fun (r : Nat) => p ++ [(r : Int)]
def prl (c : Nat) : Nat → List (List Int)
  | 0 => [[]]
  | i + 1 => (prl c i).flatMap fun p => exl1 c p (2 * c)
def ofRank (r : Int) : Int × Int := (r / 2, 1 - 2 * (r % 2))
def full (c : Nat) : List Row := (prl c c).map fun p => p.map ofRank
theorem full_eq : ∀ c, c < 4 → pre c c = full c := by decide +kernel
theorem pre_len : ∀ c, c < 4 → ∀ i, i < 4 → i ≤ c → (pre c i).length ≤ 48 := by decide +kernel
theorem prl_len : ∀ c, c < 4 → ∀ i, i < 4 → i ≤ c → (prl c i).length ≤ 48 := by decide +kernel
theorem prl_ok : ∀ c, c < 4 → ∀ i, i < 4 → i ≤ c → ∀ p ∈ prl c i, p.length = i ∧ ∀ r ∈ p, 0 ≤ r ∧ r < 8 := by decide +kernel
theorem pre_ok : ∀ c, c < 4 → ∀ i, i < 4 → i ≤ c → ∀ p ∈ pre c i, p.length = i := by decide +kernel
theorem tms_len : ∀ c, c < 4 → (tms c).length ≤ 6 := by decide +kernel
def okB (c : Nat) (r : Row) : Bool := r.all (fun t => decide (0 ≤ t.1) && decide (t.1 < (c : Int)) && (decide (t.2 = 1) || decide (t.2 = -1))) && decide ((r.map Prod.fst).Nodup) && decide (r.length ≤ 4) && (List.range c).all fun (i : Nat) => decide ((i : Int) ∈ r.map Prod.fst)
theorem full_okB : ∀ c, c < 4 → ∀ r ∈ full c, okB c r = true := by decide +kernel
theorem full_ok {c : Nat} (hc : c < 4) {r : Row} (h : r ∈ full c) : TermsOk (c : Int) r := by
  have := full_okB c hc r h
  unfold okB at this
  simp only [Bool.and_eq_true, List.all_eq_true, Bool.or_eq_true, decide_eq_true_eq, List.mem_range] at this
  obtain ⟨⟨⟨h1, h2⟩, h3⟩, h4⟩ := this
  exact ⟨fun t ht => (h1 t ht).1, fun t ht => (h1 t ht).2, h2, by omega, h3⟩
theorem TermsOk.up {m : Int} {ts : List (Int × Int)} (h : TermsOk m ts) : TermsOk 4 ts := ⟨fun t ht => by have := h.mr t ht; have := h.m4; omega, h.dr, h.nd, by decide, h.ln⟩
/-! ### texts of rules, by their signs -/
def wd (l : List Nat) : List (List Nat) := TL.spl [32] 0 [] l
theorem spl32 (acc : List Nat) (c : Nat) (r : List Nat) : TL.spl [32] 0 acc (c :: r) = if c = 32 then acc :: TL.spl [32] 0 [] r else TL.spl [32] 0 (acc ++ [c]) r := by
  have e : TL.pre [32] (c :: r) = decide (c = 32) := by
    by_cases h : c = 32
    · subst h; rw [decide_eq_true rfl]; rfl
    · rw [decide_eq_false h]
      unfold TL.pre
      simp [Ne.symm h]
      exact h
  by_cases h : c = 32
  · rw [if_pos h, TL.spl_hit (by rw [e]; exact decide_eq_true h)]; rfl
  · rw [if_neg h, TL.spl_miss (by rw [e]; exact decide_eq_false h)]
theorem spl_ne : ∀ (l acc : List Nat), TL.spl [32] 0 acc l ≠ []
  | [], acc => by rw [TL.spl_nil]; simp
  | c :: r, acc => by
    rw [spl32]
    split
    · simp
    · exact spl_ne r _
theorem joinL_cons {a x : List Nat} : ∀ {ys : List (List Nat)}, ys ≠ [] → TL.joinL a (x :: ys) = x ++ (a ++ TL.joinL a ys)
  | [], h => absurd rfl h
  | y :: r, _ => by
    show _ = _
    simp [TL.joinL]
theorem join_spl : ∀ (l acc : List Nat), TL.joinL [32] (TL.spl [32] 0 acc l) = acc ++ l
  | [], acc => by rw [TL.spl_nil, List.append_nil]; rfl
  | c :: r, acc => by
    rw [spl32]
    split
    · rename_i h
      rw [joinL_cons (spl_ne r []), join_spl r [], h]
      rfl
    · rw [join_spl r, List.append_assoc]; rfl
def okW (w : List Nat) : Bool := match w with
  | [a, b] => decide (a ∈ [48, 49, 50, 51]) && decide (b ∈ [43, 45])
  | _ => false
def trm (w : List Nat) : Int × Int := match w with
  | [a, b] => ((a : Int) - 48, if b = 43 then 1 else -1)
  | _ => (0, 0)
def rd (l : List Nat) : Option Row := if l = [] then some [] else if (wd l).all okW = true then some ((wd l).map trm) else none
def tw (p : Int × Int) : List Nat := [48 + p.1.toNat, if p.2 = 1 then 43 else 45]
theorem okW_inv {w : List Nat} (h : okW w = true) : ∃ a b, w = [a, b] ∧ (a = 48 ∨ a = 49 ∨ a = 50 ∨ a = 51) ∧ (b = 43 ∨ b = 45) := by
  match w, h with
  | [a, b], h =>
    have h : (decide (a ∈ [48, 49, 50, 51]) && decide (b ∈ [43, 45])) = true := h
    simp only [Bool.and_eq_true, decide_eq_true_eq, List.mem_cons, List.not_mem_nil, or_false] at h
    exact ⟨a, b, rfl, h.1, h.2⟩
theorem okW_yes {a b : Nat} (ha : a ∈ [48, 49, 50, 51]) (hb : b ∈ [43, 45]) : okW [a, b] = true := by
  show (decide (a ∈ [48, 49, 50, 51]) && decide (b ∈ [43, 45])) = true
  simp only [ha, hb, decide_true, Bool.and_self]
theorem okW_no {a b : Nat} (h : ¬ (a ∈ [48, 49, 50, 51] ∧ b ∈ [43, 45])) : okW [a, b] = false := by
  show (decide (a ∈ [48, 49, 50, 51]) && decide (b ∈ [43, 45])) = false
  rw [← Bool.decide_and]
  exact decide_eq_false h
theorem tw_trm {w : List Nat} (h : okW w = true) : tw (trm w) = w := by
  obtain ⟨a, b, rfl, ha, hb⟩ := okW_inv h
  rcases ha with rfl | rfl | rfl | rfl <;> rcases hb with rfl | rfl <;> rfl
theorem trm_good {w : List Nat} (h : okW w = true) : (0 ≤ (trm w).1 ∧ (trm w).1 < 4) ∧ ((trm w).2 = 1 ∨ (trm w).2 = -1) := by
  obtain ⟨a, b, rfl, ha, hb⟩ := okW_inv h
  rcases ha with rfl | rfl | rfl | rfl <;> rcases hb with rfl | rfl <;> decide
def txt (ts : Row) : List Nat := TL.joinL [32] (ts.map tw)
theorem txt_rd {l : List Nat} {ts : Row} (h : rd l = some ts) : txt ts = l := by
  unfold rd at h
  split at h
  · rename_i e
    cases h
    rw [e]; rfl
  · split at h
    · rename_i h2
      cases h
      rw [List.all_eq_true] at h2
      unfold txt
      rw [List.map_map, show (wd l).map (tw ∘ trm) = wd l from by
        conv => rhs; rw [← List.map_id (wd l)]
        exact List.map_congr_left fun w hw => tw_trm (h2 w hw)]
      exact join_spl l []
    · cases h
theorem rd_good {l : List Nat} {ts : Row} (h : rd l = some ts) : ∀ t ∈ ts, (0 ≤ t.1 ∧ t.1 < 4) ∧ (t.2 = 1 ∨ t.2 = -1) := by
  unfold rd at h
  split at h
  · cases h; intro t ht; cases ht
  · split at h
    · rename_i h2
      cases h
      rw [List.all_eq_true] at h2
      intro t ht
      obtain ⟨w, hw, rfl⟩ := List.mem_map.mp ht
      exact trm_good (h2 w hw)
    · cases h
theorem tw_ok {p : Int × Int} (h : 0 ≤ p.1 ∧ p.1 < 4) (h2 : p.2 = 1 ∨ p.2 = -1) : okW (tw p) = true ∧ trm (tw p) = p ∧ 32 ∉ tw p := by
  obtain ⟨a, d⟩ := p
  have ha : a = 0 ∨ a = 1 ∨ a = 2 ∨ a = 3 := by dsimp only at h; omega
  rcases ha with rfl | rfl | rfl | rfl <;> rcases h2 with h2 | h2 <;> (dsimp only at h2; subst h2; decide)
theorem rd_txt {ts : Row} (h : ∀ t ∈ ts, (0 ≤ t.1 ∧ t.1 < 4) ∧ (t.2 = 1 ∨ t.2 = -1)) : rd (txt ts) = some ts := by
  by_cases hn : ts = []
  · subst hn; rfl
  have hw : wd (txt ts) = ts.map tw := TL.spl_join (by simpa using hn) fun p hp => by
    obtain ⟨t, ht, rfl⟩ := List.mem_map.mp hp
    exact (tw_ok (h t ht).1 (h t ht).2).2.2
  unfold rd
  rw [if_neg (by
    intro e
    rw [e] at hw
    match ts, hn with
    | t :: r, _ => cases hw), hw, if_pos (by
    rw [List.all_eq_true]
    intro w hw2
    obtain ⟨t, ht, rfl⟩ := List.mem_map.mp hw2
    exact (tw_ok (h t ht).1 (h t ht).2).1), List.map_map]
  congr 1
  conv => rhs; rw [← List.map_id ts]
  exact List.map_congr_left fun t ht => (tw_ok (h t ht).1 (h t ht).2).2.1
theorem TermsOk.good {ts : Row} (h : TermsOk 4 ts) : ∀ t ∈ ts, (0 ≤ t.1 ∧ t.1 < 4) ∧ (t.2 = 1 ∨ t.2 = -1) := fun t ht => ⟨h.mr t ht, h.dr t ht⟩
theorem spl_len : ∀ (l acc : List Nat), (TL.spl [32] 0 acc l).length ≤ l.length + 1
  | [], acc => by rw [TL.spl_nil]; exact Nat.le_refl _
  | c :: r, acc => by
    rw [spl32]
    split
    · have := spl_len r []; simp only [List.length_cons]; omega
    · have := spl_len r (acc ++ [c]); simp only [List.length_cons]; omega
theorem rd_len {l : List Nat} {ts : Row} (h : rd l = some ts) : ts.length ≤ l.length + 1 := by
  unfold rd at h
  split at h
  · cases h; exact Nat.zero_le _
  · split at h
    · cases h; rw [List.length_map]; exact spl_len l []
    · cases h
/-! ### literals -/
theorem q_nil : Str.ofString "" = SX.S [] := rfl
theorem q_sp : Str.ofString " " = SX.S [32] := by decide +kernel
theorem q_p : Str.ofString "+" = SX.S [43] := by decide +kernel
theorem q_m : Str.ofString "-" = SX.S [45] := by decide +kernel
theorem q_pm : Str.ofString "+-" = SX.S [43, 45] := by decide +kernel
theorem q_4 : Str.ofString "0123" = SX.S [48, 49, 50, 51] := by decide +kernel
theorem szL {w : List Nat} (h : w.length ≤ 1000) : (SX.S w).length ≤ sizeLine := by rw [SX.S_len]; unfold sizeLine; omega
theorem szS {w : List Nat} (h : w.length ≤ 1000) : (SX.S w).length + 2 ≤ sizeLine := by rw [SX.S_len]; unfold sizeLine; omega
theorem in_4 (c : Nat) : (!(Builtin.Str.occurrences (Str.ofString "0123") ⟨#[c]⟩ 0 (Str.ofString "0123").length 1).isEmpty) = decide (c ∈ [48, 49, 50, 51]) := by rw [q_4]; exact SX.in_one _ c
theorem in_2 (c : Nat) : (!(Builtin.Str.occurrences (Str.ofString "+-") ⟨#[c]⟩ 0 (Str.ofString "+-").length 1).isEmpty) = decide (c ∈ [43, 45]) := by rw [q_pm]; exact SX.in_one _ c
theorem S_eq (a b : List Nat) : decide (SX.S a = SX.S b) = decide (a = b) := decide_eq_decide.mpr ⟨SX.S_inj, fun h => by rw [h]⟩
theorem chr_eq (c d : Nat) : decide ((⟨#[c]⟩ : Str) = SX.S [d]) = decide (c = d) := decide_eq_decide.mpr ⟨fun h => by have := SX.S_inj (a := [c]) (b := [d]) h; simpa using this, fun h => by rw [h]⟩
theorem chr_iff {c d : Nat} {q : Str} (h : q = SX.S [d]) : (⟨#[c]⟩ : Str) = q ↔ c = d := by rw [h]; exact ⟨fun h => by have := SX.S_inj (a := [c]) (b := [d]) h; simpa using this, fun h => by rw [h]⟩
theorem in_l4 (c : Nat) : anyT (.str ⟨#[c]⟩) [.str (Str.ofString "0"), .str (Str.ofString "1"), .str (Str.ofString "2"), .str (Str.ofString "3")] = decide (c ∈ [48, 49, 50, 51]) := by
  show anyT (T.str _) ([Str.ofString "0", Str.ofString "1", Str.ofString "2", Str.ofString "3"].map T.str) = _
  rw [encStr.mem]
  refine decide_eq_decide.mpr ?_
  simp only [List.mem_cons, List.not_mem_nil, or_false]
  rw [chr_iff (d := 48) (by decide +kernel), chr_iff (d := 49) (by decide +kernel), chr_iff (d := 50) (by decide +kernel), chr_iff (d := 51) (by decide +kernel)]
theorem in_l2 (c : Nat) : anyT (.str ⟨#[c]⟩) [.str (Str.ofString "+"), .str (Str.ofString "-")] = decide (c ∈ [43, 45]) := by
  show anyT (T.str _) ([Str.ofString "+", Str.ofString "-"].map T.str) = _
  rw [encStr.mem]
  refine decide_eq_decide.mpr ?_
  simp only [List.mem_cons, List.not_mem_nil, or_false]
  rw [chr_iff (d := 43) q_p, chr_iff (d := 45) q_m]
/-- the first repeated one, among good terms -/
theorem go_at {ts : Row} (hg : ∀ t ∈ ts, (0 ≤ t.1 ∧ t.1 < 4) ∧ (t.2 = 1 ∨ t.2 = -1)) {i : Nat} {t : Int × Int} (h : ts[i]? = some t) : go ((ts.drop i).map pr) i ((ts.take i).map Prod.fst) = if t.1 ∈ (ts.take i).map Prod.fst then some i else go ((ts.drop (i + 1)).map pr) (i + 1) ((ts.take (i + 1)).map Prod.fst) := by
  obtain ⟨hi, e⟩ := List.getElem?_eq_some_iff.mp h
  have hm := List.mem_of_getElem? h
  rw [List.drop_eq_getElem_cons hi, e, List.map_cons]
  have ht : isT (pr t) = true := by
    have g := hg t hm
    show (decide (0 ≤ t.1 ∧ t.1 < 4) && decide (t.2 ∈ [1, -1])) = true
    rw [decide_eq_true g.1, Bool.true_and]
    exact decide_eq_true (by simpa using g.2)
  conv => lhs; unfold go
  by_cases z : t.1 ∈ (ts.take i).map Prod.fst
  · rw [if_pos z, if_neg (by rintro ⟨_, q⟩; exact q z)]
  · rw [if_neg z, if_pos ⟨ht, z⟩, XR.take_one h, List.map_append]
    rfl
local macro_rules | `(tactic| walk_at "ok") => `(tactic| first | exact encP.ok (by decide) _ | exact encRw.ok (by decide) _ | exact encRw.list.ok (by decide) _ | exact encP.tupl.ok (by decide) _ | exact encP.list.ok (by decide) _)
local macro_rules | `(tactic| walk_at "vs") => `(tactic| first | exact VL.strOk_of _ | exact szL (by omega) | exact szS (by omega))
end
end Toy
set_option Elab.async false
set_option linter.all false
set_option maxRecDepth 100000
set_option maxHeartbeats 4000000
set_option synthInstance.maxSize 1000000
set_option synthInstance.maxHeartbeats 4000000
namespace Toy
open PySem L2 XR VL
local macro_rules | `(tactic| walk_at "ne") => `(tactic| first | assumption | (apply Ne.symm; assumption) | exact XR.ne_fresh (by assumption) (by walk_at "hp") | exact Ne.symm (XR.ne_fresh (by assumption) (by walk_at "hp")))
local macro_rules | `(tactic| walk_at "hp") => `(tactic| first | assumption | exact upd_same | (refine Eq.trans (upd_ne ?_) ?_; (walk_at "ne"); walk_at "hp"))
local macro_rules | `(tactic| walk_at "sq") => `(tactic| first | walk_at "hp" | exact SqL.of (by walk_at "hp") | exact SqT.of (by walk_at "hp") | exact XR.SqT.same (by assumption) (by assumption) | exact XR.SqL.same (by assumption) (by assumption))
local macro_rules | `(tactic| walk_at "br") => `(tactic| (refine ite2 ?_ ?_ <;> intro hbr <;> (try simp only [decide_eq_true_eq, decide_eq_false_iff_not, V.int.injEq, V.bl.injEq, V.str.injEq, Bool.not_eq_true, Bool.not_eq_eq_eq_not, Bool.not_true, Bool.not_false, ne_eq, Int.reduceToNat, Int.reducePow, Int.reduceMul, Int.reduceAdd, Int.reduceSub, reduceCtorEq, not_true_eq_false, not_false_eq_true, Int.not_lt, Int.not_le] at hbr)))
local macro_rules | `(tactic| walk_at "side") => `(tactic| first
  | exact ⟨by decide, by decide, by decide⟩
  | exact .inl ⟨by decide, by decide⟩
  | exact .inr ⟨by decide, by decide⟩
  | exact XR.divw (by first | decide | omega) (by first | decide | omega)
  | (show (_ : Int) = _; first | rfl | omega)
  | (show (0 : Int) < _; first | decide | assumption | omega)
  | exact .inl ⟨by omega, by omega⟩
  | exact .inr ⟨by omega, by omega⟩
  | exact .inl (XR.cmul_mod (by decide))
  | exact XR.log_lt (by omega) (by omega)
  | decide
  | (rw [sizeLine_eq]; simp; done)
  | (show 2 ≤ sizeLine; decide) | (show 3 ≤ sizeLine; decide) | (show 4 ≤ sizeLine; decide) | (show 5 ≤ sizeLine; decide) | (show 6 ≤ sizeLine; decide) | (show 7 ≤ sizeLine; decide) | (show 1 ≤ sizeLine; decide) | (show 8 ≤ sizeLine; decide) | (show 0 ≤ sizeLine; decide))
local macro_rules | `(tactic| walk_at "rd1") => `(tactic| first
  | refine ⟨_, rfl, ?_⟩
  | refine ⟨_, _, rfl, rfl, ?_⟩
  | refine ⟨_, _, _, _, rfl, rfl, (by walk_at "sq"), rfl, ?_⟩
  | refine ⟨_, _, _, _, rfl, rfl, (by walk_at "hp"), (by walk_at "hp"), (by walk_at "side"), ?_⟩
  | refine ⟨_, _, rfl, .inl (by walk_at "sq"), ?_⟩
  | refine ⟨_, _, rfl, .inl ⟨(by walk_at "sq"), ?_⟩⟩
  | refine ⟨_, _, rfl, .inr (by walk_at "sq"), ?_⟩
  | refine ⟨_, _, _, _, _, rfl, (by walk_at "hp"), (by walk_at "cls"), (by walk_at "noat"), rfl, ?_⟩
  | refine ⟨_, _, _, _, rfl, rfl, (by walk_at "sq"), (by first | assumption | exact XR.at0 | exact XR.at1), ?_⟩
  | refine ⟨rfl, ?_⟩
  | refine And.intro (by walk_at "side") ?_
  | refine .inl ⟨_, rfl, ?_⟩
  | refine And.intro ⟨_, (by walk_at "sq")⟩ ?_
  | refine ⟨_, _, rfl, (by walk_at "sq"), ?_⟩
  | refine ⟨_, _, rfl, ?_⟩
  | refine .inr ⟨_, rfl, (by walk_at "side"), ?_⟩
  | refine ⟨_, _, _, rfl, (by walk_at "hp"), ?_⟩
  | refine iteT ?_
  | refine iteF ?_)
local macro_rules | `(tactic| walk_at "rd") => `(tactic| repeat (walk_at "rd1"))
local macro_rules | `(tactic| walk_at "nn") => `(tactic| (simp only [Int.reduceToNat, Int.reducePow, Int.reduceMul, Int.reduceAdd, Int.reduceSub, Int.reduceNeg]))
local macro_rules | `(tactic| walk_at "dr") => `(tactic| repeat (first | refine And.intro (by first | assumption | walk_at "pre") ?_ | refine And.intro (by first | decide | omega) ?_))
local macro_rules | `(tactic| walk_at "vi") => `(tactic| ((try dsimp only [L2.cxOf, L2.Cx.nox, L2.Cx.wish, L2.Cx.blk, L2.Cx.suite, L2.Cx.tr, L2H.cxH, List.map_cons, List.map_nil]); (try simp only [List.map_cons, List.map_nil]); infer_instance))
local macro_rules | `(tactic| walk_at "w") => `(tactic| conv => whnf)
local macro_rules | `(tactic| walk_at "sz") => `(tactic| first
  | (show _ ≤ sizeLine; rw [sizeLine_eq]; first | decide | omega | (simp; done) | (simp; omega))
  | (show _ < sizeLine; rw [sizeLine_eq]; first | decide | omega | (simp; done) | (simp; omega)))
local macro_rules | `(tactic| walk_at "ok") => `(tactic| first
  | exact encInt.list.ok (by decide) _ | exact encInt.tupl.ok (by decide) _ | exact encStr.list.ok (by decide) _ | exact encStr.tupl.ok (by decide) _
  | exact (encInt.pair encInt).list.ok (by decide) _ | exact (encInt.pair encInt).ok (by decide) _ | exact (encStr.pair encStr).list.ok (by decide) _ | exact (encStr.pair encStr).ok (by decide) _
  | exact encInt.tupl.list.ok (by decide) _)
local macro_rules | `(tactic| walk_at "vs") => `(tactic| first
  | exact trivial
  | assumption
  | exact rfl
  | exact ⟨rfl, rfl⟩
  | walk_at "ok"
  | walk_at "sz"
  | exact .inl (.inr ⟨by decide, by decide⟩)
  | exact .inl (.inl ⟨by first | decide | omega, by first | decide | omega⟩)
  | exact .inl (.inr ⟨by first | decide | omega, by first | decide | omega⟩)
  | exact XR.divw (by first | decide | omega) (by first | decide | omega)
  | (show (0 : Int) < _; first | decide | omega)
  | exact ⟨by first | decide | omega, by first | decide | omega⟩
  | exact ⟨by first | decide | omega, by first | decide | omega, by first | decide | omega⟩
  | exact ⟨by walk_at "sz", by omega, by omega⟩
  | exact ⟨by walk_at "cls", by walk_at "noat"⟩
  | exact ⟨by walk_at "xf", by walk_at "xe"⟩
  | walk_at "exm"
  | decide
  | exact XR.log_lt (by omega) (by omega)
  | ((try dsimp only); (try simp only [List.length_map, List.length_append, List.length_cons, List.length_nil, List.length_eraseIdx]); omega))
local macro_rules | `(tactic| walk_at "v") => `(tactic| (walk_at "w"; (repeat ((first | refine And.intro (by walk_at "vs") ?_ | refine isS_i (by assumption) ?_); walk_at "w")); (try walk_at "n")))
local macro_rules | `(tactic| walk_at "isi") => `(tactic| first | refine ⟨_, VL.IsI.int_int _, ?_⟩ | refine ⟨_, VL.IsI.int_bool _, ?_⟩ | refine ⟨_, VL.IsI.int_str _, ?_⟩ | refine ⟨_, VL.IsI.int_list _, ?_⟩ | refine ⟨_, VL.IsI.int_tuple _, ?_⟩ | refine ⟨_, VL.IsI.bl_int _, ?_⟩ | refine ⟨_, VL.IsI.bl_bool _, ?_⟩ | refine ⟨_, VL.IsI.bl_str _, ?_⟩ | refine ⟨_, VL.IsI.str_str _, ?_⟩ | refine ⟨_, VL.IsI.str_int _, ?_⟩ | refine ⟨_, VL.IsI.str_bool _, ?_⟩ | refine ⟨_, VL.IsI.lst_list _, ?_⟩ | refine ⟨_, VL.IsI.lst_tuple _, ?_⟩ | refine ⟨_, VL.IsI.tup_list _, ?_⟩ | refine ⟨_, VL.IsI.tup_tuple _, ?_⟩ | refine ⟨_, VL.IsI.tup_str _, ?_⟩ | refine ⟨_, VL.IsI.tup_int _, ?_⟩ | refine ⟨_, VL.IsI.dk_dict _, ?_⟩ | refine ⟨_, VL.IsI.non_int, ?_⟩ | refine ⟨_, VL.IsI.non_tuple, ?_⟩ | refine ⟨_, VL.IsI.non_list, ?_⟩ | refine ⟨_, VL.IsI.non_str, ?_⟩)
local macro_rules | `(tactic| walk_at "V") => `(tactic| (walk_at "w"; (repeat ((first | refine And.intro (by walk_at "vs") ?_ | refine isS_i (by assumption) ?_ | refine Or.inr ?_ | walk_at "isi" | walk_at "eis" | refine ⟨_, rfl, ?_⟩); walk_at "w")); (try walk_at "n")))
set_option hygiene false
local macro_rules | `(tactic| walk_at "vb") => `(tactic| (refine br_i ?_ ?_ <;> intro hbr <;> (try simp only [nb, decide_eq_true_eq, decide_eq_false_iff_not, Bool.not_eq_true, Bool.not_eq_eq_eq_not, Bool.not_true, Bool.not_false, ne_eq, Bool.and_eq_true, Bool.or_eq_true, Bool.and_eq_false_imp, Decidable.not_not, Int.not_lt, Int.not_le, bne_iff_ne, Bool.not_eq_false, Bool.or_eq_false_iff, reduceCtorEq, not_true_eq_false, not_false_eq_true] at hbr)))
set_option hygiene true
local macro_rules | `(tactic| walk_at "le") => `(tactic| exact VL.Le.to rfl (Nat.le_of_ble_eq_true rfl))
local macro_rules | `(tactic| walk_at "d") => `(tactic| dsimp only at *)
local macro_rules | `(tactic| walk_at "n") => `(tactic| dsimp only [VL.env0, VL.slots0, VL.mem0, VL.nones, VL.falses, VL.put_mk, VL.push_mk, VL.set_mk, VL.unset_mk, VL.wipe_nl, VL.wipe_cs, VL.el_mk, VL.frs_nl, VL.frs_cs, VL.fr_mk, VL.frX, VL.frSl, VL.nth, Nat.reduceAdd, Nat.reduceSub, Nat.reduceMul, Nat.reduceBEq, List.set, List.length_cons, List.length_nil, List.cons_append, List.nil_append, VL.qI, VL.qT, VL.qR])
local macro_rules | `(tactic| walk_at "cls") => `(tactic| first | exact T_cl_Rule (by assumption))
local macro_rules | `(tactic| walk_at "noat") => `(tactic| first | exact Txt.no_Rule_terms (by assumption))
local macro_rules | `(tactic| walk_at "eis") => `(tactic| first | refine ⟨_, ⟨T_as_InvalidRule (by assumption), _, .cls _, Txt.z_InvalidRule_ImpossibleError (by assumption)⟩, ?_⟩ | refine ⟨_, ⟨T_as_InvalidRule (by assumption), _, .cls _, Txt.z_InvalidRule_InvalidRule (by assumption)⟩, ?_⟩ | refine ⟨_, ⟨T_as_InvalidRule (by assumption), _, .cls _, Txt.z_InvalidRule_TextError (by assumption)⟩, ?_⟩ | refine ⟨_, ⟨T_as_InvalidRule (by assumption), _, .cls _, Txt.z_InvalidRule_UnknownError (by assumption)⟩, ?_⟩ | refine ⟨_, ⟨T_as_InvalidRule (by assumption), _, .ty _, Txt.z_InvalidRule_ValueError (by assumption)⟩, ?_⟩ | refine ⟨_, Txt.m_InvalidRule_ArchiveError (by assumption), ?_⟩ | refine ⟨_, Txt.m_InvalidRule_InvalidText (by assumption), ?_⟩ | refine ⟨_, ⟨T_as_InvalidText (by assumption), _, .cls _, Txt.z_InvalidText_ImpossibleError (by assumption)⟩, ?_⟩ | refine ⟨_, ⟨T_as_InvalidText (by assumption), _, .cls _, Txt.z_InvalidText_InvalidRule (by assumption)⟩, ?_⟩ | refine ⟨_, ⟨T_as_InvalidText (by assumption), _, .cls _, Txt.z_InvalidText_TextError (by assumption)⟩, ?_⟩ | refine ⟨_, ⟨T_as_InvalidText (by assumption), _, .cls _, Txt.z_InvalidText_UnknownError (by assumption)⟩, ?_⟩ | refine ⟨_, ⟨T_as_InvalidText (by assumption), _, .ty _, Txt.z_InvalidText_ValueError (by assumption)⟩, ?_⟩ | refine ⟨_, Txt.m_InvalidText_ArchiveError (by assumption), ?_⟩ | refine ⟨_, Txt.m_InvalidText_InvalidText (by assumption), ?_⟩ | fail)
local macro_rules | `(tactic| walk_at "exm") => `(tactic| first | exact Txt.m_InvalidRule_ArchiveError (by assumption) | exact Txt.m_InvalidText_ArchiveError (by assumption) | exact Txt.m_InvalidText_InvalidText (by assumption) | fail)
local macro_rules | `(tactic| walk_at "xf") => `(tactic| first | exact T_xf_InvalidRule (by assumption) | exact T_xf_InvalidText (by assumption) | fail)
local macro_rules | `(tactic| walk_at "xe") => `(tactic| first | exact Txt.e_InvalidRule_at (by assumption) | exact Txt.e_InvalidText_text (by assumption) | fail)
local macro_rules | `(tactic| walk_at "isi") => `(tactic| first | refine ⟨_, VL.IsI.mk _ _ (.obj (fun _ _ _ _ e => T_ty_Rule (by assumption) e)) (.cls _) (Txt.zo_Rule_ImpossibleError (by assumption)), ?_⟩ | refine ⟨_, VL.IsI.mk _ _ (.obj (fun _ _ _ _ e => T_ty_Rule (by assumption) e)) (.cls _) (Txt.zo_Rule_InvalidRule (by assumption)), ?_⟩ | refine ⟨_, VL.IsI.mk _ _ (.obj (fun _ _ _ _ e => T_ty_Rule (by assumption) e)) (.cls _) (Txt.zo_Rule_Rule (by assumption)), ?_⟩ | refine ⟨_, VL.IsI.mk _ _ (.obj (fun _ _ _ _ e => T_ty_Rule (by assumption) e)) (.cls _) (Txt.zo_Rule_TextError (by assumption)), ?_⟩ | refine ⟨_, VL.IsI.mk _ _ (.obj (fun _ _ _ _ e => T_ty_Rule (by assumption) e)) (.cls _) (Txt.zo_Rule_UnknownError (by assumption)), ?_⟩ | refine ⟨_, VL.IsI.mk _ _ (.obj (fun _ _ _ _ e => T_ty_Rule (by assumption) e)) (.ty _) (Txt.zo_Rule_ValueError (by assumption)), ?_⟩ | refine ⟨_, VL.IsI.mk _ _ (.obj (fun _ _ _ _ e => T_ty_Rule (by assumption) e)) (.ty _) (Txt.zo_Rule_bool (by assumption)), ?_⟩ | refine ⟨_, VL.IsI.mk _ _ (.obj (fun _ _ _ _ e => T_ty_Rule (by assumption) e)) (.ty _) (Txt.zo_Rule_int (by assumption)), ?_⟩ | refine ⟨_, VL.IsI.mk _ _ (.obj (fun _ _ _ _ e => T_ty_Rule (by assumption) e)) (.ty _) (Txt.zo_Rule_list (by assumption)), ?_⟩ | refine ⟨_, VL.IsI.mk _ _ (.obj (fun _ _ _ _ e => T_ty_Rule (by assumption) e)) (.ty _) (Txt.zo_Rule_str (by assumption)), ?_⟩ | refine ⟨_, VL.IsI.mk _ _ (.obj (fun _ _ _ _ e => T_ty_Rule (by assumption) e)) (.ty _) (Txt.zo_Rule_tuple (by assumption)), ?_⟩)
local macro_rules | `(tactic| walk_at "ok") => `(tactic| first | exact encP.ok (by decide) _ | exact encRw.ok (by decide) _ | exact encRw.list.ok (by decide) _ | exact encP.tupl.ok (by decide) _ | exact encP.list.ok (by decide) _)
local macro_rules | `(tactic| walk_at "vs") => `(tactic| first | exact VL.strOk_of _ | exact szL (by omega) | exact szS (by omega))
section
variable {P : Program} {w : World} {K : PySem.W.Frag} {mg : Str → Option Value} {base : Heap} {D : Ad}
def spTerm : VSpF := fun vs Q => ∃ r : List Int, vs = [tZ r] ∧ r.length ≤ 5 ∧ Q (.bl (isT r))
theorem sc_is_term : FnScope ["term"] ["term"] (defScope s_is_term) := ⟨rfl, rfl, rfl, by decide +kernel, rfl, by decide +kernel, by decide +kernel⟩
theorem okv_is_term (T : Txt K mg D) : FnOk P w K mg base CX0 1 D.a_is_term D.d_is_term ["term"] (vsp K (VL.falses 1) (VL.ofF spTerm)) := by
  refine VL.okV T.F_is_term sc_is_term rfl (by decide) (fun cdv A outer s H E hr => have hu := VL.huR hr; ⟨_, (pss_one (ps_ret (pe_and (pe_cmpR (op_eqD (VL.hu64 hu)) (pe_callB VL.call_lenU (by rfl) T.n_len (by decide +kernel) (pa_cons (pv 0) pa_nil)) pe_int (nomark _)) (pe_and (pe_cmpR VL.op_inRng (pe_ix ix_seq (pv 0) pe_int (fun _ _ => rfl)) (pe_callTy VL.call_rngU (by rfl) T.n_range (by decide +kernel) (pa_cons (pe_glob (v := .int 4) (by rfl) T.g_MOST_MARKS.choose_spec ⟨_, rfl⟩) pa_nil)) rfl) (pe_one (pe_cmpR (VL.op_inU hu) (pe_ix ix_seq (pv 0) pe_int (fun _ _ => rfl)) (pe_tup (pa_cons pe_int (pa_cons (pe_un un_neg pe_int) pa_nil))) rfl)))))), ?_⟩)
  apply VL.wvI
  · intro B; walk_at "vi"
  · intro ts Qv Xv h
    obtain ⟨Q0, ⟨r, rfl, l5, k⟩, kq⟩ := h
    by_cases hl : r.length = 2
    · match r, hl with
      | [a, d], _ =>
        have k : Q0 (.bl (decide (0 ≤ a ∧ a < 4) && decide (d ∈ [1, -1]))) := k
        walk_at "v"
        by_cases ha : 0 ≤ a ∧ a < 4
        · rw [decide_eq_true ha, Bool.true_and] at k
          rw [decide_eq_true ha]
          walk_at "v"
          rw [show anyT (.int d) [.int 1, .int (-1)] = decide (d ∈ [1, -1]) from encInt.mem d [1, -1]]
          exact kq _ rfl k
        · rw [decide_eq_false ha, Bool.false_and] at k
          rw [decide_eq_false ha]
          exact kq _ rfl k
    · have nt : isT r = false := by
        match r, hl with
        | [], _ => rfl
        | [_], _ => rfl
        | [_, _], h => exact absurd rfl h
        | _ :: _ :: _ :: _, _ => rfl
      rw [nt] at k
      walk_at "v"
      walk_at "vb"
      · exact absurd hbr (by rw [List.length_map]; omega)
      · walk_at "v"
        exact kq _ rfl k
theorem ok_is_term (T : Txt K mg D) : FnOk P w K mg base CX0 1 D.a_is_term D.d_is_term ["term"] (vspF K spTerm) := VL.okF (okv_is_term T) (fun ts Q h => by obtain ⟨r, rfl, _⟩ := h; rfl)
theorem sc_InvalidRule_init : FnScope ["self", "at"] ["self", "at"] (defScope s_InvalidRule_init) := ⟨rfl, rfl, rfl, by decide +kernel, rfl, by decide +kernel, by decide +kernel⟩
theorem ok_InvalidRule_init (T : Txt K mg D) : FnOk P w K mg base CX0 1 D.a_InvalidRule_init D.d_InvalidRule_init ["self", "at"] (spErr D.c_InvalidRule ["at"]) := by
  refine T.F_InvalidRule_init.ok sc_InvalidRule_init (fun vs H Q E h => ?_) (fun cdv A outer s H vs Q E hr h => ?_)
  · obtain ⟨a, ws, l, rfl, e, _⟩ := h
    match ws, e with
    | [_], _ => rfl
  · obtain ⟨a, ws, l, rfl, e, ha, k⟩ := h
    match ws, e with
    | [v0], e =>
      cases e
      refine ⟨_, (pss_one (ps_ost (pv 0) (pv 1))), ?_⟩
      walk_at "rd"
      exact init_ex1 (T_ox_InvalidRule T) T.e_InvalidRule_at ha fun d H1 hd hda ea ed x1 => k d H1 hd hda ea ed x1

theorem sc_InvalidText_init : FnScope ["self", "text"] ["self", "text"] (defScope s_InvalidText_init) := ⟨rfl, rfl, rfl, by decide +kernel, rfl, by decide +kernel, by decide +kernel⟩
theorem ok_InvalidText_init (T : Txt K mg D) : FnOk P w K mg base CX0 1 D.a_InvalidText_init D.d_InvalidText_init ["self", "text"] (spErr D.c_InvalidText ["text"]) := by
  refine T.F_InvalidText_init.ok sc_InvalidText_init (fun vs H Q E h => ?_) (fun cdv A outer s H vs Q E hr h => ?_)
  · obtain ⟨a, ws, l, rfl, e, _⟩ := h
    match ws, e with
    | [_], _ => rfl
  · obtain ⟨a, ws, l, rfl, e, ha, k⟩ := h
    match ws, e with
    | [v0], e =>
      cases e
      refine ⟨_, (pss_one (ps_ost (pv 0) (pv 1))), ?_⟩
      walk_at "rd"
      exact init_ex1 (T_ox_InvalidText T) T.e_InvalidText_text ha fun d H1 hd hda ea ed x1 => k d H1 hd hda ea ed x1

theorem drop_cons {α : Type} {ts : List α} {i : Nat} {c : α} (h : ts[i]? = some c) : ts.drop i = c :: ts.drop (i + 1) := by
  obtain ⟨hi, rfl⟩ := List.getElem?_eq_some_iff.mp h
  exact List.drop_eq_getElem_cons hi
def spInit (D : Ad) : VSp := fun vs Q X => ∃ (b : Bool) (rs : List (List Int)), vs = [.obj D.c_Rule [], tSq b (rs.map tZ)] ∧ rs.length ≤ 1000 ∧ (∀ r ∈ rs, r.length ≤ 5) ∧ (∀ k : Nat, bad rs = some k → X (D.c_InvalidRule, [("at", .int (k : Int))]) [.obj D.c_Rule []]) ∧ ∀ ts, TermsOk 4 ts → rs = ts.map pr → Q (.val .non) [tRule D ts]
theorem sc_Rule_init : FnScope ["self", "terms", "term", "marks", "at"] ["self", "terms"] (defScope s_Rule_init) := ⟨rfl, rfl, rfl, by decide +kernel, rfl, by decide +kernel, by decide +kernel⟩
theorem ok_Rule_init (T : Txt K mg D) : FnOk P w K mg base (L2.CX P w) 3 D.a_Rule_init D.d_Rule_init ["self", "terms"] (vsp K [true, false] (spInit D)) := by
  have G_is_term := ok_is_term (P := P) (w := w) (base := base) T
  refine VL.okVX T.F_Rule_init sc_Rule_init rfl (by decide) (fun cdv A outer s H E hr => have hu := VL.huR hr; ⟨_, (pss_cons (ps_set (i := 1) sc_Rule_init.nd rfl (Or.inl rfl) (pe_callTy VL.call_tupU (by rfl) T.n_tuple (by decide +kernel) (pa_cons (pe_lc (own := [("term", 2)]) (g := gName 2) (tt := tYes) (by rfl) sc_Rule_init.nd (VL.pi_dyn (pv 1)) (blkOk_by (own := [("term", 2)]) (N := ["self", "terms", "term", "marks", "at"]) (sc := defScope s_Rule_init) (by decide +kernel)) (fun _ _ _ _ _ => (pg_name (i := 2) sc_Rule_init.nd rfl (Or.inl rfl))) (fun _ _ _ _ _ => pts_nil) (fun _ _ _ _ _ => (pe_callTy (VL.call_tupK (K := K) rfl) (by rfl) T.n_tuple (by decide +kernel) (pa_cons (pv 2) pa_nil)))) pa_nil)))
      (pss_cons (ps_set (i := 3) sc_Rule_init.nd rfl (Or.inl rfl) (pe_lst pa_nil))
      (pss_cons (ps_for (passes_of rfl) rfl (XR.pi_enumQ (by rfl) T.n_enumerate (pa_cons (pv 1) pa_nil)) (pg_tup (by rfl) (pgs_cons (pg_name (i := 4) sc_Rule_init.nd rfl (Or.inl rfl)) (pgs_cons (pg_name (i := 2) sc_Rule_init.nd rfl (Or.inl rfl)) pgs_nil)))
      (pss_cons (ps_if (PW.pt (pw_or (pt_not (pt_val (pe_call G_is_term (hr.mono (by decide)) (by rfl) T.g_is_term T.F_is_term.kp T.b_is_term .nil pass0 (pa_cons (pv 2) pa_nil)))) (pw_or1 (pt_cmpR (VL.op_inU hu) (pe_ix ix_seq (pv 2) pe_int (fun _ _ => rfl)) (pv 3) rfl))))
      (pss_one (VL.ps_raiseU rfl (takes_of rfl rfl rfl rfl) (pmk_oex (T_ox_InvalidRule T) T.m_InvalidRule_init T.xti_InvalidRule (ok_InvalidRule_init T) (hr.mono (by decide)) T.b_InvalidRule_init .nil (fun _ _ _ _ _ _ _ z => z.elim) (by rfl) T.g_InvalidRule (pa_cons (pv 4) pa_nil))))
      pss_nil)
      (pss_one (ps_expr (pe_bm PySem.F.plainAttrs_list PySem.F.slot_list_append PySem.F.type_list_append mt_append (pv 3) (pa_cons (pe_ix ix_seq (pv 2) pe_int (fun _ _ => rfl)) pa_nil))))))
      (pss_one (ps_fld (pv 0) (pv 1) rfl))))), ?_⟩)
  apply VL.wvI
  · intro B; walk_at "vi"
  · intro ts Qv Xv h
    obtain ⟨b, rs, rfl, l10, l5, kE, k⟩ := h
    cases b
    all_goals
      walk_at "v"
      refine lc_map (xs := rs) (f := tZ) tZ (fun i x out hx hl => ?_) ?_
      · walk_at "v"
        exact NL.mk _ (by walk_at "le") rfl
      walk_at "v"
      refine for_enum (β := List Int) (xs := rs) (f := tZ) ((fun (q1 q2 : VL.T) s => ⟨1, [qR 0, qT q1, none, qR 2, none], [.mu q2, .mu (.lst (rs.map tZ)), .mu (.lst (s.map VL.T.int))]⟩) _ _) (fun i s => bad rs = go (rs.drop i) i s ∧ s.length = i) (Nx.mk [] (by walk_at "le") ⟨rfl, rfl⟩) ?_ ?_
      · rintro i r s hr ⟨eb, sl⟩
        have r5 := l5 r (List.mem_of_getElem? hr)
        have il := (List.getElem?_eq_some_iff.mp hr).1
        rw [drop_cons hr] at eb
        unfold go at eb
        walk_at "v"
        refine ⟨r, rfl, r5, ?_⟩
        walk_at "V"
        cases ht : isT r with
        | false =>
          rw [if_neg (by rw [ht]; simp)] at eb
          walk_at "V"
          rw [Int.zero_add]
          exact kE i eb
        | true =>
          obtain ⟨p, rfl, p1, p2⟩ := isT_pr ht
          walk_at "V"
          rw [encInt.mem]
          walk_at "vb"
          · rw [if_neg (by rintro ⟨_, z⟩; exact z hbr)] at eb
            walk_at "V"
            rw [Int.zero_add]
            exact kE i eb
          · rw [if_pos ⟨ht, hbr⟩] at eb
            walk_at "V"
            exact Nx.mk (s ++ [p.1]) (by rw [List.map_append]; walk_at "le") ⟨eb, by rw [List.length_append, sl]; rfl⟩
      · rintro s ⟨eb, sl⟩
        rw [List.drop_length] at eb
        have eb : bad rs = none := eb
        obtain ⟨ts, ok, h1, _⟩ := bad_pre rs
        have e := h1 eb
        walk_at "v"
        have k := k ts ok e
        rw [e, pr_map]
        exact k
def spEqR (D : Ad) : VSpF := fun vs Q => ∃ a b, vs = [tRule D a, tRule D b] ∧ a.length ≤ 10 ∧ b.length ≤ 10 ∧ Q (.bl (decide (a = b)))
theorem sc_Rule___eq__ : FnScope ["self", "other"] ["self", "other"] (defScope s_Rule___eq__) := ⟨rfl, rfl, rfl, by decide +kernel, rfl, by decide +kernel, by decide +kernel⟩
theorem okv_Rule___eq__ (T : Txt K mg D) : FnOk P w K mg base CX0 1 D.a_Rule___eq__ D.d_Rule___eq__ ["self", "other"] (vsp K (VL.falses 2) (VL.ofF (spEqR D))) := by
  refine VL.okV T.F_Rule___eq__ sc_Rule___eq__ rfl (by decide) (fun cdv A outer s H E hr => have hu := VL.huR hr; ⟨_, (pss_one (ps_ret (pe_and (pe_callB call_isi (by rfl) T.n_isinstance (by decide +kernel) (pa_cons (pv 1) (pa_cons (pe_glob (v := .ref D.c_Rule) (by rfl) T.g_Rule rfl) pa_nil))) (pe_one (pe_cmpR (op_eqD (VL.hu64 hu)) (pe_fld (pv 0) rfl) (pe_fld (pv 1) rfl) (nomark _)))))), ?_⟩)
  apply VL.wvI
  · intro B; walk_at "vi"
  · intro ts Qv Xv h
    obtain ⟨Q0, ⟨a, b, rfl, la, lb, k⟩, kq⟩ := h
    have oka : okD (.tup (a.map tP)) = true := encP.tupl.ok (by decide) a
    have okb : okD (.tup (b.map tP)) = true := encP.tupl.ok (by decide) b
    walk_at "V"
    rw [show eqT (.tup (a.map tP)) (.tup (b.map tP)) = decide (a = b) from encP.tupl.eq a b]
    exact kq _ rfl k
theorem ok_Rule___eq__ (T : Txt K mg D) : FnOk P w K mg base CX0 1 D.a_Rule___eq__ D.d_Rule___eq__ ["self", "other"] (vspF K (spEqR D)) := VL.okF (okv_Rule___eq__ T) (fun ts Q h => by obtain ⟨a, b, rfl, _⟩ := h; rfl)
theorem sum2 : ∀ a : Row, ((a.map fun p => SX.S (tw p)).map (·.length)).sum = 2 * a.length
  | [] => rfl
  | p :: a => by
    rw [List.map_cons, List.map_cons, List.sum_cons, sum2 a, List.length_cons, SX.S_len]
    show 2 + _ = _
    omega
def spStrR (D : Ad) : VSpF := fun vs Q => ∃ a, vs = [tRule D a] ∧ TermsOk 4 a ∧ Q (.str (SX.S (txt a)))
theorem sc_Rule___str__ : FnScope ["self", "mark", "direction"] ["self"] (defScope s_Rule___str__) := ⟨rfl, rfl, rfl, by decide +kernel, rfl, by decide +kernel, by decide +kernel⟩
theorem okv_Rule___str__ (T : Txt K mg D) : FnOk P w K mg base CX0 1 D.a_Rule___str__ D.d_Rule___str__ ["self"] (vsp K (VL.falses 1) (VL.ofF (spStrR D))) := by
  refine VL.okV T.F_Rule___str__ sc_Rule___str__ rfl (by decide) (fun cdv A outer s H E hr => have hu := VL.huR hr; ⟨_, (pss_one (ps_ret (VL.pe_joinK (K := K) rfl pe_str (pe_lc (own := [("mark", 1), ("direction", 2)]) (g := gTup K 2 (gCons (gName 1) (gCons (gName 2) gNil))) (tt := tYes) (by rfl) sc_Rule___str__.nd (VL.pi_dyn (pe_fld (pv 0) rfl)) (blkOk_by (own := [("mark", 1), ("direction", 2)]) (N := ["self", "mark", "direction"]) (sc := defScope s_Rule___str__) (by decide +kernel)) (fun _ _ _ _ _ => (pg_tup (by rfl) (pgs_cons (pg_name (i := 1) sc_Rule___str__.nd rfl (Or.inl rfl)) (pgs_cons (pg_name (i := 2) sc_Rule___str__.nd rfl (Or.inl rfl)) pgs_nil)))) (fun _ _ _ _ _ => pts_nil) (fun _ _ _ _ _ => (pe_ifExp (pt_cmpR (VL.op_eqK (K := K) rfl (VL.hu64 hu)) (pv 2) pe_int (nomark _)) (VL.pe_joinedU (PJ.cons (pe_fmt (pv 1)) (PJ.cons pe_str PJ.nil))) (VL.pe_joinedU (PJ.cons (pe_fmt (pv 1)) (PJ.cons pe_str PJ.nil)))))) rfl rfl rfl))), ?_⟩)
  apply VL.wvI
  · intro B; walk_at "vi"
  · intro ts Qv Xv h
    obtain ⟨Q0, ⟨a, rfl, ok, k⟩, kq⟩ := h
    have t4 := ok.ln
    walk_at "v"
    refine lc_map (xs := a) (f := tP) (fun p => .str (SX.S (tw p))) (fun i x out hx hl => ?_) ?_
    · have hm := List.mem_of_getElem? hx
      have g := ok.good x hm
      obtain ⟨m, d⟩ := x
      have hm4 : m = 0 ∨ m = 1 ∨ m = 2 ∨ m = 3 := by have := g.1; dsimp only at this; omega
      rcases hm4 with rfl | rfl | rfl | rfl <;> rcases g.2 with h | h <;> (dsimp only at h; subst h; walk_at "v"; exact NL.mk _ (by walk_at "le") (congrArg (fun z => out ++ [VL.T.str z]) (by decide +kernel)))
    walk_at "v"
    refine ⟨a.map fun p => SX.S (tw p), by rw [List.map_map]; rfl, ?_, ?_⟩
    · rw [sum2, List.length_map]
      rw [show (Str.ofString " ").length = 1 by decide +kernel]
      omega
    · refine kq _ rfl ?_
      rw [q_sp, ← TL.join_eq, show (a.map fun p => SX.S (tw p)) = (a.map tw).map SX.S by rw [List.map_map]; rfl, SX.join_S]
      exact k
theorem ok_Rule___str__ (T : Txt K mg D) : FnOk P w K mg base CX0 1 D.a_Rule___str__ D.d_Rule___str__ ["self"] (vspF K (spStrR D)) := VL.okF (okv_Rule___str__ T) (fun ts Q h => by obtain ⟨a, rfl, _⟩ := h; rfl)
def tS (l : List Nat) : T := .str (SX.S l)
def spTermR (D : Ad) : VSp := fun vs Q X => ∃ w t : List Nat, vs = [tS w, tS t] ∧ w.length ≤ 600 ∧ (okW w = true → Q (.val (tP (trm w))) []) ∧ (okW w = false → X (D.c_InvalidText, [("text", tS t)]) [])
theorem sc__read_term : FnScope ["word", "text"] ["word", "text"] (defScope s__read_term) := ⟨rfl, rfl, rfl, by decide +kernel, rfl, by decide +kernel, by decide +kernel⟩
theorem ok__read_term (T : Txt K mg D) : FnOk P w K mg base (L2.CX P w) 3 D.a__read_term D.d__read_term ["word", "text"] (vsp K [false, false] (spTermR D)) := by
  refine VL.okVX T.F__read_term sc__read_term rfl (by decide) (fun cdv A outer s H E hr => have hu := VL.huR hr; ⟨_, (pss_cons (ps_if (PW.pt (pw_or (pt_cmpR (op_neD (VL.hu64 hu)) (pe_callB VL.call_lenU (by rfl) T.n_len (by decide +kernel) (pa_cons (pv 0) pa_nil)) pe_int (nomark _)) (pw_or (pt_cmpR (VL.op_notInU hu) (pe_ix ix_seq (pv 0) pe_int (fun _ _ => rfl)) pe_str rfl) (pw_or1 (pt_cmpR (VL.op_notInU hu) (pe_ix ix_seq (pv 0) pe_int (fun _ _ => rfl)) pe_str rfl)))))
      (pss_one (VL.ps_raiseU rfl (takes_of rfl rfl rfl rfl) (pmk_oex (T_ox_InvalidText T) T.m_InvalidText_init T.xti_InvalidText (ok_InvalidText_init T) (hr.mono (by decide)) T.b_InvalidText_init .nil (fun _ _ _ _ _ _ _ z => z.elim) (by rfl) T.g_InvalidText (pa_cons (pv 1) pa_nil))))
      pss_nil)
      (pss_one (ps_ret (pe_tup (pa_cons (pe_callTy VL.call_intS (by rfl) T.n_int (by decide +kernel) (pa_cons (pe_ix ix_seq (pv 0) pe_int (fun _ _ => rfl)) pa_nil)) (pa_cons (pe_ifExp (pt_cmpR (op_eqD (VL.hu64 hu)) (pe_ix ix_seq (pv 0) pe_int (fun _ _ => rfl)) pe_str (nomark _)) pe_int (pe_un un_neg pe_int)) pa_nil)))))), ?_⟩)
  apply VL.wvI
  · intro B; walk_at "vi"
  · intro ts Qv Xv h
    obtain ⟨w, t, rfl, l4, k, kE⟩ := h
    by_cases hl : w.length = 2
    · match w, hl with
      | [a, b], _ =>
        walk_at "V"
        rw [in_4]
        by_cases ha : a ∈ [48, 49, 50, 51]
        · rw [decide_eq_true ha]
          walk_at "V"
          rw [in_2]
          by_cases hb : b ∈ [43, 45]
          · rw [decide_eq_true hb]
            have k := k (okW_yes ha hb)
            walk_at "V"
            refine ⟨(a : Int) - 48, ?_, Nat.le_of_ble_eq_true rfl, ?_⟩
            · simp only [List.mem_cons, List.not_mem_nil, or_false] at ha
              rcases ha with rfl | rfl | rfl | rfl <;> decide +kernel
            walk_at "V"
            rw [q_p, chr_eq]
            walk_at "vb"
            · subst hbr
              walk_at "V"
              exact k
            · walk_at "V"
              unfold trm at k
              dsimp only at k
              rw [if_neg hbr] at k
              exact k
          · rw [decide_eq_false hb]
            walk_at "V"
            exact kE (okW_no fun z => hb z.2)
        · rw [decide_eq_false ha]
          walk_at "V"
          exact kE (okW_no fun z => ha z.1)
    · have e : okW w = false := by
        match w, hl with
        | [], _ => rfl
        | [_], _ => rfl
        | [_, _], h => exact absurd rfl h
        | _ :: _ :: _ :: _, _ => rfl
      walk_at "V"
      rw [SX.S_len]
      walk_at "vb"
      · walk_at "V"
        exact kE e
      · exact absurd (by omega) hl
theorem pr_inj {xs ys : List (Int × Int)} (h : xs.map pr = ys.map pr) : xs = ys := (List.map_inj_right (fun a b hab => by
  cases a
  cases b
  unfold pr at hab
  simp at hab
  exact Prod.ext hab.1 hab.2)).mp h
theorem wd_memA : ∀ (l acc w : List Nat), w ∈ TL.spl [32] 0 acc l → w.length ≤ acc.length + l.length
  | [], acc, w, h => by
    rw [TL.spl_nil] at h
    rw [List.mem_singleton.mp h]
    exact Nat.le_refl _
  | c :: r, acc, w, h => by
    rw [spl32] at h
    split at h
    · rcases List.mem_cons.mp h with rfl | h
      · simp only [List.length_cons]; omega
      · have := wd_memA r [] w h
        simp only [List.length_cons, List.length_nil] at *
        omega
    · have := wd_memA r _ w h
      simp only [List.length_append, List.length_cons, List.length_nil] at *
      omega
theorem wd_mem (l w : List Nat) (h : w ∈ wd l) : w.length ≤ l.length := by have := wd_memA l [] w h; simpa using this
def spReadR (D : Ad) : VSp := fun vs Q X => ∃ l : List Nat, vs = [.cls D.c_Rule, tS l] ∧ l.length ≤ 600 ∧ (rd l = none → X (D.c_InvalidText, [("text", tS l)]) []) ∧ ∀ ts, rd l = some ts → (∀ k : Nat, bad (ts.map pr) = some k → X (D.c_InvalidRule, [("at", .int (k : Int))]) []) ∧ (TermsOk 4 ts → Q (.new (tRule D ts)) [])
theorem sc_Rule_read : FnScope ["cls", "text", "word"] ["cls", "text"] (defScope s_Rule_read) := ⟨rfl, rfl, rfl, by decide +kernel, rfl, by decide +kernel, by decide +kernel⟩
theorem ok_Rule_read (T : Txt K mg D) : FnOk P w K mg base (L2.CX P w) 5 D.a_Rule_read D.d_Rule_read ["cls", "text"] (vsp K [false, false] (spReadR D)) := by
  have G_Rule_init := ok_Rule_init (P := P) (w := w) (base := base) T
  have G__read_term := ok__read_term (P := P) (w := w) (base := base) T
  refine VL.okVX T.F_Rule_read sc_Rule_read rfl (by decide) (fun cdv A outer s H E hr => have hu := VL.huR hr; ⟨_, (pss_cons (ps_if (pt_cmpR (op_eqD (VL.hu64 hu)) (pv 1) pe_str (nomark _))
      (pss_one (ps_ret (XR.pe_makeV (i := 0) (T_mk_Rule T) G_Rule_init (hr.mono (by decide)) rfl (Or.inl rfl) T.b_Rule_init (passes_call (takes_of rfl rfl rfl rfl) (fun _ _ _ _ z => z)) (pa_cons (pe_tup pa_nil) pa_nil))))
      pss_nil)
      (pss_one (ps_ret (XR.pe_makeV (i := 0) (T_mk_Rule T) G_Rule_init (hr.mono (by decide)) rfl (Or.inl rfl) T.b_Rule_init (passes_call (takes_of rfl rfl rfl rfl) (fun _ _ _ _ z => z)) (pa_cons (CpX.pe_lcX (own := [("word", 2)]) (g := gName 2) (tt := tYes) rfl rfl (takes_of rfl rfl rfl rfl) (fun _ _ _ _ z => z) (by rfl) sc_Rule_read.nd (VL.pi_dyn (VL.pe_splitS (pv 1) pe_str rfl rfl rfl)) (blkOk_by (own := [("word", 2)]) (N := ["cls", "text", "word"]) (sc := defScope s_Rule_read) (by decide +kernel)) (fun _ _ _ _ _ => (pg_name (i := 2) sc_Rule_read.nd rfl (Or.inl rfl))) (fun _ _ _ _ _ => pts_nil) (fun _ _ _ _ _ _ px => (pe_call G__read_term (hr.mono (by decide)) (by rfl) T.g__read_term T.F__read_term.kp T.b__read_term .nil px (pa_cons (pv 2) (pa_cons (pv 1) pa_nil))))) pa_nil))))), ?_⟩)
  apply VL.wvI
  · intro B; walk_at "vi"
  · intro ts Qv Xv h
    obtain ⟨l, rfl, l4, kE, k⟩ := h
    walk_at "v"
    rw [q_nil, S_eq]
    walk_at "vb"
    · subst hbr
      walk_at "v"
      refine ⟨false, [], rfl, Nat.zero_le _, (by intro r hr; cases hr), (fun k hk => by cases hk), fun ts ok e => ?_⟩
      obtain rfl : ts = [] := by cases ts with | nil => rfl | cons _ _ => cases e
      walk_at "v"
      exact (k [] rfl).2 ok
    walk_at "v"
    refine ⟨[32], q_sp, ⟨rfl, rfl⟩, szS (by omega), ?_⟩
    have hp : parts [32] (SX.S l) = (wd l).map SX.S := rfl
    have wl := spl_len l []
    have wl : (wd l).length ≤ l.length + 1 := wl
    rw [hp, List.map_map]
    refine lc_mapI (xs := wd l) (f := tS) (fun j out => out = ((wd l).take j).map (fun w => tP (trm w)) ∧ ∀ w ∈ (wd l).take j, okW w = true) ⟨rfl, by intro w hw; cases hw⟩ ?_ ?_
    · rintro j w _ hw ⟨rfl, ho⟩
      have hm := List.mem_of_getElem? hw
      have wle : w.length ≤ 600 := Nat.le_trans (wd_mem l w hm) l4
      walk_at "v"
      refine ⟨w, l, rfl, wle, fun h => ?_, fun h => ?_⟩
      · walk_at "v"
        refine NL.mk _ (by walk_at "le") ⟨?_, ?_⟩
        · rw [XR.take_one hw, List.map_append]; rfl
        · rw [XR.take_one hw]
          intro z hz
          rcases List.mem_append.mp hz with hz | hz
          · exact ho z hz
          · rw [List.mem_singleton.mp hz]; exact h
      · walk_at "v"
        refine kE ?_
        unfold rd
        rw [if_neg hbr, if_neg]
        intro z
        rw [List.all_eq_true] at z
        rw [z w hm] at h
        cases h
    rintro _ ⟨rfl, ho⟩
    rw [List.take_length] at ho
    rw [List.take_length]
    have er : rd l = some ((wd l).map trm) := by
      unfold rd
      rw [if_neg hbr, if_pos (List.all_eq_true.mpr ho)]
    have k := k _ er
    rw [show (wd l).map (fun w => tP (trm w)) = (((wd l).map trm).map pr).map tZ by rw [List.map_map, List.map_map]; rfl]
    walk_at "v"
    refine ⟨true, ((wd l).map trm).map pr, rfl, by rw [List.length_map, List.length_map]; omega, (by intro r hr; obtain ⟨p, _, rfl⟩ := List.mem_map.mp hr; exact show 2 ≤ 5 by decide), fun n hn => ?_, fun ts ok e => ?_⟩
    · walk_at "v"
      exact k.1 n hn
    · obtain rfl := pr_inj e
      walk_at "v"
      exact k.2 ok
end
end Toy
set_option Elab.async false
set_option linter.all false
set_option maxRecDepth 100000
set_option maxHeartbeats 4000000
set_option synthInstance.maxSize 1000000
set_option synthInstance.maxHeartbeats 4000000
namespace Toy
open PySem L2 XR VL
local macro_rules | `(tactic| walk_at "ne") => `(tactic| first | assumption | (apply Ne.symm; assumption) | exact XR.ne_fresh (by assumption) (by walk_at "hp") | exact Ne.symm (XR.ne_fresh (by assumption) (by walk_at "hp")))
local macro_rules | `(tactic| walk_at "hp") => `(tactic| first | assumption | exact upd_same | (refine Eq.trans (upd_ne ?_) ?_; (walk_at "ne"); walk_at "hp"))
local macro_rules | `(tactic| walk_at "sq") => `(tactic| first | walk_at "hp" | exact SqL.of (by walk_at "hp") | exact SqT.of (by walk_at "hp") | exact XR.SqT.same (by assumption) (by assumption) | exact XR.SqL.same (by assumption) (by assumption))
local macro_rules | `(tactic| walk_at "br") => `(tactic| (refine ite2 ?_ ?_ <;> intro hbr <;> (try simp only [decide_eq_true_eq, decide_eq_false_iff_not, V.int.injEq, V.bl.injEq, V.str.injEq, Bool.not_eq_true, Bool.not_eq_eq_eq_not, Bool.not_true, Bool.not_false, ne_eq, Int.reduceToNat, Int.reducePow, Int.reduceMul, Int.reduceAdd, Int.reduceSub, reduceCtorEq, not_true_eq_false, not_false_eq_true, Int.not_lt, Int.not_le] at hbr)))
local macro_rules | `(tactic| walk_at "side") => `(tactic| first
  | exact ⟨by decide, by decide, by decide⟩
  | exact .inl ⟨by decide, by decide⟩
  | exact .inr ⟨by decide, by decide⟩
  | exact XR.divw (by first | decide | omega) (by first | decide | omega)
  | (show (_ : Int) = _; first | rfl | omega)
  | (show (0 : Int) < _; first | decide | assumption | omega)
  | exact .inl ⟨by omega, by omega⟩
  | exact .inr ⟨by omega, by omega⟩
  | exact .inl (XR.cmul_mod (by decide))
  | exact XR.log_lt (by omega) (by omega)
  | decide
  | (rw [sizeLine_eq]; simp; done)
  | (show 2 ≤ sizeLine; decide) | (show 3 ≤ sizeLine; decide) | (show 4 ≤ sizeLine; decide) | (show 5 ≤ sizeLine; decide) | (show 6 ≤ sizeLine; decide) | (show 7 ≤ sizeLine; decide) | (show 1 ≤ sizeLine; decide) | (show 8 ≤ sizeLine; decide) | (show 0 ≤ sizeLine; decide))
local macro_rules | `(tactic| walk_at "rd1") => `(tactic| first
  | refine ⟨_, rfl, ?_⟩
  | refine ⟨_, _, rfl, rfl, ?_⟩
  | refine ⟨_, _, _, _, rfl, rfl, (by walk_at "sq"), rfl, ?_⟩
  | refine ⟨_, _, _, _, rfl, rfl, (by walk_at "hp"), (by walk_at "hp"), (by walk_at "side"), ?_⟩
  | refine ⟨_, _, rfl, .inl (by walk_at "sq"), ?_⟩
  | refine ⟨_, _, rfl, .inl ⟨(by walk_at "sq"), ?_⟩⟩
  | refine ⟨_, _, rfl, .inr (by walk_at "sq"), ?_⟩
  | refine ⟨_, _, _, _, _, rfl, (by walk_at "hp"), (by walk_at "cls"), (by walk_at "noat"), rfl, ?_⟩
  | refine ⟨_, _, _, _, rfl, rfl, (by walk_at "sq"), (by first | assumption | exact XR.at0 | exact XR.at1), ?_⟩
  | refine ⟨rfl, ?_⟩
  | refine And.intro (by walk_at "side") ?_
  | refine .inl ⟨_, rfl, ?_⟩
  | refine And.intro ⟨_, (by walk_at "sq")⟩ ?_
  | refine ⟨_, _, rfl, (by walk_at "sq"), ?_⟩
  | refine ⟨_, _, rfl, ?_⟩
  | refine .inr ⟨_, rfl, (by walk_at "side"), ?_⟩
  | refine ⟨_, _, _, rfl, (by walk_at "hp"), ?_⟩
  | refine iteT ?_
  | refine iteF ?_)
local macro_rules | `(tactic| walk_at "rd") => `(tactic| repeat (walk_at "rd1"))
local macro_rules | `(tactic| walk_at "nn") => `(tactic| (simp only [Int.reduceToNat, Int.reducePow, Int.reduceMul, Int.reduceAdd, Int.reduceSub, Int.reduceNeg]))
local macro_rules | `(tactic| walk_at "dr") => `(tactic| repeat (first | refine And.intro (by first | assumption | walk_at "pre") ?_ | refine And.intro (by first | decide | omega) ?_))
local macro_rules | `(tactic| walk_at "vi") => `(tactic| ((try dsimp only [L2.cxOf, L2.Cx.nox, L2.Cx.wish, L2.Cx.blk, L2.Cx.suite, L2.Cx.tr, L2H.cxH, List.map_cons, List.map_nil]); (try simp only [List.map_cons, List.map_nil]); infer_instance))
local macro_rules | `(tactic| walk_at "w") => `(tactic| conv => whnf)
local macro_rules | `(tactic| walk_at "sz") => `(tactic| first
  | (show _ ≤ sizeLine; rw [sizeLine_eq]; first | decide | omega | (simp; done) | (simp; omega))
  | (show _ < sizeLine; rw [sizeLine_eq]; first | decide | omega | (simp; done) | (simp; omega)))
local macro_rules | `(tactic| walk_at "ok") => `(tactic| first
  | exact encInt.list.ok (by decide) _ | exact encInt.tupl.ok (by decide) _ | exact encStr.list.ok (by decide) _ | exact encStr.tupl.ok (by decide) _
  | exact (encInt.pair encInt).list.ok (by decide) _ | exact (encInt.pair encInt).ok (by decide) _ | exact (encStr.pair encStr).list.ok (by decide) _ | exact (encStr.pair encStr).ok (by decide) _
  | exact encInt.tupl.list.ok (by decide) _)
local macro_rules | `(tactic| walk_at "vs") => `(tactic| first
  | exact trivial
  | assumption
  | exact rfl
  | exact ⟨rfl, rfl⟩
  | walk_at "ok"
  | walk_at "sz"
  | exact .inl (.inr ⟨by decide, by decide⟩)
  | exact .inl (.inl ⟨by first | decide | omega, by first | decide | omega⟩)
  | exact .inl (.inr ⟨by first | decide | omega, by first | decide | omega⟩)
  | exact XR.divw (by first | decide | omega) (by first | decide | omega)
  | (show (0 : Int) < _; first | decide | omega)
  | exact ⟨by first | decide | omega, by first | decide | omega⟩
  | exact ⟨by first | decide | omega, by first | decide | omega, by first | decide | omega⟩
  | exact ⟨by walk_at "sz", by omega, by omega⟩
  | exact ⟨by walk_at "cls", by walk_at "noat"⟩
  | exact ⟨by walk_at "xf", by walk_at "xe"⟩
  | walk_at "exm"
  | decide
  | exact XR.log_lt (by omega) (by omega)
  | ((try dsimp only); (try simp only [List.length_map, List.length_append, List.length_cons, List.length_nil, List.length_eraseIdx]); omega))
local macro_rules | `(tactic| walk_at "v") => `(tactic| (walk_at "w"; (repeat ((first | refine And.intro (by walk_at "vs") ?_ | refine isS_i (by assumption) ?_); walk_at "w")); (try walk_at "n")))
local macro_rules | `(tactic| walk_at "isi") => `(tactic| first | refine ⟨_, VL.IsI.int_int _, ?_⟩ | refine ⟨_, VL.IsI.int_bool _, ?_⟩ | refine ⟨_, VL.IsI.int_str _, ?_⟩ | refine ⟨_, VL.IsI.int_list _, ?_⟩ | refine ⟨_, VL.IsI.int_tuple _, ?_⟩ | refine ⟨_, VL.IsI.bl_int _, ?_⟩ | refine ⟨_, VL.IsI.bl_bool _, ?_⟩ | refine ⟨_, VL.IsI.bl_str _, ?_⟩ | refine ⟨_, VL.IsI.str_str _, ?_⟩ | refine ⟨_, VL.IsI.str_int _, ?_⟩ | refine ⟨_, VL.IsI.str_bool _, ?_⟩ | refine ⟨_, VL.IsI.lst_list _, ?_⟩ | refine ⟨_, VL.IsI.lst_tuple _, ?_⟩ | refine ⟨_, VL.IsI.tup_list _, ?_⟩ | refine ⟨_, VL.IsI.tup_tuple _, ?_⟩ | refine ⟨_, VL.IsI.tup_str _, ?_⟩ | refine ⟨_, VL.IsI.tup_int _, ?_⟩ | refine ⟨_, VL.IsI.dk_dict _, ?_⟩ | refine ⟨_, VL.IsI.non_int, ?_⟩ | refine ⟨_, VL.IsI.non_tuple, ?_⟩ | refine ⟨_, VL.IsI.non_list, ?_⟩ | refine ⟨_, VL.IsI.non_str, ?_⟩)
local macro_rules | `(tactic| walk_at "V") => `(tactic| (walk_at "w"; (repeat ((first | refine And.intro (by walk_at "vs") ?_ | refine isS_i (by assumption) ?_ | refine Or.inr ?_ | walk_at "isi" | walk_at "eis" | refine ⟨_, rfl, ?_⟩); walk_at "w")); (try walk_at "n")))
set_option hygiene false
local macro_rules | `(tactic| walk_at "vb") => `(tactic| (refine br_i ?_ ?_ <;> intro hbr <;> (try simp only [nb, decide_eq_true_eq, decide_eq_false_iff_not, Bool.not_eq_true, Bool.not_eq_eq_eq_not, Bool.not_true, Bool.not_false, ne_eq, Bool.and_eq_true, Bool.or_eq_true, Bool.and_eq_false_imp, Decidable.not_not, Int.not_lt, Int.not_le, bne_iff_ne, Bool.not_eq_false, Bool.or_eq_false_iff, reduceCtorEq, not_true_eq_false, not_false_eq_true] at hbr)))
set_option hygiene true
local macro_rules | `(tactic| walk_at "le") => `(tactic| exact VL.Le.to rfl (Nat.le_of_ble_eq_true rfl))
local macro_rules | `(tactic| walk_at "d") => `(tactic| dsimp only at *)
local macro_rules | `(tactic| walk_at "n") => `(tactic| dsimp only [VL.env0, VL.slots0, VL.mem0, VL.nones, VL.falses, VL.put_mk, VL.push_mk, VL.set_mk, VL.unset_mk, VL.wipe_nl, VL.wipe_cs, VL.el_mk, VL.frs_nl, VL.frs_cs, VL.fr_mk, VL.frX, VL.frSl, VL.nth, Nat.reduceAdd, Nat.reduceSub, Nat.reduceMul, Nat.reduceBEq, List.set, List.length_cons, List.length_nil, List.cons_append, List.nil_append, VL.qI, VL.qT, VL.qR])
local macro_rules | `(tactic| walk_at "cls") => `(tactic| first | exact T_cl_Rule (by assumption))
local macro_rules | `(tactic| walk_at "noat") => `(tactic| first | exact Txt.no_Rule_terms (by assumption))
local macro_rules | `(tactic| walk_at "eis") => `(tactic| first | refine ⟨_, ⟨T_as_InvalidRule (by assumption), _, .cls _, Txt.z_InvalidRule_ImpossibleError (by assumption)⟩, ?_⟩ | refine ⟨_, ⟨T_as_InvalidRule (by assumption), _, .cls _, Txt.z_InvalidRule_InvalidRule (by assumption)⟩, ?_⟩ | refine ⟨_, ⟨T_as_InvalidRule (by assumption), _, .cls _, Txt.z_InvalidRule_TextError (by assumption)⟩, ?_⟩ | refine ⟨_, ⟨T_as_InvalidRule (by assumption), _, .cls _, Txt.z_InvalidRule_UnknownError (by assumption)⟩, ?_⟩ | refine ⟨_, ⟨T_as_InvalidRule (by assumption), _, .ty _, Txt.z_InvalidRule_ValueError (by assumption)⟩, ?_⟩ | refine ⟨_, Txt.m_InvalidRule_ArchiveError (by assumption), ?_⟩ | refine ⟨_, Txt.m_InvalidRule_InvalidText (by assumption), ?_⟩ | refine ⟨_, ⟨T_as_InvalidText (by assumption), _, .cls _, Txt.z_InvalidText_ImpossibleError (by assumption)⟩, ?_⟩ | refine ⟨_, ⟨T_as_InvalidText (by assumption), _, .cls _, Txt.z_InvalidText_InvalidRule (by assumption)⟩, ?_⟩ | refine ⟨_, ⟨T_as_InvalidText (by assumption), _, .cls _, Txt.z_InvalidText_TextError (by assumption)⟩, ?_⟩ | refine ⟨_, ⟨T_as_InvalidText (by assumption), _, .cls _, Txt.z_InvalidText_UnknownError (by assumption)⟩, ?_⟩ | refine ⟨_, ⟨T_as_InvalidText (by assumption), _, .ty _, Txt.z_InvalidText_ValueError (by assumption)⟩, ?_⟩ | refine ⟨_, Txt.m_InvalidText_ArchiveError (by assumption), ?_⟩ | refine ⟨_, Txt.m_InvalidText_InvalidText (by assumption), ?_⟩ | fail)
local macro_rules | `(tactic| walk_at "exm") => `(tactic| first | exact Txt.m_InvalidRule_ArchiveError (by assumption) | exact Txt.m_InvalidText_ArchiveError (by assumption) | exact Txt.m_InvalidText_InvalidText (by assumption) | fail)
local macro_rules | `(tactic| walk_at "xf") => `(tactic| first | exact T_xf_InvalidRule (by assumption) | exact T_xf_InvalidText (by assumption) | fail)
local macro_rules | `(tactic| walk_at "xe") => `(tactic| first | exact Txt.e_InvalidRule_at (by assumption) | exact Txt.e_InvalidText_text (by assumption) | fail)
local macro_rules | `(tactic| walk_at "isi") => `(tactic| first | refine ⟨_, VL.IsI.mk _ _ (.obj (fun _ _ _ _ e => T_ty_Rule (by assumption) e)) (.cls _) (Txt.zo_Rule_ImpossibleError (by assumption)), ?_⟩ | refine ⟨_, VL.IsI.mk _ _ (.obj (fun _ _ _ _ e => T_ty_Rule (by assumption) e)) (.cls _) (Txt.zo_Rule_InvalidRule (by assumption)), ?_⟩ | refine ⟨_, VL.IsI.mk _ _ (.obj (fun _ _ _ _ e => T_ty_Rule (by assumption) e)) (.cls _) (Txt.zo_Rule_Rule (by assumption)), ?_⟩ | refine ⟨_, VL.IsI.mk _ _ (.obj (fun _ _ _ _ e => T_ty_Rule (by assumption) e)) (.cls _) (Txt.zo_Rule_TextError (by assumption)), ?_⟩ | refine ⟨_, VL.IsI.mk _ _ (.obj (fun _ _ _ _ e => T_ty_Rule (by assumption) e)) (.cls _) (Txt.zo_Rule_UnknownError (by assumption)), ?_⟩ | refine ⟨_, VL.IsI.mk _ _ (.obj (fun _ _ _ _ e => T_ty_Rule (by assumption) e)) (.ty _) (Txt.zo_Rule_ValueError (by assumption)), ?_⟩ | refine ⟨_, VL.IsI.mk _ _ (.obj (fun _ _ _ _ e => T_ty_Rule (by assumption) e)) (.ty _) (Txt.zo_Rule_bool (by assumption)), ?_⟩ | refine ⟨_, VL.IsI.mk _ _ (.obj (fun _ _ _ _ e => T_ty_Rule (by assumption) e)) (.ty _) (Txt.zo_Rule_int (by assumption)), ?_⟩ | refine ⟨_, VL.IsI.mk _ _ (.obj (fun _ _ _ _ e => T_ty_Rule (by assumption) e)) (.ty _) (Txt.zo_Rule_list (by assumption)), ?_⟩ | refine ⟨_, VL.IsI.mk _ _ (.obj (fun _ _ _ _ e => T_ty_Rule (by assumption) e)) (.ty _) (Txt.zo_Rule_str (by assumption)), ?_⟩ | refine ⟨_, VL.IsI.mk _ _ (.obj (fun _ _ _ _ e => T_ty_Rule (by assumption) e)) (.ty _) (Txt.zo_Rule_tuple (by assumption)), ?_⟩)
local macro_rules | `(tactic| walk_at "ok") => `(tactic| first | exact encP.ok (by decide) _ | exact encRw.ok (by decide) _ | exact encRw.list.ok (by decide) _ | exact encP.tupl.ok (by decide) _ | exact encP.list.ok (by decide) _)
local macro_rules | `(tactic| walk_at "vs") => `(tactic| first | exact VL.strOk_of _ | exact szL (by omega) | exact szS (by omega))
section
variable {P : Program} {w : World} {K : PySem.W.Frag} {mg : Str → Option Value} {base : Heap} {D : Ad}
theorem len_pr {ts : List (Int × Int)} : ∀ r ∈ ts.map pr, r.length ≤ 5 := fun r hr => by
  obtain ⟨p, _, rfl⟩ := List.mem_map.mp hr
  exact show 2 ≤ 5 by decide
def tL2 (ts : List (Int × Int)) : T := .lst (ts.map tP)
theorem encL2 : Enc tL2 2 := encP.list
def spAllTerms : VSp := fun vs Q _ => ∃ c : Nat, vs = [.int (c : Int)] ∧ c < 4 ∧ Q (.new (.lst ((tms c).map tP))) []
theorem tms_succ (i : Nat) : tms (i + 1) = tms i ++ [((i : Int), 1), ((i : Int), -1)] := by
  unfold tms
  rw [List.range_succ, List.flatMap_append]
  rfl
theorem tms_lenI : ∀ i : Nat, (tms i).length = 2 * i
  | 0 => rfl
  | i + 1 => by rw [tms_succ, List.length_append, tms_lenI i]; show _ + 2 = _; omega
theorem sc_all_terms : FnScope ["count", "mark", "direction"] ["count"] (defScope s_all_terms) := ⟨rfl, rfl, rfl, by decide +kernel, rfl, by decide +kernel, by decide +kernel⟩
theorem ok_all_terms (T : Txt K mg D) : FnOk P w K mg base CX0 1 D.a_all_terms D.d_all_terms ["count"] (vsp K [false] spAllTerms) := by
  refine VL.okV T.F_all_terms sc_all_terms rfl (by decide) (fun cdv A outer s H E hr => have hu := VL.huR hr; ⟨_, (pss_one (ps_ret (pe_lc2 (own := [("mark", 1), ("direction", 2)]) (vs1 := [2]) (g := gName 1) (g1 := gName 2) (tt := tYes) (tt1 := tYes) (by rfl) sc_all_terms.nd (pi_range1 (by rfl) T.n_range (pa_cons (pv 0) pa_nil)) (blkOk_by (own := [("mark", 1), ("direction", 2)]) (N := ["count", "mark", "direction"]) (sc := defScope s_all_terms) (by decide +kernel)) (by decide) (fun _ _ _ _ _ => (pg_name (i := 1) sc_all_terms.nd rfl (Or.inl rfl))) (fun _ _ _ _ _ => pts_nil) (fun _ _ _ _ _ => (VL.pi_dynK (K := K) rfl (pe_tup (pa_cons pe_int (pa_cons (pe_un un_neg pe_int) pa_nil))))) (fun _ _ _ _ _ => (pg_name (i := 2) sc_all_terms.nd rfl (Or.inl rfl))) (fun _ _ _ _ _ => pts_nil) (fun _ _ _ _ _ => (pe_tup (pa_cons (pv 1) (pa_cons (pv 2) pa_nil))))))), ?_⟩)
  apply VL.wvI
  · intro B; walk_at "vi"
  · intro ts Qv Xv h
    obtain ⟨c, rfl, c4, k⟩ := h
    walk_at "v"
    refine lc_rngI (fun i out => out = (tms i).map tP) rfl ?_ ?_
    · rintro i _ hi rfl
      have hi : i < c := by omega
      have tl := tms_lenI i
      walk_at "v"
      refine lcj_map (β := List VL.T) (xs := [1, -1]) (f := VL.T.int) ((fun (q : VL.T) out => ⟨0, [qT q, qI (0 + (i : Int)), none], [.mu (.lst out)]⟩) _) (fun j out => out = ((tms i) ++ ([1, -1].take j).map fun d => ((i : Int), d)).map tP) (NLs.mk _ (by walk_at "le") (by simp)) ?_ ?_
      · rintro j d _ hd rfl
        have hj : j < 2 := (List.getElem?_eq_some_iff.mp hd).1
        have hl : (((tms i) ++ ([1, -1].take j).map fun d => ((i : Int), d)).map tP).length ≤ 10 := by
          have := List.length_take_le' j [(1 : Int), -1]
          rw [List.length_map, List.length_append, List.length_map, tl]
          have : [(1 : Int), -1].length = 2 := rfl
          omega
        walk_at "v"
        refine NLs.mk _ (by walk_at "le") ?_
        rw [XR.take_one hd]
        simp only [List.map_append, List.map_cons, List.map_nil, List.append_assoc, Int.zero_add]
        rfl
      · rintro _ rfl
        exact NL.mk _ (by walk_at "le") (by rw [tms_succ]; rfl)
    · rintro _ rfl
      rw [show ((c : Int)).toNat = c by omega]
      exact k
def spAllRules (D : Ad) : VSp := fun vs Q _ => ∃ c : Nat, vs = [.int (c : Int)] ∧ c < 4 ∧ Q (.new (.lst ((full c).map (tRule D)))) []
theorem fm_snoc {α β : Type} (f : α → List β) {xs : List α} {i : Nat} {x : α} (h : xs[i]? = some x) : (xs.take (i + 1)).flatMap f = (xs.take i).flatMap f ++ f x := by
  rw [XR.take_one h, List.flatMap_append]
  simp
theorem ext1_snoc (p : Row) {ts : Row} {j : Nat} {t : Int × Int} (h : ts[j]? = some t) : ext1 p (ts.take (j + 1)) = ext1 p (ts.take j) ++ (if t.1 ∈ p.map Prod.fst then [] else [p ++ [t]]) := by
  unfold ext1
  rw [XR.take_one h, List.filter_append, List.map_append]
  congr 1
  by_cases z : t.1 ∈ p.map Prod.fst
  · rw [if_pos z, List.filter_cons, if_neg (by simpa using z)]; rfl
  · rw [if_neg z, List.filter_cons, if_pos (by simpa using z)]; rfl
theorem ext1_len (p ts : Row) : (ext1 p ts).length ≤ ts.length := by
  unfold ext1
  rw [List.length_map]
  exact List.length_filter_le _ _
theorem fm_len {α β : Type} (f : α → List β) {n : Nat} : ∀ xs : List α, (∀ x, (f x).length ≤ n) → (xs.flatMap f).length ≤ n * xs.length
  | [], _ => Nat.zero_le _
  | x :: xs, h => by
    have := fm_len f xs h
    have := h x
    rw [List.flatMap_cons, List.length_append, List.length_cons, Nat.mul_succ]
    omega
theorem sc_all_rules : FnScope ["count", "prefixes", "_", "terms", "prefix", "term", "mark"] ["count"] (defScope s_all_rules) := ⟨rfl, rfl, rfl, by decide +kernel, rfl, by decide +kernel, by decide +kernel⟩
theorem ok_all_rules (T : Txt K mg D) : FnOk P w K mg base CX0 5 D.a_all_rules D.d_all_rules ["count"] (vsp K [false] (spAllRules D)) := by
  have G_Rule_init := ok_Rule_init (P := P) (w := w) (base := base) T
  have G_all_terms := ok_all_terms (P := P) (w := w) (base := base) T
  refine VL.okV T.F_all_rules sc_all_rules rfl (by decide) (fun cdv A outer s H E hr => have hu := VL.huR hr; ⟨_, (pss_cons (ps_set (i := 1) sc_all_rules.nd rfl (Or.inl rfl) (pe_lst (pa_cons (pe_tup pa_nil) pa_nil)))
      (pss_cons (ps_for PassesOwn.never rfl (pi_range1 (by rfl) T.n_range (pa_cons (pv 0) pa_nil)) (pg_name (i := 2) sc_all_rules.nd rfl (Or.inl rfl))
      (pss_one (ps_setLc2 (i := 1) (own := [("prefix", 4), ("term", 5)]) (vs1 := [5]) (g := gName 4) (g1 := gName 5) (tt := tYes) (by rfl) sc_all_rules.nd rfl rfl (sw_true rfl rfl rfl (by decide +kernel)) (VL.pi_dyn (pv 1)) (blkOk_by (own := [("prefix", 4), ("term", 5)]) (N := ["count", "prefixes", "_", "terms", "prefix", "term", "mark"]) (sc := defScope s_all_rules) (by decide +kernel)) (by decide) (fun _ _ _ _ _ => (pg_name (i := 4) sc_all_rules.nd rfl (Or.inl rfl))) (fun _ _ _ _ _ => pts_nil) (fun _ _ _ _ _ => (VL.pi_dynK (K := K) rfl (pe_call G_all_terms (hr.mono (by decide)) (by rfl) T.g_all_terms T.F_all_terms.kp T.b_all_terms .nil pass0 (pa_cons (pv 0) pa_nil)))) (fun _ _ _ _ _ => (pg_name (i := 5) sc_all_rules.nd rfl (Or.inl rfl))) (fun _ _ _ _ _ => (pts_one (pt_cmpR (VL.op_notInK (K := K) rfl hu) (pe_ix (VL.ix_seqK (K := K) rfl) (pv 5) pe_int (fun _ _ => rfl)) (pe_lc (own := [("mark", 6), ("_", 2)]) (g := gTup K 2 (gCons (gName 6) (gCons (gName 2) gNil))) (tt := tYes) (by rfl) sc_all_rules.nd (VL.pi_dynK (K := K) rfl (pv 4)) (blkOk_by (by rfl)) (fun _ _ _ _ _ => (pg_tup (by rfl) (pgs_cons (pg_name (i := 6) sc_all_rules.nd rfl (Or.inl rfl)) (pgs_cons (pg_name (i := 2) sc_all_rules.nd rfl (Or.inl rfl)) pgs_nil)))) (fun _ _ _ _ _ => pts_nil) (fun _ _ _ _ _ => (pv 6))) rfl))) (fun _ _ _ _ _ => (pe_tup (VL.pa_starK (K := K) rfl (pv 4) (pa_cons (pv 5) pa_nil) (by rfl)))))))
      (pss_one (ps_ret (pe_lc (own := [("terms", 3)]) (g := gName 3) (tt := tYes) (by rfl) sc_all_rules.nd (VL.pi_dyn (pv 1)) (blkOk_by (own := [("terms", 3)]) (N := ["count", "prefixes", "_", "terms", "prefix", "term", "mark"]) (sc := defScope s_all_rules) (by decide +kernel)) (fun _ _ _ _ _ => (pg_name (i := 3) sc_all_rules.nd rfl (Or.inl rfl))) (fun _ _ _ _ _ => pts_nil) (fun _ _ _ _ _ => (pe_make (T_mk_Rule T) G_Rule_init (hr.mono (by decide)) (by rfl) T.g_Rule T.b_Rule_init .nil passL (pa_cons (pv 3) pa_nil)))))))), ?_⟩)
  apply VL.wvI
  · intro B; walk_at "vi"
  · intro ts Qv Xv h
    obtain ⟨c, rfl, c4, k⟩ := h
    walk_at "v"
    refine for_fr [0] (by walk_at "le") ?_
    walk_at "n"
    refine for_rng (β := List Row) ((fun (q1 q2 : VL.T) s => ⟨0, [qT q1, qT (.lst (s.map tRw)), none, none, none, none, none], [.fz q2]⟩) _ _) (fun i s => s = pre c i) (Nx.mk [[]] (by walk_at "le") rfl) ?_ ?_
    · rintro i _ hi rfl
      have hi : i < c := by omega
      have pl := pre_len c c4 i (by omega) (by omega)
      have po := pre_ok c c4 i (by omega) (by omega)
      have tl := tms_len c c4
      have ext_le : ∀ p, (ext1 p (tms c)).length ≤ 6 := fun p => Nat.le_trans (ext1_len p _) tl
      walk_at "v"
      refine lc_from ((fun (q1 q2 q3 : VL.T) => ⟨0, [qT q1, qT q2, none, none, none, none, none], [.fz q3]⟩) _ _ _) rfl (by walk_at "le") ?_
      refine lc_mapI (xs := pre c i) (f := tRw) (fun j out => out = (((pre c i).take j).flatMap fun p => ext1 p (tms c)).map tRw) rfl ?_ ?_
      · rintro j p _ hp rfl
        have hj : j < (pre c i).length := (List.getElem?_eq_some_iff.mp hp).1
        have fl := fm_len (fun p => ext1 p (tms c)) ((pre c i).take j) ext_le
        have tk := List.length_take_le' j (pre c i)
        have tj := List.length_take_le j (pre c i)
        have pp := po p (List.mem_of_getElem? hp)
        walk_at "v"
        refine ⟨c, rfl, c4, ?_⟩
        walk_at "v"
        refine lcj_map (β := List VL.T) (xs := tms c) (f := tP) ((fun (q1 q2 q3 q4 : VL.T) out => ⟨0, [qT q1, qT q2, none, none, qT (tRw p), none, none], [.fz q3, .mu (.lst out), .fz q4]⟩) _ _ _ _) (fun k out => out = ((((pre c i).take j).flatMap fun p => ext1 p (tms c)) ++ ext1 p ((tms c).take k)).map tRw) (NLs.mk _ (by walk_at "le") (by simp [ext1])) ?_ ?_
        · rintro k t _ ht rfl
          have es := ext1_snoc p ht
          have hl : (((((pre c i).take j).flatMap fun p => ext1 p (tms c)) ++ ext1 p ((tms c).take k)).map tRw).length ≤ 400 := by
            have := ext1_len p ((tms c).take k)
            have := List.length_take_le' k (tms c)
            rw [List.length_map, List.length_append]
            omega
          walk_at "v"
          refine lc_map (xs := p) (f := tP) (fun t => .int t.1) (fun z x out hx hl => ?_) ?_
          · walk_at "v"
            exact NL.mk _ (by walk_at "le") rfl
          rw [show p.map (fun t => VL.T.int t.1) = (p.map Prod.fst).map VL.T.int by rw [List.map_map]; rfl]
          walk_at "v"
          rw [encInt.mem]
          walk_at "vb"
          · walk_at "v"
            refine toTs_vals ?_
            walk_at "v"
            refine NLs.mk _ (by walk_at "le") ?_
            rw [es, if_neg hbr]
            unfold tRw
            simp only [List.map_append, List.map_cons, List.map_nil, List.append_assoc]
          · refine NLs.mk _ (by walk_at "le") ?_
            rw [es, if_pos hbr, List.append_nil]
        · rintro _ rfl
          refine NL.mk _ (by walk_at "le") ?_
          rw [fm_snoc _ hp, List.take_length]
      · rintro _ rfl
        walk_at "v"
        rw [List.take_length]
        exact Nx.mk (pre c (i + 1)) (by walk_at "le") rfl
    · rintro _ rfl
      rw [show ((c : Int)).toNat = c by omega, full_eq c c4]
      walk_at "v"
      refine lc_map (xs := full c) (f := tRw) (tRule D) (fun i r out hr hl => ?_) ?_
      · have f := full_ok c4 (List.mem_of_getElem? hr)
        have fl : (full c).length ≤ 48 := by rw [← full_eq c c4]; exact pre_len c c4 c c4 (Nat.le_refl _)
        walk_at "v"
        have f := f.up
        refine ⟨false, r.map pr, by rw [pr_map]; rfl, by have := f.ln; rw [List.length_map]; omega, len_pr, fun n hn => (by rw [bad_ok f] at hn; cases hn), fun us hu e => ?_⟩
        obtain rfl := pr_inj e
        walk_at "v"
        exact NL.mk _ (by walk_at "le") rfl
      · exact k
def spFull : VSp := fun vs Q _ => ∃ c : Nat, vs = [.int (c : Int)] ∧ c < 4 ∧ Q (.new (.lst ((full c).map tL2))) []
def tL (r : List Int) : T := .lst (r.map VL.T.int)
theorem exl1_succ (c : Nat) (p : List Int) (n : Nat) : exl1 c p (n + 1) = exl1 c p n ++ (if (n : Int) / 2 ∈ p.map (· / 2) then [] else [p ++ [(n : Int)]]) := by
  unfold exl1
  rw [List.range_succ, List.filter_append, List.map_append]
  congr 1
  by_cases z : (n : Int) / 2 ∈ p.map (· / 2)
  · rw [if_pos z, List.filter_cons, if_neg (by simpa using z)]; rfl
  · rw [if_neg z, List.filter_cons, if_pos (by simpa using z)]; rfl
theorem exl1_len (c : Nat) (p : List Int) (n : Nat) : (exl1 c p n).length ≤ n := by
  unfold exl1
  rw [List.length_map]
  refine Nat.le_trans (List.length_filter_le _ _) ?_
  rw [List.length_range]
  exact Nat.le_refl _
theorem sc__law_full : FnScope ["_law_count", "_law_rows", "_law_turn", "_law_longer", "_law_row", "_law_marks", "_law_rank", "_law_one"] ["_law_count"] (defScope s__law_full) := ⟨rfl, rfl, rfl, by decide +kernel, rfl, by decide +kernel, by decide +kernel⟩
theorem ok__law_full (T : Txt K mg D) : FnOk P w K mg base CX0 1 D.a__law_full D.d__law_full ["_law_count"] (vsp K [false] spFull) := by
  refine VL.okV T.F__law_full sc__law_full rfl (by decide) (fun cdv A outer s H E hr => have hu := VL.huR hr; ⟨_, (pss_cons (ps_set (i := 1) sc__law_full.nd rfl (Or.inl rfl) (pe_lst (pa_cons (pe_lst pa_nil) pa_nil)))
      (pss_cons (ps_for PassesOwn.never rfl (pi_range1 (by rfl) T.n_range (pa_cons (pv 0) pa_nil)) (pg_name (i := 2) sc__law_full.nd rfl (Or.inl rfl))
      (pss_cons (ps_set (i := 3) sc__law_full.nd rfl (Or.inl rfl) (pe_lst pa_nil))
      (pss_cons (ps_for PassesOwn.never rfl (VL.pi_dyn (pv 1)) (pg_name (i := 4) sc__law_full.nd rfl (Or.inl rfl))
      (pss_cons (ps_setLc (i := 5) (own := [("_law_one", 7)]) (g := gName 7) (tt := tYes) (by rfl) sc__law_full.nd rfl rfl (sw_true rfl rfl rfl (by decide +kernel)) (VL.pi_dyn (pv 4)) (blkOk_by (own := [("_law_one", 7)]) (N := ["_law_count", "_law_rows", "_law_turn", "_law_longer", "_law_row", "_law_marks", "_law_rank", "_law_one"]) (sc := defScope s__law_full) (by decide +kernel)) (fun _ _ _ _ _ => (pg_name (i := 7) sc__law_full.nd rfl (Or.inl rfl))) (fun _ _ _ _ _ => pts_nil) (fun _ _ _ _ _ => (pe_op op_fdivW (pv 7) pe_int)))
      (pss_one (ps_for PassesOwn.never rfl (pi_range1 (by rfl) T.n_range (pa_cons (pe_op VL.op_mulU pe_int (pv 0)) pa_nil)) (pg_name (i := 6) sc__law_full.nd rfl (Or.inl rfl))
      (pss_one (ps_if (pt_cmpR (VL.op_notInU hu) (pe_op op_fdivW (pv 6) pe_int) (pv 5) rfl)
      (pss_one (ps_expr (pe_bm PySem.F.plainAttrs_list PySem.F.slot_list_append PySem.F.type_list_append mt_append (pv 3) (pa_cons (pe_op VL.op_addU (pv 4) (pe_lst (pa_cons (pv 6) pa_nil))) pa_nil))))
      pss_nil))))))
      (pss_one (ps_set (i := 1) sc__law_full.nd rfl (Or.inl rfl) (pv 3))))))
      (pss_one (ps_ret (pe_lc (own := [("_law_row", 4)]) (g := gName 4) (tt := tYes) (by rfl) sc__law_full.nd (VL.pi_dyn (pv 1)) (blkOk_by (own := [("_law_row", 4)]) (N := ["_law_count", "_law_rows", "_law_turn", "_law_longer", "_law_row", "_law_marks", "_law_rank", "_law_one"]) (sc := defScope s__law_full) (by decide +kernel)) (fun _ _ _ _ _ => (pg_name (i := 4) sc__law_full.nd rfl (Or.inl rfl))) (fun _ _ _ _ _ => pts_nil) (fun _ _ _ _ _ => (pe_lc (own := [("_law_rank", 6)]) (g := gName 6) (tt := tYes) (by rfl) sc__law_full.nd (VL.pi_dynK (K := K) rfl (pv 4)) (blkOk_by (by rfl)) (fun _ _ _ _ _ => (pg_name (i := 6) sc__law_full.nd rfl (Or.inl rfl))) (fun _ _ _ _ _ => pts_nil) (fun _ _ _ _ _ => (pe_tup (pa_cons (pe_op op_fdivW (pv 6) pe_int) (pa_cons (pe_op op_sub pe_int (pe_op (VL.op_mulK (K := K) rfl) pe_int (pe_op op_mod (pe_callTy VL.call_intU (by rfl) T.n_int (by decide +kernel) (pa_cons (pv 6) pa_nil)) pe_int))) pa_nil))))))))))), ?_⟩)
  apply VL.wvI
  · intro B; walk_at "vi"
  · intro ts Qv Xv h
    obtain ⟨c, rfl, c4, k⟩ := h
    walk_at "v"
    refine for_fr [0, 1] (by walk_at "le") ?_
    walk_at "n"
    refine for_rng (β := List (List Int)) ((fun (q1 q2 q3 : VL.T) s => ⟨0, [qT q1, qT (.lst (s.map tL)), none, none, none, none, none, none], [.fz q2, .fz q3]⟩) _ _ _) (fun i s => s = prl c i) (Nx.mk [[]] (by walk_at "le") rfl) ?_ ?_
    · rintro i _ hi rfl
      have hi : i < c := by omega
      have pl := prl_len c c4 i (by omega) (by omega)
      have po := prl_ok c c4 i (by omega) (by omega)
      walk_at "V"
      refine for_mapF (β := List VL.T) (xs := prl c i) (f := tL) (fun γ s => γ.put 2 (.mu (.lst s))) (fun j s => s = (((prl c i).take j).flatMap fun p => exl1 c p (2 * c)).map tL) (Nx.mk _ (by walk_at "le") rfl) ?_ ?_
      · rintro j p _ hp rfl
        have hj : j < (prl c i).length := (List.getElem?_eq_some_iff.mp hp).1
        have fl := fm_len (fun p => exl1 c p (2 * c)) ((prl c i).take j) (fun p => Nat.le_trans (exl1_len c p _) (show 2 * c ≤ 6 by omega))
        have tj := List.length_take_le j (prl c i)
        obtain ⟨pp, pv⟩ := po p (List.mem_of_getElem? hp)
        walk_at "V"
        refine lc_map (xs := p) (f := VL.T.int) (fun x => .int (x / 2)) (fun z x out hx hl => ?_) ?_
        · have xv := pv x (List.mem_of_getElem? hx)
          walk_at "V"
          exact NL.mk _ (by walk_at "le") rfl
        rw [show p.map (fun x => VL.T.int (x / 2)) = (p.map (· / 2)).map VL.T.int by rw [List.map_map]; rfl]
        walk_at "V"
        refine for_rngF (β := List VL.T) (fun γ s => γ.put 2 (.mu (.lst s))) (fun k s => s = ((((prl c i).take j).flatMap fun p => exl1 c p (2 * c)) ++ exl1 c p k).map tL) (Nx.mk _ (by walk_at "le") (by simp [exl1])) ?_ ?_
        · rintro k _ hk rfl
          have hk : k < 6 := by omega
          have es := exl1_succ c p k
          have hl : (((((prl c i).take j).flatMap fun p => exl1 c p (2 * c)) ++ exl1 c p k).map tL).length ≤ 400 := by
            have := exl1_len c p k
            rw [List.length_map, List.length_append]
            omega
          walk_at "V"
          rw [encInt.mem]
          walk_at "vb"
          · walk_at "V"
            refine Nx.mk _ (by walk_at "le") ?_
            rw [es, if_neg (by rw [← Int.zero_add (k : Int)]; exact hbr)]
            unfold tL
            simp only [List.map_append, List.map_cons, List.map_nil, List.append_assoc, Int.zero_add]
          · refine Nx.mk _ (by walk_at "le") ?_
            rw [es, if_pos (by rw [← Int.zero_add (k : Int)]; exact hbr), List.append_nil]
        · rintro _ rfl
          walk_at "w"
          refine Nx.mk _ (by walk_at "le") ?_
          rw [fm_snoc _ hp, show ((2 : Int) * (c : Int)).toNat = 2 * c by omega]
      · rintro _ rfl
        walk_at "V"
        rw [List.take_length]
        exact Nx.mk (prl c (i + 1)) (by walk_at "le") rfl
    · rintro _ rfl
      rw [show ((c : Int)).toNat = c by omega]
      have pl := prl_len c c4 c c4 (Nat.le_refl _)
      have po := prl_ok c c4 c c4 (Nat.le_refl _)
      walk_at "V"
      refine lc_map (xs := prl c c) (f := tL) (fun p => tL2 (p.map ofRank)) (fun i p out hp hl => ?_) ?_
      · obtain ⟨pp, pv⟩ := po p (List.mem_of_getElem? hp)
        walk_at "V"
        refine lc_map (xs := p) (f := VL.T.int) (fun x => tP (ofRank x)) (fun z x out hx hl => ?_) ?_
        · have xv := pv x (List.mem_of_getElem? hx)
          walk_at "V"
          exact NL.mk _ (by walk_at "le") rfl
        walk_at "V"
        exact NL.mk _ (by walk_at "le") (by unfold tL2; rw [List.map_map]; rfl)
      · rw [show (prl c c).map (fun p => tL2 (p.map ofRank)) = (full c).map tL2 by unfold full; rw [List.map_map]; rfl]
        exact k
end
end Toy
set_option Elab.async false
set_option linter.all false
set_option maxRecDepth 100000
set_option maxHeartbeats 4000000
set_option synthInstance.maxSize 1000000
set_option synthInstance.maxHeartbeats 4000000
namespace Toy
open PySem L2 XR VL
local macro_rules | `(tactic| walk_at "ne") => `(tactic| first | assumption | (apply Ne.symm; assumption) | exact XR.ne_fresh (by assumption) (by walk_at "hp") | exact Ne.symm (XR.ne_fresh (by assumption) (by walk_at "hp")))
local macro_rules | `(tactic| walk_at "hp") => `(tactic| first | assumption | exact upd_same | (refine Eq.trans (upd_ne ?_) ?_; (walk_at "ne"); walk_at "hp"))
local macro_rules | `(tactic| walk_at "sq") => `(tactic| first | walk_at "hp" | exact SqL.of (by walk_at "hp") | exact SqT.of (by walk_at "hp") | exact XR.SqT.same (by assumption) (by assumption) | exact XR.SqL.same (by assumption) (by assumption))
local macro_rules | `(tactic| walk_at "br") => `(tactic| (refine ite2 ?_ ?_ <;> intro hbr <;> (try simp only [decide_eq_true_eq, decide_eq_false_iff_not, V.int.injEq, V.bl.injEq, V.str.injEq, Bool.not_eq_true, Bool.not_eq_eq_eq_not, Bool.not_true, Bool.not_false, ne_eq, Int.reduceToNat, Int.reducePow, Int.reduceMul, Int.reduceAdd, Int.reduceSub, reduceCtorEq, not_true_eq_false, not_false_eq_true, Int.not_lt, Int.not_le] at hbr)))
local macro_rules | `(tactic| walk_at "side") => `(tactic| first
  | exact ⟨by decide, by decide, by decide⟩
  | exact .inl ⟨by decide, by decide⟩
  | exact .inr ⟨by decide, by decide⟩
  | exact XR.divw (by first | decide | omega) (by first | decide | omega)
  | (show (_ : Int) = _; first | rfl | omega)
  | (show (0 : Int) < _; first | decide | assumption | omega)
  | exact .inl ⟨by omega, by omega⟩
  | exact .inr ⟨by omega, by omega⟩
  | exact .inl (XR.cmul_mod (by decide))
  | exact XR.log_lt (by omega) (by omega)
  | decide
  | (rw [sizeLine_eq]; simp; done)
  | (show 2 ≤ sizeLine; decide) | (show 3 ≤ sizeLine; decide) | (show 4 ≤ sizeLine; decide) | (show 5 ≤ sizeLine; decide) | (show 6 ≤ sizeLine; decide) | (show 7 ≤ sizeLine; decide) | (show 1 ≤ sizeLine; decide) | (show 8 ≤ sizeLine; decide) | (show 0 ≤ sizeLine; decide))
local macro_rules | `(tactic| walk_at "rd1") => `(tactic| first
  | refine ⟨_, rfl, ?_⟩
  | refine ⟨_, _, rfl, rfl, ?_⟩
  | refine ⟨_, _, _, _, rfl, rfl, (by walk_at "sq"), rfl, ?_⟩
  | refine ⟨_, _, _, _, rfl, rfl, (by walk_at "hp"), (by walk_at "hp"), (by walk_at "side"), ?_⟩
  | refine ⟨_, _, rfl, .inl (by walk_at "sq"), ?_⟩
  | refine ⟨_, _, rfl, .inl ⟨(by walk_at "sq"), ?_⟩⟩
  | refine ⟨_, _, rfl, .inr (by walk_at "sq"), ?_⟩
  | refine ⟨_, _, _, _, _, rfl, (by walk_at "hp"), (by walk_at "cls"), (by walk_at "noat"), rfl, ?_⟩
  | refine ⟨_, _, _, _, rfl, rfl, (by walk_at "sq"), (by first | assumption | exact XR.at0 | exact XR.at1), ?_⟩
  | refine ⟨rfl, ?_⟩
  | refine And.intro (by walk_at "side") ?_
  | refine .inl ⟨_, rfl, ?_⟩
  | refine And.intro ⟨_, (by walk_at "sq")⟩ ?_
  | refine ⟨_, _, rfl, (by walk_at "sq"), ?_⟩
  | refine ⟨_, _, rfl, ?_⟩
  | refine .inr ⟨_, rfl, (by walk_at "side"), ?_⟩
  | refine ⟨_, _, _, rfl, (by walk_at "hp"), ?_⟩
  | refine iteT ?_
  | refine iteF ?_)
local macro_rules | `(tactic| walk_at "rd") => `(tactic| repeat (walk_at "rd1"))
local macro_rules | `(tactic| walk_at "nn") => `(tactic| (simp only [Int.reduceToNat, Int.reducePow, Int.reduceMul, Int.reduceAdd, Int.reduceSub, Int.reduceNeg]))
local macro_rules | `(tactic| walk_at "dr") => `(tactic| repeat (first | refine And.intro (by first | assumption | walk_at "pre") ?_ | refine And.intro (by first | decide | omega) ?_))
local macro_rules | `(tactic| walk_at "vi") => `(tactic| ((try dsimp only [L2.cxOf, L2.Cx.nox, L2.Cx.wish, L2.Cx.blk, L2.Cx.suite, L2.Cx.tr, L2H.cxH, List.map_cons, List.map_nil]); (try simp only [List.map_cons, List.map_nil]); infer_instance))
local macro_rules | `(tactic| walk_at "w") => `(tactic| conv => whnf)
local macro_rules | `(tactic| walk_at "sz") => `(tactic| first
  | (show _ ≤ sizeLine; rw [sizeLine_eq]; first | decide | omega | (simp; done) | (simp; omega))
  | (show _ < sizeLine; rw [sizeLine_eq]; first | decide | omega | (simp; done) | (simp; omega)))
local macro_rules | `(tactic| walk_at "ok") => `(tactic| first
  | exact encInt.list.ok (by decide) _ | exact encInt.tupl.ok (by decide) _ | exact encStr.list.ok (by decide) _ | exact encStr.tupl.ok (by decide) _
  | exact (encInt.pair encInt).list.ok (by decide) _ | exact (encInt.pair encInt).ok (by decide) _ | exact (encStr.pair encStr).list.ok (by decide) _ | exact (encStr.pair encStr).ok (by decide) _
  | exact encInt.tupl.list.ok (by decide) _)
local macro_rules | `(tactic| walk_at "vs") => `(tactic| first
  | exact trivial
  | assumption
  | exact rfl
  | exact ⟨rfl, rfl⟩
  | walk_at "ok"
  | walk_at "sz"
  | exact .inl (.inr ⟨by decide, by decide⟩)
  | exact .inl (.inl ⟨by first | decide | omega, by first | decide | omega⟩)
  | exact .inl (.inr ⟨by first | decide | omega, by first | decide | omega⟩)
  | exact XR.divw (by first | decide | omega) (by first | decide | omega)
  | (show (0 : Int) < _; first | decide | omega)
  | exact ⟨by first | decide | omega, by first | decide | omega⟩
  | exact ⟨by first | decide | omega, by first | decide | omega, by first | decide | omega⟩
  | exact ⟨by walk_at "sz", by omega, by omega⟩
  | exact ⟨by walk_at "cls", by walk_at "noat"⟩
  | exact ⟨by walk_at "xf", by walk_at "xe"⟩
  | walk_at "exm"
  | decide
  | exact XR.log_lt (by omega) (by omega)
  | ((try dsimp only); (try simp only [List.length_map, List.length_append, List.length_cons, List.length_nil, List.length_eraseIdx]); omega))
local macro_rules | `(tactic| walk_at "v") => `(tactic| (walk_at "w"; (repeat ((first | refine And.intro (by walk_at "vs") ?_ | refine isS_i (by assumption) ?_); walk_at "w")); (try walk_at "n")))
local macro_rules | `(tactic| walk_at "isi") => `(tactic| first | refine ⟨_, VL.IsI.int_int _, ?_⟩ | refine ⟨_, VL.IsI.int_bool _, ?_⟩ | refine ⟨_, VL.IsI.int_str _, ?_⟩ | refine ⟨_, VL.IsI.int_list _, ?_⟩ | refine ⟨_, VL.IsI.int_tuple _, ?_⟩ | refine ⟨_, VL.IsI.bl_int _, ?_⟩ | refine ⟨_, VL.IsI.bl_bool _, ?_⟩ | refine ⟨_, VL.IsI.bl_str _, ?_⟩ | refine ⟨_, VL.IsI.str_str _, ?_⟩ | refine ⟨_, VL.IsI.str_int _, ?_⟩ | refine ⟨_, VL.IsI.str_bool _, ?_⟩ | refine ⟨_, VL.IsI.lst_list _, ?_⟩ | refine ⟨_, VL.IsI.lst_tuple _, ?_⟩ | refine ⟨_, VL.IsI.tup_list _, ?_⟩ | refine ⟨_, VL.IsI.tup_tuple _, ?_⟩ | refine ⟨_, VL.IsI.tup_str _, ?_⟩ | refine ⟨_, VL.IsI.tup_int _, ?_⟩ | refine ⟨_, VL.IsI.dk_dict _, ?_⟩ | refine ⟨_, VL.IsI.non_int, ?_⟩ | refine ⟨_, VL.IsI.non_tuple, ?_⟩ | refine ⟨_, VL.IsI.non_list, ?_⟩ | refine ⟨_, VL.IsI.non_str, ?_⟩)
local macro_rules | `(tactic| walk_at "V") => `(tactic| (walk_at "w"; (repeat ((first | refine And.intro (by walk_at "vs") ?_ | refine isS_i (by assumption) ?_ | refine Or.inr ?_ | walk_at "isi" | walk_at "eis" | refine ⟨_, rfl, ?_⟩); walk_at "w")); (try walk_at "n")))
set_option hygiene false
local macro_rules | `(tactic| walk_at "vb") => `(tactic| (refine br_i ?_ ?_ <;> intro hbr <;> (try simp only [nb, decide_eq_true_eq, decide_eq_false_iff_not, Bool.not_eq_true, Bool.not_eq_eq_eq_not, Bool.not_true, Bool.not_false, ne_eq, Bool.and_eq_true, Bool.or_eq_true, Bool.and_eq_false_imp, Decidable.not_not, Int.not_lt, Int.not_le, bne_iff_ne, Bool.not_eq_false, Bool.or_eq_false_iff, reduceCtorEq, not_true_eq_false, not_false_eq_true] at hbr)))
set_option hygiene true
local macro_rules | `(tactic| walk_at "le") => `(tactic| exact VL.Le.to rfl (Nat.le_of_ble_eq_true rfl))
local macro_rules | `(tactic| walk_at "d") => `(tactic| dsimp only at *)
local macro_rules | `(tactic| walk_at "n") => `(tactic| dsimp only [VL.env0, VL.slots0, VL.mem0, VL.nones, VL.falses, VL.put_mk, VL.push_mk, VL.set_mk, VL.unset_mk, VL.wipe_nl, VL.wipe_cs, VL.el_mk, VL.frs_nl, VL.frs_cs, VL.fr_mk, VL.frX, VL.frSl, VL.nth, Nat.reduceAdd, Nat.reduceSub, Nat.reduceMul, Nat.reduceBEq, List.set, List.length_cons, List.length_nil, List.cons_append, List.nil_append, VL.qI, VL.qT, VL.qR])
local macro_rules | `(tactic| walk_at "cls") => `(tactic| first | exact T_cl_Rule (by assumption))
local macro_rules | `(tactic| walk_at "noat") => `(tactic| first | exact Txt.no_Rule_terms (by assumption))
local macro_rules | `(tactic| walk_at "eis") => `(tactic| first | refine ⟨_, ⟨T_as_InvalidRule (by assumption), _, .cls _, Txt.z_InvalidRule_ImpossibleError (by assumption)⟩, ?_⟩ | refine ⟨_, ⟨T_as_InvalidRule (by assumption), _, .cls _, Txt.z_InvalidRule_InvalidRule (by assumption)⟩, ?_⟩ | refine ⟨_, ⟨T_as_InvalidRule (by assumption), _, .cls _, Txt.z_InvalidRule_TextError (by assumption)⟩, ?_⟩ | refine ⟨_, ⟨T_as_InvalidRule (by assumption), _, .cls _, Txt.z_InvalidRule_UnknownError (by assumption)⟩, ?_⟩ | refine ⟨_, ⟨T_as_InvalidRule (by assumption), _, .ty _, Txt.z_InvalidRule_ValueError (by assumption)⟩, ?_⟩ | refine ⟨_, Txt.m_InvalidRule_ArchiveError (by assumption), ?_⟩ | refine ⟨_, Txt.m_InvalidRule_InvalidText (by assumption), ?_⟩ | refine ⟨_, ⟨T_as_InvalidText (by assumption), _, .cls _, Txt.z_InvalidText_ImpossibleError (by assumption)⟩, ?_⟩ | refine ⟨_, ⟨T_as_InvalidText (by assumption), _, .cls _, Txt.z_InvalidText_InvalidRule (by assumption)⟩, ?_⟩ | refine ⟨_, ⟨T_as_InvalidText (by assumption), _, .cls _, Txt.z_InvalidText_TextError (by assumption)⟩, ?_⟩ | refine ⟨_, ⟨T_as_InvalidText (by assumption), _, .cls _, Txt.z_InvalidText_UnknownError (by assumption)⟩, ?_⟩ | refine ⟨_, ⟨T_as_InvalidText (by assumption), _, .ty _, Txt.z_InvalidText_ValueError (by assumption)⟩, ?_⟩ | refine ⟨_, Txt.m_InvalidText_ArchiveError (by assumption), ?_⟩ | refine ⟨_, Txt.m_InvalidText_InvalidText (by assumption), ?_⟩ | fail)
local macro_rules | `(tactic| walk_at "exm") => `(tactic| first | exact Txt.m_InvalidRule_ArchiveError (by assumption) | exact Txt.m_InvalidText_ArchiveError (by assumption) | exact Txt.m_InvalidText_InvalidText (by assumption) | fail)
local macro_rules | `(tactic| walk_at "xf") => `(tactic| first | exact T_xf_InvalidRule (by assumption) | exact T_xf_InvalidText (by assumption) | fail)
local macro_rules | `(tactic| walk_at "xe") => `(tactic| first | exact Txt.e_InvalidRule_at (by assumption) | exact Txt.e_InvalidText_text (by assumption) | fail)
local macro_rules | `(tactic| walk_at "isi") => `(tactic| first | refine ⟨_, VL.IsI.mk _ _ (.obj (fun _ _ _ _ e => T_ty_Rule (by assumption) e)) (.cls _) (Txt.zo_Rule_ImpossibleError (by assumption)), ?_⟩ | refine ⟨_, VL.IsI.mk _ _ (.obj (fun _ _ _ _ e => T_ty_Rule (by assumption) e)) (.cls _) (Txt.zo_Rule_InvalidRule (by assumption)), ?_⟩ | refine ⟨_, VL.IsI.mk _ _ (.obj (fun _ _ _ _ e => T_ty_Rule (by assumption) e)) (.cls _) (Txt.zo_Rule_Rule (by assumption)), ?_⟩ | refine ⟨_, VL.IsI.mk _ _ (.obj (fun _ _ _ _ e => T_ty_Rule (by assumption) e)) (.cls _) (Txt.zo_Rule_TextError (by assumption)), ?_⟩ | refine ⟨_, VL.IsI.mk _ _ (.obj (fun _ _ _ _ e => T_ty_Rule (by assumption) e)) (.cls _) (Txt.zo_Rule_UnknownError (by assumption)), ?_⟩ | refine ⟨_, VL.IsI.mk _ _ (.obj (fun _ _ _ _ e => T_ty_Rule (by assumption) e)) (.ty _) (Txt.zo_Rule_ValueError (by assumption)), ?_⟩ | refine ⟨_, VL.IsI.mk _ _ (.obj (fun _ _ _ _ e => T_ty_Rule (by assumption) e)) (.ty _) (Txt.zo_Rule_bool (by assumption)), ?_⟩ | refine ⟨_, VL.IsI.mk _ _ (.obj (fun _ _ _ _ e => T_ty_Rule (by assumption) e)) (.ty _) (Txt.zo_Rule_int (by assumption)), ?_⟩ | refine ⟨_, VL.IsI.mk _ _ (.obj (fun _ _ _ _ e => T_ty_Rule (by assumption) e)) (.ty _) (Txt.zo_Rule_list (by assumption)), ?_⟩ | refine ⟨_, VL.IsI.mk _ _ (.obj (fun _ _ _ _ e => T_ty_Rule (by assumption) e)) (.ty _) (Txt.zo_Rule_str (by assumption)), ?_⟩ | refine ⟨_, VL.IsI.mk _ _ (.obj (fun _ _ _ _ e => T_ty_Rule (by assumption) e)) (.ty _) (Txt.zo_Rule_tuple (by assumption)), ?_⟩)
local macro_rules | `(tactic| walk_at "ok") => `(tactic| first | exact encP.ok (by decide) _ | exact encRw.ok (by decide) _ | exact encRw.list.ok (by decide) _ | exact encP.tupl.ok (by decide) _ | exact encP.list.ok (by decide) _)
local macro_rules | `(tactic| walk_at "vs") => `(tactic| first | exact VL.strOk_of _ | exact szL (by omega) | exact szS (by omega))
section
variable {P : Program} {w : World} {K : PySem.W.Frag} {mg : Str → Option Value} {base : Heap} {D : Ad}
def tRd (w : String) (l : T) : T := .tup [.str (Str.ofString w), l]
def spRd : VSp := fun vs Q _ => ∃ l : List Nat, vs = [tS l] ∧ l.length ≤ 600 ∧ (rd l = none → Q (.val (tRd "text" (.lst []))) []) ∧ (∀ ts k, rd l = some ts → bad (ts.map pr) = some k → Q (.val (tRd "repeated" (.lst [.int (k : Int)]))) []) ∧ ∀ ts, rd l = some ts → bad (ts.map pr) = none → Q (.val (tRd "rule" (tL2 ts))) []
theorem sc__law_reading : FnScope ["_law_text", "_law_terms", "_law_word", "_law_at", "_law_term"] ["_law_text"] (defScope s__law_reading) := ⟨rfl, rfl, rfl, by decide +kernel, rfl, by decide +kernel, by decide +kernel⟩
theorem ok__law_reading (T : Txt K mg D) : FnOk P w K mg base CX0 1 D.a__law_reading D.d__law_reading ["_law_text"] (vsp K [false] spRd) := by
  refine VL.okV T.F__law_reading sc__law_reading rfl (by decide) (fun cdv A outer s H E hr => have hu := VL.huR hr; ⟨_, (pss_cons (ps_set (i := 1) sc__law_reading.nd rfl (Or.inl rfl) (pe_lst pa_nil))
      (pss_cons (ps_if (pt_cmpR (op_eqD (VL.hu64 hu)) (pv 0) pe_str (nomark _))
      (pss_one (ps_ret (pe_tup (pa_cons pe_str (pa_cons (pv 1) pa_nil)))))
      pss_nil)
      (pss_cons (ps_for PassesOwn.never rfl (VL.pi_dyn (VL.pe_splitS (pv 0) pe_str rfl rfl rfl)) (pg_name (i := 2) sc__law_reading.nd rfl (Or.inl rfl))
      (pss_cons (ps_if (PW.pt (pw_or (pt_cmpR (op_neD (VL.hu64 hu)) (pe_callB VL.call_lenU (by rfl) T.n_len (by decide +kernel) (pa_cons (pv 2) pa_nil)) pe_int (nomark _)) (pw_or (pt_cmpR (VL.op_notInU hu) (pe_ix ix_seq (pv 2) pe_int (fun _ _ => rfl)) (pe_lst (pa_cons pe_str (pa_cons pe_str (pa_cons pe_str (pa_cons pe_str pa_nil))))) rfl) (pw_or1 (pt_cmpR (VL.op_notInU hu) (pe_ix ix_seq (pv 2) pe_int (fun _ _ => rfl)) (pe_lst (pa_cons pe_str (pa_cons pe_str pa_nil))) rfl)))))
      (pss_one (ps_ret (pe_tup (pa_cons pe_str (pa_cons (pe_lst pa_nil) pa_nil)))))
      pss_nil)
      (pss_one (ps_expr (pe_bm PySem.F.plainAttrs_list PySem.F.slot_list_append PySem.F.type_list_append mt_append (pv 1) (pa_cons (pe_tup (pa_cons (VL.pe_findS pe_str (pe_ix ix_seq (pv 2) pe_int (fun _ _ => rfl)) rfl rfl rfl) (pa_cons (pe_ifExp (pt_cmpR (op_eqD (VL.hu64 hu)) (pe_ix ix_seq (pv 2) pe_int (fun _ _ => rfl)) pe_str (nomark _)) pe_int (pe_un un_neg pe_int)) pa_nil))) pa_nil))))))
      (pss_cons (ps_for PassesOwn.never rfl (pi_range1 (by rfl) T.n_range (pa_cons (pe_callB VL.call_lenU (by rfl) T.n_len (by decide +kernel) (pa_cons (pv 1) pa_nil)) pa_nil)) (pg_name (i := 3) sc__law_reading.nd rfl (Or.inl rfl))
      (pss_one (ps_if (pt_cmpR (VL.op_inU hu) (pe_ix ix_seq (pe_ix ix_seq (pv 1) (pv 3) (fun _ _ => rfl)) pe_int (fun _ _ => rfl)) (pe_lc (own := [("_law_term", 4)]) (g := gName 4) (tt := tYes) (by rfl) sc__law_reading.nd (VL.pi_dyn (pe_slice VL.sl_any (pv 1) po_none (po_some (pv 3)))) (blkOk_by (own := [("_law_term", 4)]) (N := ["_law_text", "_law_terms", "_law_word", "_law_at", "_law_term"]) (sc := defScope s__law_reading) (by decide +kernel)) (fun _ _ _ _ _ => (pg_name (i := 4) sc__law_reading.nd rfl (Or.inl rfl))) (fun _ _ _ _ _ => pts_nil) (fun _ _ _ _ _ => (pe_ix (VL.ix_seqK (K := K) rfl) (pv 4) pe_int (fun _ _ => rfl)))) rfl)
      (pss_one (ps_ret (pe_tup (pa_cons pe_str (pa_cons (pe_lst (pa_cons (pv 3) pa_nil)) pa_nil)))))
      pss_nil)))
      (pss_one (ps_ret (pe_tup (pa_cons pe_str (pa_cons (pv 1) pa_nil))))))))), ?_⟩)
  apply VL.wvI
  · intro B; walk_at "vi"
  · intro ts Qv Xv h
    obtain ⟨l, rfl, l4, kT, kR, k⟩ := h
    walk_at "v"
    rw [q_nil, S_eq]
    walk_at "vb"
    · subst hbr
      walk_at "v"
      exact k [] rfl rfl
    have wl := spl_len l []
    have wl : (wd l).length ≤ l.length + 1 := wl
    walk_at "v"
    refine ⟨[32], q_sp, ⟨rfl, rfl⟩, szS (by omega), ?_⟩
    walk_at "v"
    rw [show parts [32] (SX.S l) = (wd l).map SX.S from rfl, List.map_map]
    refine for_mapF (β := List VL.T) (xs := wd l) (f := tS) (fun γ s => γ.put 0 (.mu (.lst s))) (fun j s => s = ((wd l).take j).map (fun w => tP (trm w)) ∧ ∀ w ∈ (wd l).take j, okW w = true) (Nx.mk [] (by walk_at "le") ⟨rfl, by intro w hw; cases hw⟩) ?_ ?_
    · rintro j w _ hw ⟨rfl, ho⟩
      have hm := List.mem_of_getElem? hw
      have wle : w.length ≤ 600 := Nat.le_trans (wd_mem l w hm) l4
      have no : okW w = false → rd l = none := fun h => by
        unfold rd
        rw [if_neg hbr, if_neg]
        intro z
        rw [List.all_eq_true] at z
        rw [z w hm] at h
        cases h
      by_cases hl : w.length = 2
      · match w, hl with
        | [a, b], _ =>
          walk_at "V"
          rw [in_l4]
          by_cases ha : a ∈ [48, 49, 50, 51]
          · rw [decide_eq_true ha]
            walk_at "V"
            rw [in_l2]
            by_cases hb : b ∈ [43, 45]
            · rw [decide_eq_true hb]
              have yes := okW_yes ha hb
              have hf : Txt.find (Str.ofString "0123") ⟨#[a]⟩ = (a : Int) - 48 := by
                simp only [List.mem_cons, List.not_mem_nil, or_false] at ha
                rcases ha with rfl | rfl | rfl | rfl <;> decide +kernel
              have all : ∀ w ∈ (wd l).take (j + 1), okW w = true := by
                rw [XR.take_one hw]
                intro z hz
                rcases List.mem_append.mp hz with hz | hz
                · exact ho z hz
                · rw [List.mem_singleton.mp hz]; exact yes
              walk_at "V"
              rw [q_p, chr_eq]
              walk_at "vb"
              · subst hbr
                walk_at "V"
                exact Nx.mk _ (by walk_at "le") ⟨by rw [XR.take_one hw, List.map_append, hf]; rfl, all⟩
              · walk_at "V"
                refine Nx.mk _ (by walk_at "le") ⟨?_, all⟩
                rw [XR.take_one hw, List.map_append, hf]
                have e : tP (trm [a, b]) = .tup [.int ((a : Int) - 48), .int (-1)] := by
                  unfold trm
                  dsimp only
                  rw [if_neg hbr]
                  rfl
                rw [List.map_cons, e]
                rfl
            · rw [decide_eq_false hb]
              walk_at "V"
              exact kT (no (okW_no fun z => hb z.2))
          · rw [decide_eq_false ha]
            walk_at "V"
            exact kT (no (okW_no fun z => ha z.1))
      · have e : okW w = false := by
          match w, hl with
          | [], _ => rfl
          | [_], _ => rfl
          | [_, _], h => exact absurd rfl h
          | _ :: _ :: _ :: _, _ => rfl
        walk_at "V"
        rw [SX.S_len]
        walk_at "vb"
        · walk_at "V"
          exact kT (no e)
        · exact absurd (by omega) hl
    rintro _ ⟨rfl, ho⟩
    rw [List.take_length] at ho
    rw [List.take_length]
    have er : rd l = some ((wd l).map trm) := by
      unfold rd
      rw [if_neg hbr, if_pos (List.all_eq_true.mpr ho)]
    have hg := rd_good er
    have rl := rd_len er
    rw [show (wd l).map (fun w => tP (trm w)) = ((wd l).map trm).map tP by rw [List.map_map]; rfl]
    generalize (wd l).map trm = ts at *
    walk_at "V"
    refine for_rngF (β := Unit) (fun γ _ => γ) (fun i _ => bad (ts.map pr) = go ((ts.drop i).map pr) i ((ts.take i).map Prod.fst)) (Nx.mk () (by walk_at "le") rfl) ?_ ?_
    · rintro i ⟨⟩ hi eb
      rw [List.length_map] at hi
      have hi : i < ts.length := by omega
      obtain ⟨t, ht, e⟩ := at_map (f := tP) (xs := ts) (i := 0 + (i : Int)) (by omega) (by omega)
      have ht : ts[i]? = some t := by rw [Int.zero_add] at ht; exact ht
      rw [go_at hg ht] at eb
      walk_at "V"
      rw [cutT_loM tP ts (by omega), Int.zero_add, Int.toNat_natCast]
      have tl := List.length_take_le i ts
      refine lc_map (xs := ts.take i) (f := tP) (fun t => .int t.1) (fun z x out hx hl => ?_) ?_
      · walk_at "V"
        exact NL.mk _ (by walk_at "le") rfl
      rw [show (ts.take i).map (fun t => VL.T.int t.1) = ((ts.take i).map Prod.fst).map VL.T.int by rw [List.map_map]; rfl]
      walk_at "V"
      rw [encInt.mem]
      walk_at "vb"
      · rw [if_pos hbr] at eb
        walk_at "V"
        exact kR ts i er eb
      · rw [if_neg hbr] at eb
        walk_at "V"
        exact Nx.mk () (by walk_at "le") eb
    · rintro ⟨⟩ eb
      rw [List.length_map] at eb
      rw [show ((ts.length : Int)).toNat = ts.length by omega, List.drop_length] at eb
      walk_at "V"
      exact k ts er eb
def spIsRule (D : Ad) : VSpF := fun vs Q => ∃ ts, vs = [tRule D ts, tL2 ts] ∧ ts.length ≤ 10 ∧ Q (.bl true)
theorem sc__law_is_rule : FnScope ["_law_rule", "_law_terms", "_law_at", "_law_term"] ["_law_rule", "_law_terms"] (defScope s__law_is_rule) := ⟨rfl, rfl, rfl, by decide +kernel, rfl, by decide +kernel, by decide +kernel⟩
theorem okv__law_is_rule (T : Txt K mg D) : FnOk P w K mg base CX0 3 D.a__law_is_rule D.d__law_is_rule ["_law_rule", "_law_terms"] (vsp K (VL.falses 2) (VL.ofF (spIsRule D))) := by
  have G__law_integer := ok__law_integer (P := P) (w := w) (base := base) T
  refine VL.okV T.F__law_is_rule sc__law_is_rule rfl (by decide) (fun cdv A outer s H E hr => have hu := VL.huR hr; ⟨_, (pss_cons (ps_if (PW.pt (pw_or (pt_not (pt_val (pe_callB call_isi (by rfl) T.n_isinstance (by decide +kernel) (pa_cons (pv 0) (pa_cons (pe_glob (v := .ref D.c_Rule) (by rfl) T.g_Rule rfl) pa_nil))))) (pw_or1 (pt_not (pt_val (pe_callB call_isi (by rfl) T.n_isinstance (by decide +kernel) (pa_cons (pe_fld (pv 0) rfl) (pa_cons (pe_bltn (v := .ty "tuple") (u := .type "tuple") (by rfl) T.n_tuple (by decide +kernel) rfl) pa_nil))))))))
      (pss_one (ps_ret pe_bl))
      pss_nil)
      (pss_cons (ps_if (pt_cmpR (op_neD (VL.hu64 hu)) (pe_callB VL.call_lenU (by rfl) T.n_len (by decide +kernel) (pa_cons (pe_fld (pv 0) rfl) pa_nil)) (pe_callB VL.call_lenU (by rfl) T.n_len (by decide +kernel) (pa_cons (pv 1) pa_nil)) (nomark _))
      (pss_one (ps_ret pe_bl))
      pss_nil)
      (pss_cons (ps_for PassesOwn.never rfl (pi_range1 (by rfl) T.n_range (pa_cons (pe_callB VL.call_lenU (by rfl) T.n_len (by decide +kernel) (pa_cons (pv 1) pa_nil)) pa_nil)) (pg_name (i := 2) sc__law_is_rule.nd rfl (Or.inl rfl))
      (pss_cons (ps_set (i := 3) sc__law_is_rule.nd rfl (Or.inl rfl) (pe_ix ix_seq (pe_fld (pv 0) rfl) (pv 2) (fun _ _ => rfl)))
      (pss_cons (ps_if (PW.pt (pw_or (pt_not (pt_val (pe_callB call_isi (by rfl) T.n_isinstance (by decide +kernel) (pa_cons (pv 3) (pa_cons (pe_bltn (v := .ty "tuple") (u := .type "tuple") (by rfl) T.n_tuple (by decide +kernel) rfl) pa_nil))))) (pw_or1 (pt_cmpR (op_neD (VL.hu64 hu)) (pe_callB VL.call_lenU (by rfl) T.n_len (by decide +kernel) (pa_cons (pv 3) pa_nil)) pe_int (nomark _)))))
      (pss_one (ps_ret pe_bl))
      pss_nil)
      (pss_cons (ps_if (PW.pt (pw_or (pt_not (pt_val (pe_call G__law_integer (hr.mono (by decide)) (by rfl) T.g__law_integer T.F__law_integer.kp T.b__law_integer .nil pass0 (pa_cons (pe_ix ix_seq (pv 3) pe_int (fun _ _ => rfl)) pa_nil)))) (pw_or1 (pt_not (pt_val (pe_call G__law_integer (hr.mono (by decide)) (by rfl) T.g__law_integer T.F__law_integer.kp T.b__law_integer .nil pass0 (pa_cons (pe_ix ix_seq (pv 3) pe_int (fun _ _ => rfl)) pa_nil)))))))
      (pss_one (ps_ret pe_bl))
      pss_nil)
      (pss_one (ps_if (pt_cmpR (op_neD (VL.hu64 hu)) (pv 3) (pe_ix ix_seq (pv 1) (pv 2) (fun _ _ => rfl)) (nomark _))
      (pss_one (ps_ret pe_bl))
      pss_nil))))))
      (pss_one (ps_ret pe_bl))))), ?_⟩)
  apply VL.wvI
  · intro B; walk_at "vi"
  · intro ts Qv Xv h
    obtain ⟨Q0, ⟨ts, rfl, l10, k⟩, kq⟩ := h
    walk_at "V"
    rw [List.length_map]
    walk_at "vb"
    walk_at "V"
    rw [List.length_map]
    refine for_rngF (β := Unit) (fun γ _ => γ) (fun _ _ => True) (Nx.mk () (by walk_at "le") trivial) ?_ ?_
    · rintro i ⟨⟩ hi _
      obtain ⟨t, ht, e⟩ := at_map (f := tP) (xs := ts) (i := 0 + (i : Int)) (by omega) (by omega)
      have okt : okD (tP t) = true := encP.ok (by decide) t
      walk_at "V"
      rw [show eqT (tP t) (tP t) = true from encP.self t]
      walk_at "V"
      exact Nx.mk () (by walk_at "le") trivial
    · rintro ⟨⟩ _
      walk_at "V"
      exact kq _ rfl k
theorem ok__law_is_rule (T : Txt K mg D) : FnOk P w K mg base CX0 3 D.a__law_is_rule D.d__law_is_rule ["_law_rule", "_law_terms"] (vspF K (spIsRule D)) := VL.okF (okv__law_is_rule T) (fun ts Q h => by obtain ⟨ts, rfl, _⟩ := h; rfl)
def spReadOk : VSp := fun vs Q _ => ∃ l : List Nat, vs = [tS l] ∧ l.length ≤ 600 ∧ Q (.val (.bl true)) []
theorem sc__law_read_right : FnScope ["_law_text", "_law_word", "_law_due", "_law_rule", "bad_text", "bad_rule", "_law_made"] ["_law_text"] (defScope s__law_read_right) := ⟨rfl, rfl, rfl, by decide +kernel, rfl, by decide +kernel, by decide +kernel⟩
theorem ok__law_read_right (T : Txt K mg D) : FnOk P w K mg base CX0 7 D.a__law_read_right D.d__law_read_right ["_law_text"] (vsp K [false] spReadOk) := by
  have G_Rule_read := ok_Rule_read (P := P) (w := w) (base := base) T
  have G_Rule___str__ := ok_Rule___str__ (P := P) (w := w) (base := base) T
  have G_Rule___eq__ := ok_Rule___eq__ (P := P) (w := w) (base := base) T
  have G_Rule_init := ok_Rule_init (P := P) (w := w) (base := base) T
  have G__law_is_rule := ok__law_is_rule (P := P) (w := w) (base := base) T
  have G__law_reading := ok__law_reading (P := P) (w := w) (base := base) T
  have G__law_integerq := okq__law_integer (P := P) (w := w) (base := base) T
  refine VL.okV T.F__law_read_right sc__law_read_right rfl (by decide) (fun cdv A outer s H E hr => have hu := VL.huR hr; ⟨_, (pss_cons (ps_asg (pe_call G__law_reading (hr.mono (by decide)) (by rfl) T.g__law_reading T.F__law_reading.kp T.b__law_reading .nil pass0 (pa_cons (pv 0) pa_nil)) (pg_tup (by rfl) (pgs_cons (pg_name (i := 1) sc__law_read_right.nd rfl (Or.inl rfl)) (pgs_cons (pg_name (i := 2) sc__law_read_right.nd rfl (Or.inl rfl)) pgs_nil))))
      (pss_cons (VL.ps_try2 rfl rfl sc__law_read_right.nd takes0 (fun W pn xe tk _ => (pss_one (ps_set (i := 3) sc__law_read_right.nd rfl (Or.inl rfl) (XR.pe_cmethS (pe_glob (v := .ref D.c_Rule) (by rfl) T.g_Rule rfl) (T_cr_Rule_read T) (T_cm_Rule_read T) (VL.raw0 G_Rule_read T.b_Rule_read) (hr.mono (by decide)) (fun σ => passAt tk σ) (pa_cons (pv 0) pa_nil))))) (TrN.Cls.cons (i := 4) rfl rfl ⟨rfl, by decide, Or.inl T.g_InvalidText⟩ (fun a oe cls d pn hz hf => XR.cong_ts (by exact (pss_cons (ps_if (PW.pt (pw_or (pt_not (pt_val (pe_callB (id := "isinstance") (XR.call_isAs hz hf) (by rfl) T.n_isinstance (by decide +kernel) (pa_cons (pv 4) (pa_cons (pe_glob (v := .ref D.c_TextError) (by rfl) T.g_TextError rfl) pa_nil))))) (pw_or1 (pt_not (pt_val (pe_callB (id := "isinstance") (XR.call_isAs hz hf) (by rfl) T.n_isinstance (by decide +kernel) (pa_cons (pv 4) (pa_cons (pe_bltn (v := .ty "ValueError") (u := .type "ValueError") (by rfl) T.n_ValueError (by decide +kernel) rfl) pa_nil))))))))
      (pss_one (ps_ret pe_bl))
      pss_nil)
      (pss_cons (ps_if (PW.pt (pw_or (pt_val (pe_callB (id := "isinstance") (XR.call_isAs hz hf) (by rfl) T.n_isinstance (by decide +kernel) (pa_cons (pv 4) (pa_cons (pe_glob (v := .ref D.c_ImpossibleError) (by rfl) T.g_ImpossibleError rfl) pa_nil)))) (pw_or1 (pt_val (pe_callB (id := "isinstance") (XR.call_isAs hz hf) (by rfl) T.n_isinstance (by decide +kernel) (pa_cons (pv 4) (pa_cons (pe_glob (v := .ref D.c_UnknownError) (by rfl) T.g_UnknownError rfl) pa_nil)))))))
      (pss_one (ps_ret pe_bl))
      pss_nil)
      (pss_one (ps_ret (pe_and (pe_cmpR (VL.op_eqK (K := K) rfl (VL.hu64 hu)) (pv 1) pe_str (nomark _)) (pe_and (pe_callB (VL.call_isiK (K := K) rfl) (by rfl) T.n_isinstance (by decide +kernel) (pa_cons (XR.pe_pfs hz hf (pv 4)) (pa_cons (pe_bltn (v := .ty "str") (u := .type "str") (by rfl) T.n_str (by decide +kernel) rfl) pa_nil))) (pe_one (pe_cmpR (VL.op_eqK (K := K) rfl (VL.hu64 hu)) (XR.pe_pfs hz hf (pv 4)) (pv 0) (nomark _)))))))))) (by rfl)) (TrN.Cls.cons (i := 5) rfl rfl ⟨rfl, by decide, Or.inl T.g_ArchiveError⟩ (fun a oe cls d pn hz hf => XR.cong_ts (by exact (pss_cons (ps_if (PW.pt (pw_or (pt_not (pt_val (pe_callB (id := "isinstance") (XR.call_isAs hz hf) (by rfl) T.n_isinstance (by decide +kernel) (pa_cons (pv 5) (pa_cons (pe_glob (v := .ref D.c_InvalidRule) (by rfl) T.g_InvalidRule rfl) pa_nil))))) (pw_or1 (pt_val (pe_callB (id := "isinstance") (XR.call_isAs hz hf) (by rfl) T.n_isinstance (by decide +kernel) (pa_cons (pv 5) (pa_cons (pe_glob (v := .ref D.c_TextError) (by rfl) T.g_TextError rfl) pa_nil)))))))
      (pss_one (ps_ret pe_bl))
      pss_nil)
      (pss_one (ps_ret (pe_and (pe_cmpR (VL.op_eqK (K := K) rfl (VL.hu64 hu)) (pv 1) pe_str (nomark _)) (pe_and (XR.pe_callQs G__law_integerq (XR.hot_of (hr.mono (by decide))) (by rfl) T.g__law_integer T.F__law_integer.kp T.b__law_integer (pa_cons (XR.pe_pfs hz hf (pv 5)) pa_nil)) (pe_one (pe_cmpR (VL.op_eqK (K := K) rfl (VL.hu64 hu)) (pe_lst (pa_cons (XR.pe_pfs hz hf (pv 5)) pa_nil)) (pv 2) (nomark _))))))))) (by rfl)) TrN.Cls.nil)))
      (pss_cons (ps_if (PW.pt (pw_or (pt_cmpR (op_neD (VL.hu64 hu)) (pv 1) pe_str (nomark _)) (pw_or1 (pt_not (pt_val (pe_call G__law_is_rule (hr.mono (by decide)) (by rfl) T.g__law_is_rule T.F__law_is_rule.kp T.b__law_is_rule .nil pass0 (pa_cons (pv 3) (pa_cons (pv 2) pa_nil))))))))
      (pss_one (ps_ret pe_bl))
      pss_nil)
      (pss_cons (ps_set (i := 6) sc__law_read_right.nd rfl (Or.inl rfl) (pe_make (T_mk_Rule T) G_Rule_init (hr.mono (by decide)) (by rfl) T.g_Rule T.b_Rule_init .nil passL (pa_cons (pe_callTy VL.call_listU (by rfl) T.n_list (by decide +kernel) (pa_cons (pv 2) pa_nil)) pa_nil)))
      (pss_cons (ps_if (PW.pt (pw_or (pt_not (pt_val (pe_callB call_isi (by rfl) T.n_isinstance (by decide +kernel) (pa_cons (pe_callTy (XR.call_str_own (T_o_Rule___str__ T) G_Rule___str__ (hr.mono (by decide)) T.b_Rule___str__ pass0) (by rfl) T.n_str (by decide +kernel) (pa_cons (pv 3) pa_nil)) (pa_cons (pe_bltn (v := .ty "str") (u := .type "str") (by rfl) T.n_str (by decide +kernel) rfl) pa_nil))))) (pw_or (pt_cmpR (op_neD (VL.hu64 hu)) (pe_callTy (XR.call_str_own (T_o_Rule___str__ T) G_Rule___str__ (hr.mono (by decide)) T.b_Rule___str__ pass0) (by rfl) T.n_str (by decide +kernel) (pa_cons (pv 3) pa_nil)) (pv 0) (nomark _)) (pw_or1 (pt_cmpR (op_neD (VL.hu64 hu)) (pe_callTy (XR.call_str_own (T_o_Rule___str__ T) G_Rule___str__ (hr.mono (by decide)) T.b_Rule___str__ pass0) (by rfl) T.n_str (by decide +kernel) (pa_cons (pv 6) pa_nil)) (pv 0) (nomark _))))))
      (pss_one (ps_ret pe_bl))
      pss_nil)
      (pss_one (ps_ret (pe_and (pe_cmpR (XR.op_eq_own (T_o_Rule___eq__ T) G_Rule___eq__ (hr.mono (by decide)) T.b_Rule___eq__ pass0) (pv 3) (pv 6) (nomark _)) (pe_one (pe_cmpR (XR.op_eq_own (T_o_Rule___eq__ T) G_Rule___eq__ (hr.mono (by decide)) T.b_Rule___eq__ pass0) (XR.pe_cmethS (pe_glob (v := .ref D.c_Rule) (by rfl) T.g_Rule rfl) (T_cr_Rule_read T) (T_cm_Rule_read T) (VL.raw0 G_Rule_read T.b_Rule_read) (hr.mono (by decide)) (fun σ => XR.at_of_passes (σ := σ) passL) (pa_cons (pe_callTy (XR.call_str_own (T_o_Rule___str__ T) G_Rule___str__ (hr.mono (by decide)) T.b_Rule___str__ pass0) (by rfl) T.n_str (by decide +kernel) (pa_cons (pv 6) pa_nil)) pa_nil)) (pv 3) (nomark _))))))))))), ?_⟩)
  apply VL.wvI
  · intro B; walk_at "vi"
  · intro ts Qv Xv h
    obtain ⟨l, rfl, l4, k⟩ := h
    walk_at "v"
    refine ⟨l, rfl, l4, fun en => ?_, fun ts n es hb => ?_, fun ts es hb => ?_⟩
    · walk_at "V"
      refine ⟨fun _ => ?_, fun ts h => by rw [en] at h; cases h⟩
      walk_at "V"
      rw [decide_eq_true rfl]
      exact k
    · walk_at "V"
      refine ⟨fun e => (by rw [es] at e; cases e), fun us e => ?_⟩
      obtain rfl : ts = us := by rw [es] at e; exact Option.some.inj e
      refine ⟨fun k2 hk => ?_, fun ok => by rw [bad_ok ok] at hb; cases hb⟩
      obtain rfl : n = k2 := by rw [hb] at hk; exact Option.some.inj hk
      walk_at "V"
      rw [show eqT (.lst [.int (n : Int)]) (.lst [.int (n : Int)]) = true from encInt.list.self [(n : Int)]]
      exact k
    · have ok : TermsOk 4 ts := by
        obtain ⟨us, ok, h1, _⟩ := bad_pre (ts.map pr)
        rw [pr_inj (h1 hb)]
        exact ok
      have t4 := ok.ln
      walk_at "V"
      refine ⟨fun e => (by rw [es] at e; cases e), fun us e => ?_⟩
      obtain rfl : ts = us := by rw [es] at e; exact Option.some.inj e
      refine ⟨fun k2 hk => (by rw [hb] at hk; cases hk), fun _ => ?_⟩
      walk_at "V"
      refine ⟨true, ts.map pr, by rw [pr_map]; rfl, by rw [List.length_map]; omega, len_pr, fun n hn => (by rw [hb] at hn; cases hn), fun us hu e => ?_⟩
      obtain rfl := pr_inj e
      walk_at "V"
      have et := txt_rd es
      rw [et, decide_eq_true rfl]
      walk_at "V"
      rw [et, decide_eq_true rfl]
      walk_at "V"
      refine ⟨ts, ts, rfl, by omega, by omega, ?_⟩
      rw [decide_eq_true rfl]
      walk_at "V"
      rw [et]
      refine ⟨l4, fun e => (by rw [es] at e; cases e), fun us e => ?_⟩
      obtain rfl : ts = us := by rw [es] at e; exact Option.some.inj e
      refine ⟨fun k2 hk => (by rw [hb] at hk; cases hk), fun _ => ?_⟩
      walk_at "V"
      refine ⟨ts, ts, rfl, by omega, by omega, ?_⟩
      rw [decide_eq_true rfl]
      walk_at "V"
      exact k
end
end Toy
set_option Elab.async false
set_option linter.all false
set_option maxRecDepth 100000
set_option maxHeartbeats 4000000
set_option synthInstance.maxSize 1000000
set_option synthInstance.maxHeartbeats 4000000
namespace Toy
open PySem L2 XR VL
local macro_rules | `(tactic| walk_at "ne") => `(tactic| first | assumption | (apply Ne.symm; assumption) | exact XR.ne_fresh (by assumption) (by walk_at "hp") | exact Ne.symm (XR.ne_fresh (by assumption) (by walk_at "hp")))
local macro_rules | `(tactic| walk_at "hp") => `(tactic| first | assumption | exact upd_same | (refine Eq.trans (upd_ne ?_) ?_; (walk_at "ne"); walk_at "hp"))
local macro_rules | `(tactic| walk_at "sq") => `(tactic| first | walk_at "hp" | exact SqL.of (by walk_at "hp") | exact SqT.of (by walk_at "hp") | exact XR.SqT.same (by assumption) (by assumption) | exact XR.SqL.same (by assumption) (by assumption))
local macro_rules | `(tactic| walk_at "br") => `(tactic| (refine ite2 ?_ ?_ <;> intro hbr <;> (try simp only [decide_eq_true_eq, decide_eq_false_iff_not, V.int.injEq, V.bl.injEq, V.str.injEq, Bool.not_eq_true, Bool.not_eq_eq_eq_not, Bool.not_true, Bool.not_false, ne_eq, Int.reduceToNat, Int.reducePow, Int.reduceMul, Int.reduceAdd, Int.reduceSub, reduceCtorEq, not_true_eq_false, not_false_eq_true, Int.not_lt, Int.not_le] at hbr)))
local macro_rules | `(tactic| walk_at "side") => `(tactic| first
  | exact ⟨by decide, by decide, by decide⟩
  | exact .inl ⟨by decide, by decide⟩
  | exact .inr ⟨by decide, by decide⟩
  | exact XR.divw (by first | decide | omega) (by first | decide | omega)
  | (show (_ : Int) = _; first | rfl | omega)
  | (show (0 : Int) < _; first | decide | assumption | omega)
  | exact .inl ⟨by omega, by omega⟩
  | exact .inr ⟨by omega, by omega⟩
  | exact .inl (XR.cmul_mod (by decide))
  | exact XR.log_lt (by omega) (by omega)
  | decide
  | (rw [sizeLine_eq]; simp; done)
  | (show 2 ≤ sizeLine; decide) | (show 3 ≤ sizeLine; decide) | (show 4 ≤ sizeLine; decide) | (show 5 ≤ sizeLine; decide) | (show 6 ≤ sizeLine; decide) | (show 7 ≤ sizeLine; decide) | (show 1 ≤ sizeLine; decide) | (show 8 ≤ sizeLine; decide) | (show 0 ≤ sizeLine; decide))
local macro_rules | `(tactic| walk_at "rd1") => `(tactic| first
  | refine ⟨_, rfl, ?_⟩
  | refine ⟨_, _, rfl, rfl, ?_⟩
  | refine ⟨_, _, _, _, rfl, rfl, (by walk_at "sq"), rfl, ?_⟩
  | refine ⟨_, _, _, _, rfl, rfl, (by walk_at "hp"), (by walk_at "hp"), (by walk_at "side"), ?_⟩
  | refine ⟨_, _, rfl, .inl (by walk_at "sq"), ?_⟩
  | refine ⟨_, _, rfl, .inl ⟨(by walk_at "sq"), ?_⟩⟩
  | refine ⟨_, _, rfl, .inr (by walk_at "sq"), ?_⟩
  | refine ⟨_, _, _, _, _, rfl, (by walk_at "hp"), (by walk_at "cls"), (by walk_at "noat"), rfl, ?_⟩
  | refine ⟨_, _, _, _, rfl, rfl, (by walk_at "sq"), (by first | assumption | exact XR.at0 | exact XR.at1), ?_⟩
  | refine ⟨rfl, ?_⟩
  | refine And.intro (by walk_at "side") ?_
  | refine .inl ⟨_, rfl, ?_⟩
  | refine And.intro ⟨_, (by walk_at "sq")⟩ ?_
  | refine ⟨_, _, rfl, (by walk_at "sq"), ?_⟩
  | refine ⟨_, _, rfl, ?_⟩
  | refine .inr ⟨_, rfl, (by walk_at "side"), ?_⟩
  | refine ⟨_, _, _, rfl, (by walk_at "hp"), ?_⟩
  | refine iteT ?_
  | refine iteF ?_)
local macro_rules | `(tactic| walk_at "rd") => `(tactic| repeat (walk_at "rd1"))
local macro_rules | `(tactic| walk_at "nn") => `(tactic| (simp only [Int.reduceToNat, Int.reducePow, Int.reduceMul, Int.reduceAdd, Int.reduceSub, Int.reduceNeg]))
local macro_rules | `(tactic| walk_at "dr") => `(tactic| repeat (first | refine And.intro (by first | assumption | walk_at "pre") ?_ | refine And.intro (by first | decide | omega) ?_))
local macro_rules | `(tactic| walk_at "vi") => `(tactic| ((try dsimp only [L2.cxOf, L2.Cx.nox, L2.Cx.wish, L2.Cx.blk, L2.Cx.suite, L2.Cx.tr, L2H.cxH, List.map_cons, List.map_nil]); (try simp only [List.map_cons, List.map_nil]); infer_instance))
local macro_rules | `(tactic| walk_at "w") => `(tactic| conv => whnf)
local macro_rules | `(tactic| walk_at "sz") => `(tactic| first
  | (show _ ≤ sizeLine; rw [sizeLine_eq]; first | decide | omega | (simp; done) | (simp; omega))
  | (show _ < sizeLine; rw [sizeLine_eq]; first | decide | omega | (simp; done) | (simp; omega)))
local macro_rules | `(tactic| walk_at "ok") => `(tactic| first
  | exact encInt.list.ok (by decide) _ | exact encInt.tupl.ok (by decide) _ | exact encStr.list.ok (by decide) _ | exact encStr.tupl.ok (by decide) _
  | exact (encInt.pair encInt).list.ok (by decide) _ | exact (encInt.pair encInt).ok (by decide) _ | exact (encStr.pair encStr).list.ok (by decide) _ | exact (encStr.pair encStr).ok (by decide) _
  | exact encInt.tupl.list.ok (by decide) _)
local macro_rules | `(tactic| walk_at "vs") => `(tactic| first
  | exact trivial
  | assumption
  | exact rfl
  | exact ⟨rfl, rfl⟩
  | walk_at "ok"
  | walk_at "sz"
  | exact .inl (.inr ⟨by decide, by decide⟩)
  | exact .inl (.inl ⟨by first | decide | omega, by first | decide | omega⟩)
  | exact .inl (.inr ⟨by first | decide | omega, by first | decide | omega⟩)
  | exact XR.divw (by first | decide | omega) (by first | decide | omega)
  | (show (0 : Int) < _; first | decide | omega)
  | exact ⟨by first | decide | omega, by first | decide | omega⟩
  | exact ⟨by first | decide | omega, by first | decide | omega, by first | decide | omega⟩
  | exact ⟨by walk_at "sz", by omega, by omega⟩
  | exact ⟨by walk_at "cls", by walk_at "noat"⟩
  | exact ⟨by walk_at "xf", by walk_at "xe"⟩
  | walk_at "exm"
  | decide
  | exact XR.log_lt (by omega) (by omega)
  | ((try dsimp only); (try simp only [List.length_map, List.length_append, List.length_cons, List.length_nil, List.length_eraseIdx]); omega))
local macro_rules | `(tactic| walk_at "v") => `(tactic| (walk_at "w"; (repeat ((first | refine And.intro (by walk_at "vs") ?_ | refine isS_i (by assumption) ?_); walk_at "w")); (try walk_at "n")))
local macro_rules | `(tactic| walk_at "isi") => `(tactic| first | refine ⟨_, VL.IsI.int_int _, ?_⟩ | refine ⟨_, VL.IsI.int_bool _, ?_⟩ | refine ⟨_, VL.IsI.int_str _, ?_⟩ | refine ⟨_, VL.IsI.int_list _, ?_⟩ | refine ⟨_, VL.IsI.int_tuple _, ?_⟩ | refine ⟨_, VL.IsI.bl_int _, ?_⟩ | refine ⟨_, VL.IsI.bl_bool _, ?_⟩ | refine ⟨_, VL.IsI.bl_str _, ?_⟩ | refine ⟨_, VL.IsI.str_str _, ?_⟩ | refine ⟨_, VL.IsI.str_int _, ?_⟩ | refine ⟨_, VL.IsI.str_bool _, ?_⟩ | refine ⟨_, VL.IsI.lst_list _, ?_⟩ | refine ⟨_, VL.IsI.lst_tuple _, ?_⟩ | refine ⟨_, VL.IsI.tup_list _, ?_⟩ | refine ⟨_, VL.IsI.tup_tuple _, ?_⟩ | refine ⟨_, VL.IsI.tup_str _, ?_⟩ | refine ⟨_, VL.IsI.tup_int _, ?_⟩ | refine ⟨_, VL.IsI.dk_dict _, ?_⟩ | refine ⟨_, VL.IsI.non_int, ?_⟩ | refine ⟨_, VL.IsI.non_tuple, ?_⟩ | refine ⟨_, VL.IsI.non_list, ?_⟩ | refine ⟨_, VL.IsI.non_str, ?_⟩)
local macro_rules | `(tactic| walk_at "V") => `(tactic| (walk_at "w"; (repeat ((first | refine And.intro (by walk_at "vs") ?_ | refine isS_i (by assumption) ?_ | refine Or.inr ?_ | walk_at "isi" | walk_at "eis" | refine ⟨_, rfl, ?_⟩); walk_at "w")); (try walk_at "n")))
set_option hygiene false
local macro_rules | `(tactic| walk_at "vb") => `(tactic| (refine br_i ?_ ?_ <;> intro hbr <;> (try simp only [nb, decide_eq_true_eq, decide_eq_false_iff_not, Bool.not_eq_true, Bool.not_eq_eq_eq_not, Bool.not_true, Bool.not_false, ne_eq, Bool.and_eq_true, Bool.or_eq_true, Bool.and_eq_false_imp, Decidable.not_not, Int.not_lt, Int.not_le, bne_iff_ne, Bool.not_eq_false, Bool.or_eq_false_iff, reduceCtorEq, not_true_eq_false, not_false_eq_true] at hbr)))
set_option hygiene true
local macro_rules | `(tactic| walk_at "le") => `(tactic| exact VL.Le.to rfl (Nat.le_of_ble_eq_true rfl))
local macro_rules | `(tactic| walk_at "d") => `(tactic| dsimp only at *)
local macro_rules | `(tactic| walk_at "n") => `(tactic| dsimp only [VL.env0, VL.slots0, VL.mem0, VL.nones, VL.falses, VL.put_mk, VL.push_mk, VL.set_mk, VL.unset_mk, VL.wipe_nl, VL.wipe_cs, VL.el_mk, VL.frs_nl, VL.frs_cs, VL.fr_mk, VL.frX, VL.frSl, VL.nth, Nat.reduceAdd, Nat.reduceSub, Nat.reduceMul, Nat.reduceBEq, List.set, List.length_cons, List.length_nil, List.cons_append, List.nil_append, VL.qI, VL.qT, VL.qR])
local macro_rules | `(tactic| walk_at "cls") => `(tactic| first | exact T_cl_Rule (by assumption))
local macro_rules | `(tactic| walk_at "noat") => `(tactic| first | exact Txt.no_Rule_terms (by assumption))
local macro_rules | `(tactic| walk_at "eis") => `(tactic| first | refine ⟨_, ⟨T_as_InvalidRule (by assumption), _, .cls _, Txt.z_InvalidRule_ImpossibleError (by assumption)⟩, ?_⟩ | refine ⟨_, ⟨T_as_InvalidRule (by assumption), _, .cls _, Txt.z_InvalidRule_InvalidRule (by assumption)⟩, ?_⟩ | refine ⟨_, ⟨T_as_InvalidRule (by assumption), _, .cls _, Txt.z_InvalidRule_TextError (by assumption)⟩, ?_⟩ | refine ⟨_, ⟨T_as_InvalidRule (by assumption), _, .cls _, Txt.z_InvalidRule_UnknownError (by assumption)⟩, ?_⟩ | refine ⟨_, ⟨T_as_InvalidRule (by assumption), _, .ty _, Txt.z_InvalidRule_ValueError (by assumption)⟩, ?_⟩ | refine ⟨_, Txt.m_InvalidRule_ArchiveError (by assumption), ?_⟩ | refine ⟨_, Txt.m_InvalidRule_InvalidText (by assumption), ?_⟩ | refine ⟨_, ⟨T_as_InvalidText (by assumption), _, .cls _, Txt.z_InvalidText_ImpossibleError (by assumption)⟩, ?_⟩ | refine ⟨_, ⟨T_as_InvalidText (by assumption), _, .cls _, Txt.z_InvalidText_InvalidRule (by assumption)⟩, ?_⟩ | refine ⟨_, ⟨T_as_InvalidText (by assumption), _, .cls _, Txt.z_InvalidText_TextError (by assumption)⟩, ?_⟩ | refine ⟨_, ⟨T_as_InvalidText (by assumption), _, .cls _, Txt.z_InvalidText_UnknownError (by assumption)⟩, ?_⟩ | refine ⟨_, ⟨T_as_InvalidText (by assumption), _, .ty _, Txt.z_InvalidText_ValueError (by assumption)⟩, ?_⟩ | refine ⟨_, Txt.m_InvalidText_ArchiveError (by assumption), ?_⟩ | refine ⟨_, Txt.m_InvalidText_InvalidText (by assumption), ?_⟩ | fail)
local macro_rules | `(tactic| walk_at "exm") => `(tactic| first | exact Txt.m_InvalidRule_ArchiveError (by assumption) | exact Txt.m_InvalidText_ArchiveError (by assumption) | exact Txt.m_InvalidText_InvalidText (by assumption) | fail)
local macro_rules | `(tactic| walk_at "xf") => `(tactic| first | exact T_xf_InvalidRule (by assumption) | exact T_xf_InvalidText (by assumption) | fail)
local macro_rules | `(tactic| walk_at "xe") => `(tactic| first | exact Txt.e_InvalidRule_at (by assumption) | exact Txt.e_InvalidText_text (by assumption) | fail)
local macro_rules | `(tactic| walk_at "isi") => `(tactic| first | refine ⟨_, VL.IsI.mk _ _ (.obj (fun _ _ _ _ e => T_ty_Rule (by assumption) e)) (.cls _) (Txt.zo_Rule_ImpossibleError (by assumption)), ?_⟩ | refine ⟨_, VL.IsI.mk _ _ (.obj (fun _ _ _ _ e => T_ty_Rule (by assumption) e)) (.cls _) (Txt.zo_Rule_InvalidRule (by assumption)), ?_⟩ | refine ⟨_, VL.IsI.mk _ _ (.obj (fun _ _ _ _ e => T_ty_Rule (by assumption) e)) (.cls _) (Txt.zo_Rule_Rule (by assumption)), ?_⟩ | refine ⟨_, VL.IsI.mk _ _ (.obj (fun _ _ _ _ e => T_ty_Rule (by assumption) e)) (.cls _) (Txt.zo_Rule_TextError (by assumption)), ?_⟩ | refine ⟨_, VL.IsI.mk _ _ (.obj (fun _ _ _ _ e => T_ty_Rule (by assumption) e)) (.cls _) (Txt.zo_Rule_UnknownError (by assumption)), ?_⟩ | refine ⟨_, VL.IsI.mk _ _ (.obj (fun _ _ _ _ e => T_ty_Rule (by assumption) e)) (.ty _) (Txt.zo_Rule_ValueError (by assumption)), ?_⟩ | refine ⟨_, VL.IsI.mk _ _ (.obj (fun _ _ _ _ e => T_ty_Rule (by assumption) e)) (.ty _) (Txt.zo_Rule_bool (by assumption)), ?_⟩ | refine ⟨_, VL.IsI.mk _ _ (.obj (fun _ _ _ _ e => T_ty_Rule (by assumption) e)) (.ty _) (Txt.zo_Rule_int (by assumption)), ?_⟩ | refine ⟨_, VL.IsI.mk _ _ (.obj (fun _ _ _ _ e => T_ty_Rule (by assumption) e)) (.ty _) (Txt.zo_Rule_list (by assumption)), ?_⟩ | refine ⟨_, VL.IsI.mk _ _ (.obj (fun _ _ _ _ e => T_ty_Rule (by assumption) e)) (.ty _) (Txt.zo_Rule_str (by assumption)), ?_⟩ | refine ⟨_, VL.IsI.mk _ _ (.obj (fun _ _ _ _ e => T_ty_Rule (by assumption) e)) (.ty _) (Txt.zo_Rule_tuple (by assumption)), ?_⟩)
local macro_rules | `(tactic| walk_at "ok") => `(tactic| first | exact encP.ok (by decide) _ | exact encRw.ok (by decide) _ | exact encRw.list.ok (by decide) _ | exact encP.tupl.ok (by decide) _ | exact encP.list.ok (by decide) _)
local macro_rules | `(tactic| walk_at "vs") => `(tactic| first | exact VL.strOk_of _ | exact szL (by omega) | exact szS (by omega))
section
variable {P : Program} {w : World} {K : PySem.W.Frag} {mg : Str → Option Value} {base : Heap} {D : Ad}
theorem isS_ch {z : Str} {i : Int} {R : Nat → Prop} (h0 : 0 ≤ i) (h1 : i < (z.length : Int)) (h : ∀ c : Nat, R c) : isS (atL z.cps.toList i) R := by
  obtain ⟨c, e, _⟩ := atL_at z.cps.toList h0 (by rw [Array.length_toList]; exact h1)
  exact isS_i e (h c)
theorem szT {z : Str} (h : z.length ≤ 1000) : z.length ≤ sizeLine := by unfold sizeLine; omega
local macro_rules | `(tactic| walk_at "vs") => `(tactic| exact szT (by omega))
def spSign : VSp := fun vs Q _ => ∃ (bx : T) (c : Nat), vs = [bx] ∧ Bx c bx ∧ c < 2 ^ 38 ∧ ∀ (x : Str) bx', x.length = 1 → Bx (c + 2) bx' → Q (.val (.str x)) [bx']
theorem sc__law_sign : FnScope ["_law_bag", "_law_signs"] ["_law_bag"] (defScope s__law_sign) := ⟨rfl, rfl, rfl, by decide +kernel, rfl, by decide +kernel, by decide +kernel⟩
theorem ok__law_sign (T : Txt K mg D) : FnOk P w K mg base CX0 3 D.a__law_sign D.d__law_sign ["_law_bag"] (vsp K [true] spSign) := by
  have G__law_take := ok__law_take (P := P) (w := w) (base := base) T
  refine VL.okV T.F__law_sign sc__law_sign rfl (by decide) (fun cdv A outer s H E hr => have hu := VL.huR hr; ⟨_, (pss_cons (ps_if (pt_cmpR (op_eqD (VL.hu64 hu)) (pe_call G__law_take (hr.mono (by decide)) (by rfl) T.g__law_take T.F__law_take.kp T.b__law_take .nil pass0 (pa_cons (pv 0) (pa_cons pe_int pa_nil))) pe_int (nomark _))
      (pss_one (ps_ret (pe_ix ix_seq pe_str (pe_call G__law_take (hr.mono (by decide)) (by rfl) T.g__law_take T.F__law_take.kp T.b__law_take .nil pass0 (pa_cons (pv 0) (pa_cons pe_int pa_nil))) (fun _ _ => rfl))))
      pss_nil)
      (pss_cons (ps_set (i := 1) sc__law_sign.nd rfl (Or.inl rfl) pe_str)
      (pss_cons (ps_set (i := 1) sc__law_sign.nd rfl (Or.inl rfl) (pe_op VL.op_addU (pv 1) pe_str))
      (pss_one (ps_ret (pe_ix ix_seq (pv 1) (pe_call G__law_take (hr.mono (by decide)) (by rfl) T.g__law_take T.F__law_take.kp T.b__law_take .nil pass0 (pa_cons (pv 0) (pa_cons pe_int pa_nil))) (fun _ _ => rfl))))))), ?_⟩)
  apply VL.wvI
  · intro B; walk_at "vi"
  · intro ts Qv Xv h
    obtain ⟨bx, c, rfl, hB, hc, k⟩ := h
    walk_at "V"
    generalize hz : (PySem.Str.ofString "0123+- 4") = z
    generalize hy : (PySem.Str.ofString " !\"#$&'()*+,-./0123456789:;<=>?@ABCDEFGHIJKLMNOPQRSTUVWXYZ[\\]^_`") = y
    generalize hx : (PySem.Str.ofString "abcdefghijklmnopqrstuvwxyz{|}~\n\t") = x
    have zo : PyData.strOk z = true := by rw [← hz]; exact VL.strOk_of _
    have zl : z.length = 8 := by rw [← hz]; decide +kernel
    have yo : PyData.strOk y = true := by rw [← hy]; exact VL.strOk_of _
    have yl : y.length = 64 := by rw [← hy]; decide +kernel
    have xo : PyData.strOk x = true := by rw [← hx]; exact VL.strOk_of _
    have xl : x.length = 32 := by rw [← hx]; decide +kernel
    have al := len_app y x
    refine ⟨_, _, _, rfl, hB, by omega, by decide, by decide, fun a b1 a0 a1 B1 => ?_⟩
    walk_at "V"
    walk_at "vb"
    · walk_at "V"
      refine ⟨_, _, _, rfl, B1, by omega, by decide, by decide, fun i b2 i0 i1 B2 => ?_⟩
      walk_at "V"
      refine isS_ch (z := z) i0 (by omega) fun ch => ?_
      walk_at "V"
      exact k _ _ rfl B2
    · walk_at "V"
      refine ⟨_, _, _, rfl, B1, by omega, by decide, by decide, fun i b2 i0 i1 B2 => ?_⟩
      walk_at "V"
      refine isS_ch (z := y ++ x) i0 (by omega) fun ch => ?_
      walk_at "V"
      exact k _ _ rfl B2
theorem snoc2 {ys : List Str} {x : Str} (h : ∀ y ∈ ys, y.length = 2) (k : x.length = 2) : ∀ y ∈ ys ++ [x], y.length = 2 := fun y hy => by
  rcases List.mem_append.mp hy with w | w
  · exact h y w
  · rw [List.mem_singleton.mp w]; exact k
def spWords : VSp := fun vs Q _ => ∃ (bx : T) (c : Nat), vs = [bx] ∧ Bx c bx ∧ c < 2 ^ 38 ∧ ∀ (ys : List Str) bx', ys.length ≤ 6 → (∀ y ∈ ys, y.length = 2) → Q (.new (.lst (ys.map VL.T.str))) [bx']
theorem sc__law_words : FnScope ["_law_bag", "_law_left", "_law_words_here", "_law_turn", "_law_kind", "_law_place", "_law_mark"] ["_law_bag"] (defScope s__law_words) := ⟨rfl, rfl, rfl, by decide +kernel, rfl, by decide +kernel, by decide +kernel⟩
theorem ok__law_words (T : Txt K mg D) : FnOk P w K mg base CX0 3 D.a__law_words D.d__law_words ["_law_bag"] (vsp K [true] spWords) := by
  have G__law_take := ok__law_take (P := P) (w := w) (base := base) T
  refine VL.okV T.F__law_words sc__law_words rfl (by decide) (fun cdv A outer s H E hr => have hu := VL.huR hr; ⟨_, (pss_cons (ps_set (i := 1) sc__law_words.nd rfl (Or.inl rfl) (pe_lst (pa_cons pe_int (pa_cons pe_int (pa_cons pe_int (pa_cons pe_int pa_nil))))))
      (pss_cons (ps_set (i := 2) sc__law_words.nd rfl (Or.inl rfl) (pe_lst pa_nil))
      (pss_cons (ps_for PassesOwn.never rfl (pi_range1 (by rfl) T.n_range (pa_cons (pe_ix ix_seq (pe_lst (pa_cons pe_int (pa_cons pe_int (pa_cons pe_int (pa_cons pe_int (pa_cons pe_int (pa_cons pe_int (pa_cons pe_int pa_nil)))))))) (pe_call G__law_take (hr.mono (by decide)) (by rfl) T.g__law_take T.F__law_take.kp T.b__law_take .nil pass0 (pa_cons (pv 0) (pa_cons pe_int pa_nil))) (fun _ _ => rfl)) pa_nil)) (pg_name (i := 3) sc__law_words.nd rfl (Or.inl rfl))
      (pss_cons (ps_set (i := 4) sc__law_words.nd rfl (Or.inl rfl) (pe_call G__law_take (hr.mono (by decide)) (by rfl) T.g__law_take T.F__law_take.kp T.b__law_take .nil pass0 (pa_cons (pv 0) (pa_cons pe_int pa_nil))))
      (pss_cons (ps_set (i := 5) sc__law_words.nd rfl (Or.inl rfl) (pe_op VL.op_addU pe_int (pe_call G__law_take (hr.mono (by decide)) (by rfl) T.g__law_take T.F__law_take.kp T.b__law_take .nil pass0 (pa_cons (pv 0) (pa_cons pe_int pa_nil)))))
      (pss_cons (ps_set (i := 6) sc__law_words.nd rfl (Or.inl rfl) (pe_op op_mod (pe_callTy VL.call_intU (by rfl) T.n_int (by decide +kernel) (pa_cons (pv 5) pa_nil)) pe_int))
      (pss_cons (ps_if (PW.pt (pw_and (pt_cmpR op_lt (pv 4) pe_int (nomark _)) (pw_and1 (pt_cmpR (op_neD (VL.hu64 hu)) (pv 1) (pe_lst pa_nil) (nomark _)))))
      (pss_one (ps_set (i := 6) sc__law_words.nd rfl (Or.inl rfl) (pe_bm PySem.F.plainAttrs_list PySem.F.slot_list_pop PySem.F.type_list_pop mt_popAt (pv 1) (pa_cons (pe_op op_mod (pe_callTy VL.call_intU (by rfl) T.n_int (by decide +kernel) (pa_cons (pv 5) pa_nil)) (pe_callB VL.call_lenU (by rfl) T.n_len (by decide +kernel) (pa_cons (pv 1) pa_nil))) pa_nil))))
      pss_nil)
      (pss_one (ps_expr (pe_bm PySem.F.plainAttrs_list PySem.F.slot_list_append PySem.F.type_list_append mt_append (pv 2) (pa_cons (pe_op VL.op_addU (pe_ix ix_seq pe_str (pv 6) (fun _ _ => rfl)) (pe_ix ix_seq pe_str (pe_op op_mod (pe_callTy VL.call_intU (by rfl) T.n_int (by decide +kernel) (pa_cons (pe_op VL.op_addU (pv 3) (pe_call G__law_take (hr.mono (by decide)) (by rfl) T.g__law_take T.F__law_take.kp T.b__law_take .nil pass0 (pa_cons (pv 0) (pa_cons pe_int pa_nil)))) pa_nil)) pe_int) (fun _ _ => rfl))) pa_nil)))))))))
      (pss_one (ps_ret (pv 2)))))), ?_⟩)
  apply VL.wvI
  · intro B; walk_at "vi"
  · intro ts Qv Xv h
    obtain ⟨bx, c, rfl, hB, hc, k⟩ := h
    walk_at "V"
    generalize hz : (PySem.Str.ofString "0123") = z
    generalize hy : (PySem.Str.ofString "+-") = y
    have zo : PyData.strOk z = true := by rw [← hz]; exact VL.strOk_of _
    have zl : z.length = 4 := by rw [← hz]; decide +kernel
    have yo : PyData.strOk y = true := by rw [← hy]; exact VL.strOk_of _
    have yl : y.length = 2 := by rw [← hy]; decide +kernel
    refine ⟨_, _, _, rfl, hB, by omega, by decide, by decide, fun i3 b7 u7 w7 B7 => ?_⟩
    refine isS_lit (l := [2, 0, 1, 3, 4, 5, 6]) u7 w7 fun n hn => ?_
    have n9 : 0 ≤ n ∧ n ≤ 6 := (by decide : ∀ z ∈ [2, 0, 1, 3, 4, 5, (6 : Int)], 0 ≤ z ∧ z ≤ 6) n hn
    walk_at "V"
    refine for_rngF (β := VL.T × List Int × List Str) (fun γ s => ((γ.put 0 (.mu s.1)).put 1 (.mu (.lst (s.2.1.map VL.T.int)))).put 2 (.mu (.lst (s.2.2.map VL.T.str)))) (fun i s => Bx (c + 1 + 3 * i) s.1 ∧ s.2.2.length = i ∧ (∀ y ∈ s.2.2, y.length = 2) ∧ s.2.1.length ≤ 4 ∧ ∀ u ∈ s.2.1, 0 ≤ u ∧ u < 4) (Nx.mk (_, [0, 1, 2, 3], []) (by walk_at "le") ⟨B7, rfl, (by intro r hr; cases hr), show 4 ≤ 4 by decide, show ∀ u ∈ [0, 1, 2, (3 : Int)], 0 ≤ u ∧ u < 4 by decide⟩) ?_ ?_
    · rintro i ⟨b1, us, ys⟩ hi ⟨B1, rl, ro, u4, ur⟩
      walk_at "d"
      have rl : ys.length = i := rl
      have u4 : us.length ≤ 4 := u4
      walk_at "V"
      refine ⟨_, _, _, rfl, B1, by omega, by decide, by decide, fun kd b2 k0 k1 B2 => ?_⟩
      walk_at "V"
      refine ⟨_, _, _, rfl, B2, by omega, by decide, by decide, fun pl b3 q0 q1 B3 => ?_⟩
      walk_at "V"
      by_cases h4 : kd < 4
      · rw [decide_eq_true h4]
        walk_at "V"
        walk_at "vb"
        · have us0 : 0 < us.length := by
            cases us with
            | nil => simp at hbr
            | cons _ _ => simp
          walk_at "V"
          have m0 := Int.emod_nonneg (1 + pl) (b := ((us.map VL.T.int).length : Int)) (by rw [List.length_map]; omega)
          have m1 := Int.emod_lt_of_pos (1 + pl) (b := ((us.map VL.T.int).length : Int)) (by rw [List.length_map]; omega)
          rw [List.length_map] at m0 m1 ⊢
          obtain ⟨y2, hy2⟩ := at_of m0 m1
          refine ⟨⟨m0, by omega⟩, isS_i (pop_map hy2) ?_⟩
          have el := List.length_eraseIdx_le us ((1 + pl) % (us.length : Int)).toNat
          have yr := ur y2 (List.mem_of_getElem? hy2)
          walk_at "V"
          refine isS_ch (z := z) (i := y2) yr.1 (by omega) fun ch => ?_
          walk_at "V"
          refine ⟨_, _, _, rfl, B3, by omega, by decide, by decide, fun d b4 d0 d1 B4 => ?_⟩
          walk_at "V"
          refine isS_ch (z := y) (Int.emod_nonneg _ (by decide)) (by rw [yl]; exact Int.emod_lt_of_pos _ (by decide)) fun ch2 => ?_
          have c2 := len_app (⟨#[ch]⟩ : Str) ⟨#[ch2]⟩
          have c1 : (⟨#[ch]⟩ : Str).length = 1 ∧ (⟨#[ch2]⟩ : Str).length = 1 := ⟨rfl, rfl⟩
          walk_at "V"
          exact Nx.mk (_, us.eraseIdx _, ys ++ [⟨#[ch]⟩ ++ ⟨#[ch2]⟩]) (by rw [List.map_append]; walk_at "le") ⟨B4.mono (by omega), by rw [List.length_append, rl]; rfl, snoc2 ro rfl, Nat.le_trans el u4, fun u hu => ur u (List.mem_of_mem_eraseIdx hu)⟩
        · walk_at "V"
          refine isS_ch (z := z) (i := (1 + pl) % 4) (Int.emod_nonneg _ (by decide)) (by rw [zl]; exact Int.emod_lt_of_pos _ (by decide)) fun ch => ?_
          walk_at "V"
          refine ⟨_, _, _, rfl, B3, by omega, by decide, by decide, fun d b4 d0 d1 B4 => ?_⟩
          walk_at "V"
          refine isS_ch (z := y) (Int.emod_nonneg _ (by decide)) (by rw [yl]; exact Int.emod_lt_of_pos _ (by decide)) fun ch2 => ?_
          have c2 := len_app (⟨#[ch]⟩ : Str) ⟨#[ch2]⟩
          have c1 : (⟨#[ch]⟩ : Str).length = 1 ∧ (⟨#[ch2]⟩ : Str).length = 1 := ⟨rfl, rfl⟩
          walk_at "V"
          exact Nx.mk (_, us, ys ++ [⟨#[ch]⟩ ++ ⟨#[ch2]⟩]) (by rw [List.map_append]; walk_at "le") ⟨B4.mono (by omega), by rw [List.length_append, rl]; rfl, snoc2 ro rfl, u4, ur⟩
      · rw [decide_eq_false h4]
        walk_at "V"
        refine isS_ch (z := z) (i := (1 + pl) % 4) (Int.emod_nonneg _ (by decide)) (by rw [zl]; exact Int.emod_lt_of_pos _ (by decide)) fun ch => ?_
        walk_at "V"
        refine ⟨_, _, _, rfl, B3, by omega, by decide, by decide, fun d b4 d0 d1 B4 => ?_⟩
        walk_at "V"
        refine isS_ch (z := y) (Int.emod_nonneg _ (by decide)) (by rw [yl]; exact Int.emod_lt_of_pos _ (by decide)) fun ch2 => ?_
        have c2 := len_app (⟨#[ch]⟩ : Str) ⟨#[ch2]⟩
        have c1 : (⟨#[ch]⟩ : Str).length = 1 ∧ (⟨#[ch2]⟩ : Str).length = 1 := ⟨rfl, rfl⟩
        walk_at "V"
        exact Nx.mk (_, us, ys ++ [⟨#[ch]⟩ ++ ⟨#[ch2]⟩]) (by rw [List.map_append]; walk_at "le") ⟨B4.mono (by omega), by rw [List.length_append, rl]; rfl, snoc2 ro rfl, u4, ur⟩
    · rintro ⟨b1, us, ys⟩ ⟨B1, rl, ro, u4, ur⟩
      walk_at "d"
      have rl : ys.length = _ := rl
      walk_at "V"
      exact k _ _ (by omega) ro
def spChanged : VSp := fun vs Q _ => ∃ (bx : T) (c : Nat) (z : Str) (t : Int), vs = [bx, .str z, .int t] ∧ Bx c bx ∧ c < 2 ^ 37 ∧ z.length ≤ 300 ∧ 0 ≤ t ∧ t ≤ 10 ∧ ∀ (y : Str) bx', y.length ≤ 3 * z.length + 1 → Bx (c + 4) bx' → Q (.val (.str y)) [bx']
theorem sc__law_changed : FnScope ["_law_bag", "_law_text", "_law_turn", "_law_kind", "_law_place", "_law_sign_here"] ["_law_bag", "_law_text", "_law_turn"] (defScope s__law_changed) := ⟨rfl, rfl, rfl, by decide +kernel, rfl, by decide +kernel, by decide +kernel⟩
theorem ok__law_changed (T : Txt K mg D) : FnOk P w K mg base CX0 5 D.a__law_changed D.d__law_changed ["_law_bag", "_law_text", "_law_turn"] (vsp K [true, false, false] spChanged) := by
  have G__law_sign := ok__law_sign (P := P) (w := w) (base := base) T
  have G__law_take := ok__law_take (P := P) (w := w) (base := base) T
  refine VL.okV T.F__law_changed sc__law_changed rfl (by decide) (fun cdv A outer s H E hr => have hu := VL.huR hr; ⟨_, (pss_cons (ps_set (i := 3) sc__law_changed.nd rfl (Or.inl rfl) (pe_op op_mod (pe_callTy VL.call_intU (by rfl) T.n_int (by decide +kernel) (pa_cons (pe_op VL.op_addU (pv 2) (pe_call G__law_take (hr.mono (by decide)) (by rfl) T.g__law_take T.F__law_take.kp T.b__law_take .nil pass0 (pa_cons (pv 0) (pa_cons pe_int pa_nil)))) pa_nil)) pe_int))
      (pss_cons (ps_set (i := 4) sc__law_changed.nd rfl (Or.inl rfl) (pe_op op_mod (pe_callTy VL.call_intU (by rfl) T.n_int (by decide +kernel) (pa_cons (pe_op VL.op_addU (pe_op VL.op_mulU pe_int (pv 2)) (pe_call G__law_take (hr.mono (by decide)) (by rfl) T.g__law_take T.F__law_take.kp T.b__law_take .nil pass0 (pa_cons (pv 0) (pa_cons (pe_op VL.op_addU (pe_callB VL.call_lenU (by rfl) T.n_len (by decide +kernel) (pa_cons (pv 1) pa_nil)) pe_int) pa_nil)))) pa_nil)) (pe_op VL.op_addU (pe_callB VL.call_lenU (by rfl) T.n_len (by decide +kernel) (pa_cons (pv 1) pa_nil)) pe_int)))
      (pss_cons (ps_set (i := 5) sc__law_changed.nd rfl (Or.inl rfl) (pe_call G__law_sign (hr.mono (by decide)) (by rfl) T.g__law_sign T.F__law_sign.kp T.b__law_sign .nil pass0 (pa_cons (pv 0) pa_nil)))
      (pss_cons (ps_if (pt_cmpR (op_eqD (VL.hu64 hu)) (pv 3) pe_int (nomark _))
      (pss_one (ps_ret (pe_op VL.op_addU (pe_op VL.op_addU (pe_slice VL.sl_any (pv 1) po_none (po_some (pv 4))) (pv 5)) (pe_slice VL.sl_any (pv 1) (po_some (pv 4)) po_none))))
      pss_nil)
      (pss_cons (ps_if (pt_cmpR (op_eqD (VL.hu64 hu)) (pv 3) pe_int (nomark _))
      (pss_one (ps_ret (pe_op VL.op_addU (pe_slice VL.sl_any (pv 1) po_none (po_some (pv 4))) (pe_slice VL.sl_any (pv 1) (po_some (pe_op VL.op_addU (pv 4) pe_int)) po_none))))
      pss_nil)
      (pss_cons (ps_if (pt_cmpR (op_eqD (VL.hu64 hu)) (pv 3) pe_int (nomark _))
      (pss_one (ps_ret (pe_op VL.op_addU (pe_op VL.op_addU (pe_slice VL.sl_any (pv 1) po_none (po_some (pv 4))) (pv 5)) (pe_slice VL.sl_any (pv 1) (po_some (pe_op VL.op_addU (pv 4) pe_int)) po_none))))
      pss_nil)
      (pss_cons (ps_if (pt_cmpR (op_eqD (VL.hu64 hu)) (pv 3) pe_int (nomark _))
      (pss_one (ps_ret (pe_op VL.op_addU (pe_op VL.op_addU (pe_slice VL.sl_any (pv 1) po_none (po_some (pv 4))) (pe_slice VL.sl_any (pv 1) (po_some (pv 4)) (po_some (pe_op VL.op_addU (pv 4) pe_int)))) (pe_slice VL.sl_any (pv 1) (po_some (pv 4)) po_none))))
      pss_nil)
      (pss_cons (ps_if (pt_cmpR (op_eqD (VL.hu64 hu)) (pv 3) pe_int (nomark _))
      (pss_one (ps_ret (pe_op VL.op_addU (pv 1) (pe_slice VL.sl_any (pv 1) po_none (po_some (pv 4))))))
      pss_nil)
      (pss_one (ps_ret (pe_op VL.op_addU (pe_slice VL.sl_any (pv 1) (po_some (pv 4)) po_none) (pe_slice VL.sl_any (pv 1) po_none (po_some (pv 4)))))))))))))), ?_⟩)
  apply VL.wvI
  · intro B; walk_at "vi"
  · intro ts Qv Xv h
    obtain ⟨bx, c, z, t, rfl, hB, hc, zl, t0, t1, k⟩ := h
    walk_at "V"
    refine ⟨_, _, _, rfl, hB, by omega, by decide, by decide, fun kd b2 k0 k1 B2 => ?_⟩
    walk_at "V"
    refine ⟨_, _, _, rfl, B2, by omega, by omega, by omega, fun pl b3 q0 q1 B3 => ?_⟩
    walk_at "V"
    refine ⟨_, _, rfl, B3, by omega, fun x b4 xl B4 => ?_⟩
    generalize (3 * t + pl) % ((z.length : Int) + 1) = p
    have h1 := cutS_length z none (some p)
    have h2 := cutS_length z (some p) none
    have h3 := cutS_length z (some (p + 1)) none
    have h4 := cutS_length z (some p) (some (p + 1))
    have l1 := len_app (cutS z none (some p)) x
    have l2 := len_app (cutS z none (some p) ++ x) (cutS z (some p) none)
    have l3 := len_app (cutS z none (some p)) (cutS z (some (p + 1)) none)
    have l4 := len_app (cutS z none (some p) ++ x) (cutS z (some (p + 1)) none)
    have l5 := len_app (cutS z none (some p)) (cutS z (some p) (some (p + 1)))
    have l6 := len_app (cutS z none (some p) ++ cutS z (some p) (some (p + 1))) (cutS z (some p) none)
    have l7 := len_app z (cutS z none (some p))
    have l8 := len_app (cutS z (some p) none) (cutS z none (some p))
    walk_at "V"
    iterate 5
      walk_at "vb"
      · walk_at "V"
        exact k _ _ (by omega) (B4.mono (by omega))
      walk_at "V"
    exact k _ _ (by omega) (B4.mono (by omega))
theorem txt_len {ts : Row} : (txt ts).length ≤ 3 * ts.length := by
  unfold txt
  induction ts with
  | nil => exact Nat.le_refl _
  | cons t r ih =>
    rw [List.map_cons, List.length_cons]
    by_cases hr : r = []
    · subst hr
      show (tw t).length ≤ 3
      exact show 2 ≤ 3 by decide
    · rw [joinL_cons (by simpa using hr), List.length_append, List.length_append]
      have : (tw t).length = 2 := rfl
      have : [32].length = 1 := rfl
      omega
def spAllRight : VSp := fun vs Q _ => ∃ c : Nat, vs = [.int (c : Int)] ∧ c < 4 ∧ Q (.val (.bl true)) []
theorem sc__law_all_right : FnScope ["_law_count", "_law_due", "_law_turn", "_law_told", "_law_at", "_law_word", "_law_terms"] ["_law_count"] (defScope s__law_all_right) := ⟨rfl, rfl, rfl, by decide +kernel, rfl, by decide +kernel, by decide +kernel⟩
theorem ok__law_all_right (T : Txt K mg D) : FnOk P w K mg base CX0 7 D.a__law_all_right D.d__law_all_right ["_law_count"] (vsp K [false] spAllRight) := by
  have G__law_reading := ok__law_reading (P := P) (w := w) (base := base) T
  have G_Rule___str__ := ok_Rule___str__ (P := P) (w := w) (base := base) T
  have G__law_is_rule := ok__law_is_rule (P := P) (w := w) (base := base) T
  have G_all_rules := ok_all_rules (P := P) (w := w) (base := base) T
  have G__law_full := ok__law_full (P := P) (w := w) (base := base) T
  refine VL.okV T.F__law_all_right sc__law_all_right rfl (by decide) (fun cdv A outer s H E hr => have hu := VL.huR hr; ⟨_, (pss_cons (ps_set (i := 1) sc__law_all_right.nd rfl (Or.inl rfl) (pe_call G__law_full (hr.mono (by decide)) (by rfl) T.g__law_full T.F__law_full.kp T.b__law_full .nil pass0 (pa_cons (pv 0) pa_nil)))
      (pss_cons (ps_for PassesOwn.never rfl (pi_range1 (by rfl) T.n_range (pa_cons pe_int pa_nil)) (pg_name (i := 2) sc__law_all_right.nd rfl (Or.inl rfl))
      (pss_cons (ps_set (i := 3) sc__law_all_right.nd rfl (Or.inl rfl) (pe_call G_all_rules (hr.mono (by decide)) (by rfl) T.g_all_rules T.F_all_rules.kp T.b_all_rules .nil pass0 (pa_cons (pv 0) pa_nil)))
      (pss_cons (ps_if (PW.pt (pw_or (pt_not (pt_val (pe_callB call_isi (by rfl) T.n_isinstance (by decide +kernel) (pa_cons (pv 3) (pa_cons (pe_bltn (v := .ty "list") (u := .type "list") (by rfl) T.n_list (by decide +kernel) rfl) pa_nil))))) (pw_or1 (pt_cmpR (op_neD (VL.hu64 hu)) (pe_callB VL.call_lenU (by rfl) T.n_len (by decide +kernel) (pa_cons (pv 3) pa_nil)) (pe_callB VL.call_lenU (by rfl) T.n_len (by decide +kernel) (pa_cons (pv 1) pa_nil)) (nomark _)))))
      (pss_one (ps_ret pe_bl))
      pss_nil)
      (pss_cons (ps_for PassesOwn.never rfl (pi_range1 (by rfl) T.n_range (pa_cons (pe_callB VL.call_lenU (by rfl) T.n_len (by decide +kernel) (pa_cons (pv 1) pa_nil)) pa_nil)) (pg_name (i := 4) sc__law_all_right.nd rfl (Or.inl rfl))
      (pss_cons (ps_if (pt_not (pt_val (pe_call G__law_is_rule (hr.mono (by decide)) (by rfl) T.g__law_is_rule T.F__law_is_rule.kp T.b__law_is_rule .nil pass0 (pa_cons (pe_ix ix_seq (pv 3) (pv 4) (fun _ _ => rfl)) (pa_cons (pe_ix ix_seq (pv 1) (pv 4) (fun _ _ => rfl)) pa_nil)))))
      (pss_one (ps_ret pe_bl))
      pss_nil)
      (pss_cons (ps_asg (pe_call G__law_reading (hr.mono (by decide)) (by rfl) T.g__law_reading T.F__law_reading.kp T.b__law_reading .nil pass0 (pa_cons (pe_callTy (XR.call_str_own (T_o_Rule___str__ T) G_Rule___str__ (hr.mono (by decide)) T.b_Rule___str__ pass0) (by rfl) T.n_str (by decide +kernel) (pa_cons (pe_ix ix_seq (pv 3) (pv 4) (fun _ _ => rfl)) pa_nil)) pa_nil)) (pg_tup (by rfl) (pgs_cons (pg_name (i := 5) sc__law_all_right.nd rfl (Or.inl rfl)) (pgs_cons (pg_name (i := 6) sc__law_all_right.nd rfl (Or.inl rfl)) pgs_nil))))
      (pss_one (ps_if (PW.pt (pw_or (pt_cmpR (op_neD (VL.hu64 hu)) (pv 5) pe_str (nomark _)) (pw_or1 (pt_cmpR (op_neD (VL.hu64 hu)) (pv 6) (pe_ix ix_seq (pv 1) (pv 4) (fun _ _ => rfl)) (nomark _)))))
      (pss_one (ps_ret pe_bl))
      pss_nil)))))
      (pss_cons (ps_expr (pe_bm0 PySem.F.plainAttrs_list PySem.F.slot_list_reverse PySem.F.type_list_reverse mt_reverse (pv 3)))
      (pss_one (ps_expr (pe_bm PySem.F.plainAttrs_list PySem.F.slot_list_append PySem.F.type_list_append mt_append (pv 3) (pa_cons (pe_ix ix_seq (pv 3) pe_int (fun _ _ => rfl)) pa_nil)))))))))
      (pss_one (ps_ret pe_bl)))), ?_⟩)
  apply VL.wvI
  · intro B; walk_at "vi"
  · intro ts Qv Xv h
    obtain ⟨c, rfl, c4, k⟩ := h
    have fl : (full c).length ≤ 48 := by rw [← full_eq c c4]; exact pre_len c c4 c c4 (Nat.le_refl _)
    have f0 : 0 < (full c).length := (by decide +kernel : ∀ c, c < 4 → 0 < (full c).length) c c4
    have fo : ∀ r ∈ full c, TermsOk 4 r := fun r hr => (full_ok c4 hr).up
    walk_at "V"
    refine for_rngF (β := Unit) (fun γ _ => γ) (fun _ _ => True) (Nx.mk () (by walk_at "le") trivial) ?_ ?_
    · rintro i ⟨⟩ hi _
      walk_at "V"
      rw [List.length_map, List.length_map, decide_eq_true rfl]
      walk_at "V"
      refine for_rngF (β := Unit) (fun γ _ => γ) (fun _ _ => True) (Nx.mk () (by walk_at "le") trivial) ?_ ?_
      · rintro j ⟨⟩ hj _
        rw [List.length_map] at hj
        obtain ⟨r, hr, e1⟩ := at_map (f := tRule D) (xs := full c) (i := 0 + (j : Int)) (by omega) (by omega)
        have e2 := at_mapZ (f := tL2) (xs := full c) (i := 0 + (j : Int)) (by omega) hr
        have ok := fo r (List.mem_of_getElem? hr)
        have r4 := ok.ln
        have rt := rd_txt ok.good
        have tl := txt_len (ts := r)
        have okt : okD (tL2 r) = true := encL2.ok (by decide) r
        walk_at "V"
        refine ⟨fun e => (by rw [rt] at e; cases e), fun us n e hb => ?_, fun us e hb => ?_⟩
        · obtain rfl : r = us := by rw [rt] at e; exact Option.some.inj e
          rw [bad_ok ok] at hb
          cases hb
        · obtain rfl : r = us := by rw [rt] at e; exact Option.some.inj e
          walk_at "V"
          rw [show eqT (tL2 r) (tL2 r) = true from encL2.self r]
          walk_at "V"
          exact Nx.mk () (by walk_at "le") trivial
      · rintro ⟨⟩ _
        obtain ⟨r, hr, e1⟩ := at_map (f := tRule D) (xs := (full c).reverse) (i := 0) (by decide) (by rw [List.length_reverse]; omega)
        rw [List.map_reverse] at e1
        have l1 : (((full c).map (tRule D)).reverse).length ≤ 48 := by rw [List.length_reverse, List.length_map]; exact fl
        walk_at "V"
        exact Nx.mk () (by walk_at "le") trivial
    · rintro ⟨⟩ _
      walk_at "V"
      exact k
def bnd : Nat → Nat
  | 0 => 18
  | i + 1 => 3 * bnd i + 1
theorem bnd_le : ∀ i, i < 3 → bnd i ≤ 166 := by decide
theorem bnd_le3 : ∀ i, i < 4 → bnd i ≤ 499 := by decide
theorem sc_law : FnScope ["_law_script", "_law_words_here", "_law_text", "_law_word", "_law_due", "_law_bag", "_law_turn", "_law_changed_here", "_law_step"] ["_law_script"] (defScope s_law) := ⟨rfl, rfl, rfl, by decide +kernel, rfl, by decide +kernel, by decide +kernel⟩
theorem okv_law (T : Txt K mg D) : FnOk P w K mg base CX0 9 D.a_law D.d_law ["_law_script"] (vsp K [false] spLawV) := by
  have G__law_all_right := ok__law_all_right (P := P) (w := w) (base := base) T
  have G__law_take := ok__law_take (P := P) (w := w) (base := base) T
  have G__law_box := ok__law_box (P := P) (w := w) (base := base) T
  have G__law_read_right := ok__law_read_right (P := P) (w := w) (base := base) T
  have G__law_changed := ok__law_changed (P := P) (w := w) (base := base) T
  have G__law_reading := ok__law_reading (P := P) (w := w) (base := base) T
  have G__law_words := ok__law_words (P := P) (w := w) (base := base) T
  refine VL.okV T.F_law sc_law rfl (by decide) (fun cdv A outer s H E hr => have hu := VL.huR hr; ⟨_, (pss_cons (ps_set (i := 1) sc_law.nd rfl (Or.inl rfl) (pe_call G__law_words (hr.mono (by decide)) (by rfl) T.g__law_words T.F__law_words.kp T.b__law_words .nil pass0 (pa_cons (pe_call G__law_box (hr.mono (by decide)) (by rfl) T.g__law_box T.F__law_box.kp T.b__law_box .nil pass0 (pa_cons (pv 0) (pa_cons pe_int pa_nil))) pa_nil)))
      (pss_cons (ps_set (i := 2) sc_law.nd rfl (Or.inl rfl) (VL.pe_joinK (K := K) rfl pe_str (pv 1) rfl rfl rfl))
      (pss_cons (ps_if (pt_not (pt_val (pe_call G__law_read_right (hr.mono (by decide)) (by rfl) T.g__law_read_right T.F__law_read_right.kp T.b__law_read_right .nil pass0 (pa_cons (pv 2) pa_nil))))
      (pss_one (ps_ret pe_bl))
      pss_nil)
      (pss_cons (ps_asg (pe_call G__law_reading (hr.mono (by decide)) (by rfl) T.g__law_reading T.F__law_reading.kp T.b__law_reading .nil pass0 (pa_cons (pv 2) pa_nil)) (pg_tup (by rfl) (pgs_cons (pg_name (i := 3) sc_law.nd rfl (Or.inl rfl)) (pgs_cons (pg_name (i := 4) sc_law.nd rfl (Or.inl rfl)) pgs_nil))))
      (pss_cons (ps_if (PW.pt (pw_and (pt_cmpR (op_eqD (VL.hu64 hu)) (pv 3) pe_str (nomark _)) (pw_and1 (pt_not (pt_val (pe_call G__law_read_right (hr.mono (by decide)) (by rfl) T.g__law_read_right T.F__law_read_right.kp T.b__law_read_right .nil pass0 (pa_cons (VL.pe_joinK (K := K) rfl pe_str (pe_slice VL.sl_any (pv 1) po_none (po_some (pe_ix ix_seq (pv 4) pe_int (fun _ _ => rfl)))) rfl rfl rfl) pa_nil)))))))
      (pss_one (ps_ret pe_bl))
      pss_nil)
      (pss_cons (ps_set (i := 5) sc_law.nd rfl (Or.inl rfl) (pe_call G__law_box (hr.mono (by decide)) (by rfl) T.g__law_box T.F__law_box.kp T.b__law_box .nil pass0 (pa_cons (pv 0) (pa_cons pe_int pa_nil))))
      (pss_cons (ps_for PassesOwn.never rfl (pi_range1 (by rfl) T.n_range (pa_cons pe_int pa_nil)) (pg_name (i := 6) sc_law.nd rfl (Or.inl rfl))
      (pss_cons (ps_set (i := 7) sc_law.nd rfl (Or.inl rfl) (pv 2))
      (pss_cons (ps_for PassesOwn.never rfl (pi_range1 (by rfl) T.n_range (pa_cons (pe_ix ix_seq (pe_lst (pa_cons pe_int (pa_cons pe_int (pa_cons pe_int (pa_cons pe_int pa_nil))))) (pe_call G__law_take (hr.mono (by decide)) (by rfl) T.g__law_take T.F__law_take.kp T.b__law_take .nil pass0 (pa_cons (pv 5) (pa_cons pe_int pa_nil))) (fun _ _ => rfl)) pa_nil)) (pg_name (i := 8) sc_law.nd rfl (Or.inl rfl))
      (pss_one (ps_set (i := 7) sc_law.nd rfl (Or.inl rfl) (pe_call G__law_changed (hr.mono (by decide)) (by rfl) T.g__law_changed T.F__law_changed.kp T.b__law_changed .nil pass0 (pa_cons (pv 5) (pa_cons (pv 7) (pa_cons (pe_op VL.op_addU (pv 6) (pv 8)) pa_nil)))))))
      (pss_one (ps_if (PW.pt (pw_or (pt_not (pt_val (pe_call G__law_read_right (hr.mono (by decide)) (by rfl) T.g__law_read_right T.F__law_read_right.kp T.b__law_read_right .nil pass0 (pa_cons (pv 7) pa_nil)))) (pw_or1 (pt_not (pt_val (pe_call G__law_read_right (hr.mono (by decide)) (by rfl) T.g__law_read_right T.F__law_read_right.kp T.b__law_read_right .nil pass0 (pa_cons (pv 2) pa_nil)))))))
      (pss_one (ps_ret pe_bl))
      pss_nil)))))
      (pss_one (ps_ret (pe_call G__law_all_right (hr.mono (by decide)) (by rfl) T.g__law_all_right T.F__law_all_right.kp T.b__law_all_right .nil pass0 (pa_cons (pe_ix ix_seq (pe_lst (pa_cons pe_int (pa_cons pe_int (pa_cons pe_int (pa_cons pe_int pa_nil))))) (pe_call G__law_take (hr.mono (by decide)) (by rfl) T.g__law_take T.F__law_take.kp T.b__law_take .nil pass0 (pa_cons (pe_call G__law_box (hr.mono (by decide)) (by rfl) T.g__law_box T.F__law_box.kp T.b__law_box .nil pass0 (pa_cons (pv 0) (pa_cons pe_int pa_nil))) (pa_cons pe_int pa_nil))) (fun _ _ => rfl)) pa_nil))))))))))), ?_⟩)
  apply VL.wvI
  · intro B; walk_at "vi"
  · intro ts Qv Xv h
    obtain ⟨ns, rfl, hl, k⟩ := h
    walk_at "V"
    refine ⟨ns, 0, rfl, by decide, by decide, fun bx B => ?_⟩
    walk_at "V"
    refine ⟨bx, 279, rfl, B, by decide, fun ys bx' yl yo => ?_⟩
    walk_at "V"
    have ysum : ∀ ys : List Str, (∀ y ∈ ys, y.length = 2) → (ys.map (·.length)).sum = 2 * ys.length := fun ys yo => by
      induction ys with
      | nil => rfl
      | cons y r ih => rw [List.map_cons, List.sum_cons, yo y List.mem_cons_self, ih fun w hw => yo w (List.mem_cons_of_mem _ hw), List.length_cons]; omega
    have e1 : (PySem.Str.ofString " ").length = 1 := by decide +kernel
    have jl := join_len (PySem.Str.ofString " ") ys
    refine ⟨by rw [ysum ys yo, e1]; omega, ?_⟩
    rw [ysum ys yo, e1] at jl
    have zl : (Str.join (PySem.Str.ofString " ") ys).length ≤ 18 := by omega
    rw [← SX.S_tl (Str.join (PySem.Str.ofString " ") ys), SX.S_len] at zl
    rw [← SX.S_tl (Str.join (PySem.Str.ofString " ") ys)]
    generalize (Str.join (PySem.Str.ofString " ") ys).cps.toList = l at *
    walk_at "V"
    have l18 : (SX.S l).length ≤ 18 := by rw [SX.S_len]; exact zl
    refine ⟨fun en => ?_, fun us n en hb => ?_, fun us en hb => ?_⟩
    · walk_at "V"
      refine ⟨ns, 1, rfl, by decide, by decide, fun bx2 B2 => ?_⟩
      walk_at "V"
      refine for_rngF (β := VL.T) (fun γ s => γ.put 2 (.mu s)) (fun i s => Bx (279 + 100 * i) s) (Nx.mk _ (by walk_at "le") B2) ?_ ?_
      · rintro i b hi B
        walk_at "V"
        refine ⟨_, _, _, rfl, B, by omega, by decide, by decide, fun st b1 s0 s1 B1 => ?_⟩
        refine isS_lit (l := [1, 1, 2, 3]) s0 s1 fun n hn => ?_
        have n9 : 0 ≤ n ∧ n ≤ 3 := (by decide : ∀ z ∈ [1, 1, 2, (3 : Int)], 0 ≤ z ∧ z ≤ 3) n hn
        walk_at "V"
        refine for_rngF (β := VL.T × Str) (fun γ s => (γ.put 2 (.mu s.1)).set 7 (.val (.str s.2))) (fun j s => Bx (279 + 100 * i + 1 + 4 * j) s.1 ∧ s.2.length ≤ bnd j) (Nx.mk (_, _) (by walk_at "le") ⟨B1, l18⟩) ?_ ?_
        · rintro j ⟨b2, z⟩ hj ⟨B2, zl⟩
          walk_at "d"
          have zl : z.length ≤ bnd j := zl
          have bj := bnd_le j (by omega)
          walk_at "V"
          refine ⟨_, _, _, _, rfl, B2, by omega, by omega, by omega, by omega, fun y b3 yl B3 => ?_⟩
          walk_at "V"
          exact Nx.mk (_, _) (by walk_at "le") ⟨B3.mono (by omega), Nat.le_trans yl (by show _ ≤ 3 * bnd j + 1; omega)⟩
        · rintro ⟨b2, z⟩ ⟨B2, zl⟩
          walk_at "d"
          have zl : z.length ≤ bnd _ := zl
          have zl : z.length ≤ 499 := Nat.le_trans zl (bnd_le3 _ (by omega))
          rw [← SX.S_tl z, SX.S_len] at zl
          rw [← SX.S_tl z]
          generalize z.cps.toList = lz at *
          walk_at "V"
          try refine ⟨lz, rfl, by omega, ?_⟩
          walk_at "V"
          try refine ⟨l, rfl, by omega, ?_⟩
          walk_at "V"
          exact Nx.mk _ (by walk_at "le") (B2.mono (by omega))
      · rintro b B
        walk_at "V"
        refine ⟨ns, 2, rfl, by decide, by decide, fun bx3 B3 => ?_⟩
        walk_at "V"
        refine ⟨_, _, _, rfl, B3, by decide, by decide, by decide, fun st b1 s0 s1 B1 => ?_⟩
        refine isS_lit (l := [2, 3, 1, 0]) s0 s1 fun n hn => ?_
        have n9 : 0 ≤ n ∧ n < 4 := (by decide : ∀ z ∈ [2, 3, 1, (0 : Int)], 0 ≤ z ∧ z < 4) n hn
        obtain ⟨c, rfl⟩ := Int.eq_ofNat_of_zero_le n9.1
        walk_at "V"
        exact k
    · walk_at "V"
      rw [cutT_loM VL.T.str ys (by omega)]
      obtain ⟨us2, hu2⟩ : ∃ us2, us2 = ys.take (n : Int).toNat := ⟨_, rfl⟩
      have tl : us2.length ≤ ys.length := by rw [hu2, List.length_take]; omega
      have to : ∀ y ∈ us2, y.length = 2 := fun y hy => yo y (List.mem_of_mem_take (hu2 ▸ hy))
      rw [← hu2]
      clear hu2
      have jl2 := join_len (PySem.Str.ofString " ") us2
      rw [ysum us2 to, e1] at jl2
      have zl2 : (Str.join (PySem.Str.ofString " ") us2).length ≤ 18 := by omega
      rw [← SX.S_tl (Str.join (PySem.Str.ofString " ") us2), SX.S_len] at zl2
      refine ⟨us2, rfl, by rw [ysum us2 to, e1]; omega, ?_⟩
      rw [← SX.S_tl (Str.join (PySem.Str.ofString " ") us2)]
      generalize (Str.join (PySem.Str.ofString " ") us2).cps.toList = l2 at *
      walk_at "V"
      try refine ⟨l2, rfl, by omega, ?_⟩
      walk_at "V"
      refine ⟨ns, 1, rfl, by decide, by decide, fun bx2 B2 => ?_⟩
      walk_at "V"
      refine for_rngF (β := VL.T) (fun γ s => γ.put 3 (.mu s)) (fun i s => Bx (279 + 100 * i) s) (Nx.mk _ (by walk_at "le") B2) ?_ ?_
      · rintro i b hi B
        walk_at "V"
        refine ⟨_, _, _, rfl, B, by omega, by decide, by decide, fun st b1 s0 s1 B1 => ?_⟩
        refine isS_lit (l := [1, 1, 2, 3]) s0 s1 fun n hn => ?_
        have n9 : 0 ≤ n ∧ n ≤ 3 := (by decide : ∀ z ∈ [1, 1, 2, (3 : Int)], 0 ≤ z ∧ z ≤ 3) n hn
        walk_at "V"
        refine for_rngF (β := VL.T × Str) (fun γ s => (γ.put 3 (.mu s.1)).set 7 (.val (.str s.2))) (fun j s => Bx (279 + 100 * i + 1 + 4 * j) s.1 ∧ s.2.length ≤ bnd j) (Nx.mk (_, _) (by walk_at "le") ⟨B1, l18⟩) ?_ ?_
        · rintro j ⟨b2, z⟩ hj ⟨B2, zl⟩
          walk_at "d"
          have zl : z.length ≤ bnd j := zl
          have bj := bnd_le j (by omega)
          walk_at "V"
          refine ⟨_, _, _, _, rfl, B2, by omega, by omega, by omega, by omega, fun y b3 yl B3 => ?_⟩
          walk_at "V"
          exact Nx.mk (_, _) (by walk_at "le") ⟨B3.mono (by omega), Nat.le_trans yl (by show _ ≤ 3 * bnd j + 1; omega)⟩
        · rintro ⟨b2, z⟩ ⟨B2, zl⟩
          walk_at "d"
          have zl : z.length ≤ bnd _ := zl
          have zl : z.length ≤ 499 := Nat.le_trans zl (bnd_le3 _ (by omega))
          rw [← SX.S_tl z, SX.S_len] at zl
          rw [← SX.S_tl z]
          generalize z.cps.toList = lz at *
          walk_at "V"
          try refine ⟨lz, rfl, by omega, ?_⟩
          walk_at "V"
          try refine ⟨l, rfl, by omega, ?_⟩
          walk_at "V"
          exact Nx.mk _ (by walk_at "le") (B2.mono (by omega))
      · rintro b B
        walk_at "V"
        refine ⟨ns, 2, rfl, by decide, by decide, fun bx3 B3 => ?_⟩
        walk_at "V"
        refine ⟨_, _, _, rfl, B3, by decide, by decide, by decide, fun st b1 s0 s1 B1 => ?_⟩
        refine isS_lit (l := [2, 3, 1, 0]) s0 s1 fun n hn => ?_
        have n9 : 0 ≤ n ∧ n < 4 := (by decide : ∀ z ∈ [2, 3, 1, (0 : Int)], 0 ≤ z ∧ z < 4) n hn
        obtain ⟨c, rfl⟩ := Int.eq_ofNat_of_zero_le n9.1
        walk_at "V"
        exact k
    · walk_at "V"
      refine ⟨ns, 1, rfl, by decide, by decide, fun bx2 B2 => ?_⟩
      walk_at "V"
      refine for_rngF (β := VL.T) (fun γ s => γ.put 2 (.mu s)) (fun i s => Bx (279 + 100 * i) s) (Nx.mk _ (by walk_at "le") B2) ?_ ?_
      · rintro i b hi B
        walk_at "V"
        refine ⟨_, _, _, rfl, B, by omega, by decide, by decide, fun st b1 s0 s1 B1 => ?_⟩
        refine isS_lit (l := [1, 1, 2, 3]) s0 s1 fun n hn => ?_
        have n9 : 0 ≤ n ∧ n ≤ 3 := (by decide : ∀ z ∈ [1, 1, 2, (3 : Int)], 0 ≤ z ∧ z ≤ 3) n hn
        walk_at "V"
        refine for_rngF (β := VL.T × Str) (fun γ s => (γ.put 2 (.mu s.1)).set 7 (.val (.str s.2))) (fun j s => Bx (279 + 100 * i + 1 + 4 * j) s.1 ∧ s.2.length ≤ bnd j) (Nx.mk (_, _) (by walk_at "le") ⟨B1, l18⟩) ?_ ?_
        · rintro j ⟨b2, z⟩ hj ⟨B2, zl⟩
          walk_at "d"
          have zl : z.length ≤ bnd j := zl
          have bj := bnd_le j (by omega)
          walk_at "V"
          refine ⟨_, _, _, _, rfl, B2, by omega, by omega, by omega, by omega, fun y b3 yl B3 => ?_⟩
          walk_at "V"
          exact Nx.mk (_, _) (by walk_at "le") ⟨B3.mono (by omega), Nat.le_trans yl (by show _ ≤ 3 * bnd j + 1; omega)⟩
        · rintro ⟨b2, z⟩ ⟨B2, zl⟩
          walk_at "d"
          have zl : z.length ≤ bnd _ := zl
          have zl : z.length ≤ 499 := Nat.le_trans zl (bnd_le3 _ (by omega))
          rw [← SX.S_tl z, SX.S_len] at zl
          rw [← SX.S_tl z]
          generalize z.cps.toList = lz at *
          walk_at "V"
          try refine ⟨lz, rfl, by omega, ?_⟩
          walk_at "V"
          try refine ⟨l, rfl, by omega, ?_⟩
          walk_at "V"
          exact Nx.mk _ (by walk_at "le") (B2.mono (by omega))
      · rintro b B
        walk_at "V"
        refine ⟨ns, 2, rfl, by decide, by decide, fun bx3 B3 => ?_⟩
        walk_at "V"
        refine ⟨_, _, _, rfl, B3, by decide, by decide, by decide, fun st b1 s0 s1 B1 => ?_⟩
        refine isS_lit (l := [2, 3, 1, 0]) s0 s1 fun n hn => ?_
        have n9 : 0 ≤ n ∧ n < 4 := (by decide : ∀ z ∈ [2, 3, 1, (0 : Int)], 0 ≤ z ∧ z < 4) n hn
        obtain ⟨c, rfl⟩ := Int.eq_ofNat_of_zero_le n9.1
        walk_at "V"
        exact k
theorem ok_law (T : Txt K mg D) : FnOk P w K mg base CX0 9 D.a_law D.d_law ["_law_script"] (spLaw K) := VL.okLaw (okv_law T)
end
end Toy
set_option Elab.async false
set_option linter.all false
set_option maxRecDepth 100000
set_option maxHeartbeats 4000000
set_option synthInstance.maxSize 1000000
set_option synthInstance.maxHeartbeats 4000000
namespace Toy
open PySem L2 XR VL
section
theorem all_mk {l : PySem.W.OpenLaw} {w : World} {K : PySem.W.Frag} {h : Heap} {mg : Str → Option Value} {fa : Addr} (X : K.In h) (G : h.Ns mainGlobals mg) (hfa : mg "law" = some (.ref fa))
    {x_InvalidText_init x_InvalidRule_init x_is_term x_all_terms x__read_term x_Rule_init x_Rule___eq__ x_Rule___str__ x_Rule_read x_all_rules x__law_box x__law_take x__law_integer x__law_sign x__law_words x__law_changed x__law_reading x__law_is_rule x__law_read_right x__law_full x__law_all_right x_law x_ArchiveError x_UnknownError x_TextError x_ImpossibleError x_InvalidText x_InvalidRule x_Rule q_Rule_read : Addr}
    {od_InvalidText_init an_InvalidText_init : Option Addr} {sl_InvalidText_init : Array (Option Value)} {oc_InvalidText_init kV_InvalidText_init dc_InvalidText_init pm_InvalidText_init cd_InvalidText_init ct_InvalidText_init : Value}
    {od_InvalidRule_init an_InvalidRule_init : Option Addr} {sl_InvalidRule_init : Array (Option Value)} {oc_InvalidRule_init kV_InvalidRule_init dc_InvalidRule_init pm_InvalidRule_init cd_InvalidRule_init ct_InvalidRule_init : Value}
    {od_is_term an_is_term : Option Addr} {sl_is_term : Array (Option Value)} {oc_is_term kV_is_term dc_is_term pm_is_term cd_is_term ct_is_term : Value}
    {od_all_terms an_all_terms : Option Addr} {sl_all_terms : Array (Option Value)} {oc_all_terms kV_all_terms dc_all_terms pm_all_terms cd_all_terms ct_all_terms : Value}
    {od__read_term an__read_term : Option Addr} {sl__read_term : Array (Option Value)} {oc__read_term kV__read_term dc__read_term pm__read_term cd__read_term ct__read_term : Value}
    {od_Rule_init an_Rule_init : Option Addr} {sl_Rule_init : Array (Option Value)} {oc_Rule_init kV_Rule_init dc_Rule_init pm_Rule_init cd_Rule_init ct_Rule_init : Value}
    {od_Rule___eq__ an_Rule___eq__ : Option Addr} {sl_Rule___eq__ : Array (Option Value)} {oc_Rule___eq__ kV_Rule___eq__ dc_Rule___eq__ pm_Rule___eq__ cd_Rule___eq__ ct_Rule___eq__ : Value}
    {od_Rule___str__ an_Rule___str__ : Option Addr} {sl_Rule___str__ : Array (Option Value)} {oc_Rule___str__ kV_Rule___str__ dc_Rule___str__ pm_Rule___str__ cd_Rule___str__ ct_Rule___str__ : Value}
    {od_Rule_read an_Rule_read : Option Addr} {sl_Rule_read : Array (Option Value)} {oc_Rule_read kV_Rule_read dc_Rule_read pm_Rule_read cd_Rule_read ct_Rule_read : Value}
    {rest_Rule_read : List Value}
    {od_all_rules an_all_rules : Option Addr} {sl_all_rules : Array (Option Value)} {oc_all_rules kV_all_rules dc_all_rules pm_all_rules cd_all_rules ct_all_rules : Value}
    {od__law_box an__law_box : Option Addr} {sl__law_box : Array (Option Value)} {oc__law_box kV__law_box dc__law_box pm__law_box cd__law_box ct__law_box : Value}
    {od__law_take an__law_take : Option Addr} {sl__law_take : Array (Option Value)} {oc__law_take kV__law_take dc__law_take pm__law_take cd__law_take ct__law_take : Value}
    {od__law_integer an__law_integer : Option Addr} {sl__law_integer : Array (Option Value)} {oc__law_integer kV__law_integer dc__law_integer pm__law_integer cd__law_integer ct__law_integer : Value}
    {od__law_sign an__law_sign : Option Addr} {sl__law_sign : Array (Option Value)} {oc__law_sign kV__law_sign dc__law_sign pm__law_sign cd__law_sign ct__law_sign : Value}
    {od__law_words an__law_words : Option Addr} {sl__law_words : Array (Option Value)} {oc__law_words kV__law_words dc__law_words pm__law_words cd__law_words ct__law_words : Value}
    {od__law_changed an__law_changed : Option Addr} {sl__law_changed : Array (Option Value)} {oc__law_changed kV__law_changed dc__law_changed pm__law_changed cd__law_changed ct__law_changed : Value}
    {od__law_reading an__law_reading : Option Addr} {sl__law_reading : Array (Option Value)} {oc__law_reading kV__law_reading dc__law_reading pm__law_reading cd__law_reading ct__law_reading : Value}
    {od__law_is_rule an__law_is_rule : Option Addr} {sl__law_is_rule : Array (Option Value)} {oc__law_is_rule kV__law_is_rule dc__law_is_rule pm__law_is_rule cd__law_is_rule ct__law_is_rule : Value}
    {od__law_read_right an__law_read_right : Option Addr} {sl__law_read_right : Array (Option Value)} {oc__law_read_right kV__law_read_right dc__law_read_right pm__law_read_right cd__law_read_right ct__law_read_right : Value}
    {od__law_full an__law_full : Option Addr} {sl__law_full : Array (Option Value)} {oc__law_full kV__law_full dc__law_full pm__law_full cd__law_full ct__law_full : Value}
    {od__law_all_right an__law_all_right : Option Addr} {sl__law_all_right : Array (Option Value)} {oc__law_all_right kV__law_all_right dc__law_all_right pm__law_all_right cd__law_all_right ct__law_all_right : Value}
    {od_law an_law : Option Addr} {sl_law : Array (Option Value)} {oc_law kV_law dc_law pm_law cd_law ct_law : Value}
    {tk_MOST_MARKS : Tok}
    {nm_InvalidRule q_InvalidRule : Str} {N_InvalidRule : Addr} {bs_InvalidRule bm_InvalidRule : List Value} {sn_InvalidRule : List Str} {sub_InvalidRule : List Value} {ab_InvalidRule : Bool} {col_InvalidRule : Option Bool} {dd_InvalidRule : Option Addr} {m0_InvalidRule m1_InvalidRule m2_InvalidRule m3_InvalidRule m5_InvalidRule : Option Value}
    {nm_InvalidText q_InvalidText : Str} {N_InvalidText : Addr} {bs_InvalidText bm_InvalidText : List Value} {sn_InvalidText : List Str} {sub_InvalidText : List Value} {ab_InvalidText : Bool} {col_InvalidText : Option Bool} {dd_InvalidText : Option Addr} {m0_InvalidText m1_InvalidText m2_InvalidText m3_InvalidText m5_InvalidText : Option Value}
    (hC_ArchiveError : PySem.W.nsIn K mainGlobals "ArchiveError" = some (some (.ref x_ArchiveError)))
    (hK_ArchiveError : PySem.W.keepIn K (.ref x_ArchiveError) = true)
    (hC_UnknownError : PySem.W.nsIn K mainGlobals "UnknownError" = some (some (.ref x_UnknownError)))
    (hK_UnknownError : PySem.W.keepIn K (.ref x_UnknownError) = true)
    (hC_TextError : PySem.W.nsIn K mainGlobals "TextError" = some (some (.ref x_TextError)))
    (hK_TextError : PySem.W.keepIn K (.ref x_TextError) = true)
    (hC_ImpossibleError : PySem.W.nsIn K mainGlobals "ImpossibleError" = some (some (.ref x_ImpossibleError)))
    (hK_ImpossibleError : PySem.W.keepIn K (.ref x_ImpossibleError) = true)
    (hC_InvalidText : PySem.W.nsIn K mainGlobals "InvalidText" = some (some (.ref x_InvalidText)))
    (hK_InvalidText : PySem.W.keepIn K (.ref x_InvalidText) = true)
    (hC_InvalidRule : PySem.W.nsIn K mainGlobals "InvalidRule" = some (some (.ref x_InvalidRule)))
    (hK_InvalidRule : PySem.W.keepIn K (.ref x_InvalidRule) = true)
    (hC_Rule : PySem.W.nsIn K mainGlobals "Rule" = some (some (.ref x_Rule)))
    (hK_Rule : PySem.W.keepIn K (.ref x_Rule) = true)
    (ha_InvalidText_init : PySem.W.findIn K (.ref x_InvalidText) "__init__" = some (some (.ref x_InvalidText_init)))
    (hi_InvalidText_init : PySem.W.isFn K (.ref x_InvalidText_init) = true)
    (hl_InvalidText_init : K.lookup x_InvalidText_init = some ⟨oc_InvalidText_init, od_InvalidText_init, .func (PySem.W.fnOf "__init__" "InvalidText.__init__" (defArgs s_InvalidText_init) (defBody s_InvalidText_init) (defScope s_InvalidText_init) .none kV_InvalidText_init dc_InvalidText_init pm_InvalidText_init an_InvalidText_init cd_InvalidText_init ct_InvalidText_init), sl_InvalidText_init⟩)
    (hc_InvalidText_init : PySem.W.codeIn K cd_InvalidText_init "InvalidText.__init__" = true)
    (hk_InvalidText_init : PySem.W.keepIn K (.ref x_InvalidText_init) = true)
    (ha_InvalidRule_init : PySem.W.findIn K (.ref x_InvalidRule) "__init__" = some (some (.ref x_InvalidRule_init)))
    (hi_InvalidRule_init : PySem.W.isFn K (.ref x_InvalidRule_init) = true)
    (hl_InvalidRule_init : K.lookup x_InvalidRule_init = some ⟨oc_InvalidRule_init, od_InvalidRule_init, .func (PySem.W.fnOf "__init__" "InvalidRule.__init__" (defArgs s_InvalidRule_init) (defBody s_InvalidRule_init) (defScope s_InvalidRule_init) .none kV_InvalidRule_init dc_InvalidRule_init pm_InvalidRule_init an_InvalidRule_init cd_InvalidRule_init ct_InvalidRule_init), sl_InvalidRule_init⟩)
    (hc_InvalidRule_init : PySem.W.codeIn K cd_InvalidRule_init "InvalidRule.__init__" = true)
    (hk_InvalidRule_init : PySem.W.keepIn K (.ref x_InvalidRule_init) = true)
    (ha_is_term : PySem.W.nsIn K mainGlobals "is_term" = some (some (.ref x_is_term)))
    (hl_is_term : K.lookup x_is_term = some ⟨oc_is_term, od_is_term, .func (PySem.W.fnOf "is_term" "is_term" (defArgs s_is_term) (defBody s_is_term) (defScope s_is_term) .none kV_is_term dc_is_term pm_is_term an_is_term cd_is_term ct_is_term), sl_is_term⟩)
    (hc_is_term : PySem.W.codeIn K cd_is_term "is_term" = true)
    (hk_is_term : PySem.W.keepIn K (.ref x_is_term) = true)
    (ha_all_terms : PySem.W.nsIn K mainGlobals "all_terms" = some (some (.ref x_all_terms)))
    (hl_all_terms : K.lookup x_all_terms = some ⟨oc_all_terms, od_all_terms, .func (PySem.W.fnOf "all_terms" "all_terms" (defArgs s_all_terms) (defBody s_all_terms) (defScope s_all_terms) .none kV_all_terms dc_all_terms pm_all_terms an_all_terms cd_all_terms ct_all_terms), sl_all_terms⟩)
    (hc_all_terms : PySem.W.codeIn K cd_all_terms "all_terms" = true)
    (hk_all_terms : PySem.W.keepIn K (.ref x_all_terms) = true)
    (ha__read_term : PySem.W.nsIn K mainGlobals "_read_term" = some (some (.ref x__read_term)))
    (hl__read_term : K.lookup x__read_term = some ⟨oc__read_term, od__read_term, .func (PySem.W.fnOf "_read_term" "_read_term" (defArgs s__read_term) (defBody s__read_term) (defScope s__read_term) .none kV__read_term dc__read_term pm__read_term an__read_term cd__read_term ct__read_term), sl__read_term⟩)
    (hc__read_term : PySem.W.codeIn K cd__read_term "_read_term" = true)
    (hk__read_term : PySem.W.keepIn K (.ref x__read_term) = true)
    (ha_Rule_init : PySem.W.findIn K (.ref x_Rule) "__init__" = some (some (.ref x_Rule_init)))
    (hi_Rule_init : PySem.W.isFn K (.ref x_Rule_init) = true)
    (hl_Rule_init : K.lookup x_Rule_init = some ⟨oc_Rule_init, od_Rule_init, .func (PySem.W.fnOf "__init__" "Rule.__init__" (defArgs s_Rule_init) (defBody s_Rule_init) (defScope s_Rule_init) .none kV_Rule_init dc_Rule_init pm_Rule_init an_Rule_init cd_Rule_init ct_Rule_init), sl_Rule_init⟩)
    (hc_Rule_init : PySem.W.codeIn K cd_Rule_init "Rule.__init__" = true)
    (hk_Rule_init : PySem.W.keepIn K (.ref x_Rule_init) = true)
    (ha_Rule___eq__ : PySem.W.findIn K (.ref x_Rule) "__eq__" = some (some (.ref x_Rule___eq__)))
    (hi_Rule___eq__ : PySem.W.isFn K (.ref x_Rule___eq__) = true)
    (hl_Rule___eq__ : K.lookup x_Rule___eq__ = some ⟨oc_Rule___eq__, od_Rule___eq__, .func (PySem.W.fnOf "__eq__" "Rule.__eq__" (defArgs s_Rule___eq__) (defBody s_Rule___eq__) (defScope s_Rule___eq__) .none kV_Rule___eq__ dc_Rule___eq__ pm_Rule___eq__ an_Rule___eq__ cd_Rule___eq__ ct_Rule___eq__), sl_Rule___eq__⟩)
    (hc_Rule___eq__ : PySem.W.codeIn K cd_Rule___eq__ "Rule.__eq__" = true)
    (hk_Rule___eq__ : PySem.W.keepIn K (.ref x_Rule___eq__) = true)
    (ha_Rule___str__ : PySem.W.findIn K (.ref x_Rule) "__str__" = some (some (.ref x_Rule___str__)))
    (hi_Rule___str__ : PySem.W.isFn K (.ref x_Rule___str__) = true)
    (hl_Rule___str__ : K.lookup x_Rule___str__ = some ⟨oc_Rule___str__, od_Rule___str__, .func (PySem.W.fnOf "__str__" "Rule.__str__" (defArgs s_Rule___str__) (defBody s_Rule___str__) (defScope s_Rule___str__) .none kV_Rule___str__ dc_Rule___str__ pm_Rule___str__ an_Rule___str__ cd_Rule___str__ ct_Rule___str__), sl_Rule___str__⟩)
    (hc_Rule___str__ : PySem.W.codeIn K cd_Rule___str__ "Rule.__str__" = true)
    (hk_Rule___str__ : PySem.W.keepIn K (.ref x_Rule___str__) = true)
    (ha_Rule_read : PySem.W.findCls K (.ref x_Rule) (.type "type") "read" = some (.get (.builtin "classmethod.__get__") (.ref q_Rule_read) .none (.ref x_Rule)))
    (hr_Rule_read : PySem.W.recIn K q_Rule_read "classmethod" = some (.ref x_Rule_read :: rest_Rule_read))
    (hl_Rule_read : K.lookup x_Rule_read = some ⟨oc_Rule_read, od_Rule_read, .func (PySem.W.fnOf "read" "Rule.read" (defArgs s_Rule_read) (defBody s_Rule_read) (defScope s_Rule_read) .none kV_Rule_read dc_Rule_read pm_Rule_read an_Rule_read cd_Rule_read ct_Rule_read), sl_Rule_read⟩)
    (hc_Rule_read : PySem.W.codeIn K cd_Rule_read "Rule.read" = true)
    (hk_Rule_read : PySem.W.keepIn K (.ref x_Rule_read) = true)
    (ha_all_rules : PySem.W.nsIn K mainGlobals "all_rules" = some (some (.ref x_all_rules)))
    (hl_all_rules : K.lookup x_all_rules = some ⟨oc_all_rules, od_all_rules, .func (PySem.W.fnOf "all_rules" "all_rules" (defArgs s_all_rules) (defBody s_all_rules) (defScope s_all_rules) .none kV_all_rules dc_all_rules pm_all_rules an_all_rules cd_all_rules ct_all_rules), sl_all_rules⟩)
    (hc_all_rules : PySem.W.codeIn K cd_all_rules "all_rules" = true)
    (hk_all_rules : PySem.W.keepIn K (.ref x_all_rules) = true)
    (ha__law_box : PySem.W.nsIn K mainGlobals "_law_box" = some (some (.ref x__law_box)))
    (hl__law_box : K.lookup x__law_box = some ⟨oc__law_box, od__law_box, .func (PySem.W.fnOf "_law_box" "_law_box" (defArgs s__law_box) (defBody s__law_box) (defScope s__law_box) .none kV__law_box dc__law_box pm__law_box an__law_box cd__law_box ct__law_box), sl__law_box⟩)
    (hc__law_box : PySem.W.codeIn K cd__law_box "_law_box" = true)
    (hk__law_box : PySem.W.keepIn K (.ref x__law_box) = true)
    (ha__law_take : PySem.W.nsIn K mainGlobals "_law_take" = some (some (.ref x__law_take)))
    (hl__law_take : K.lookup x__law_take = some ⟨oc__law_take, od__law_take, .func (PySem.W.fnOf "_law_take" "_law_take" (defArgs s__law_take) (defBody s__law_take) (defScope s__law_take) .none kV__law_take dc__law_take pm__law_take an__law_take cd__law_take ct__law_take), sl__law_take⟩)
    (hc__law_take : PySem.W.codeIn K cd__law_take "_law_take" = true)
    (hk__law_take : PySem.W.keepIn K (.ref x__law_take) = true)
    (ha__law_integer : PySem.W.nsIn K mainGlobals "_law_integer" = some (some (.ref x__law_integer)))
    (hl__law_integer : K.lookup x__law_integer = some ⟨oc__law_integer, od__law_integer, .func (PySem.W.fnOf "_law_integer" "_law_integer" (defArgs s__law_integer) (defBody s__law_integer) (defScope s__law_integer) .none kV__law_integer dc__law_integer pm__law_integer an__law_integer cd__law_integer ct__law_integer), sl__law_integer⟩)
    (hc__law_integer : PySem.W.codeIn K cd__law_integer "_law_integer" = true)
    (hk__law_integer : PySem.W.keepIn K (.ref x__law_integer) = true)
    (ha__law_sign : PySem.W.nsIn K mainGlobals "_law_sign" = some (some (.ref x__law_sign)))
    (hl__law_sign : K.lookup x__law_sign = some ⟨oc__law_sign, od__law_sign, .func (PySem.W.fnOf "_law_sign" "_law_sign" (defArgs s__law_sign) (defBody s__law_sign) (defScope s__law_sign) .none kV__law_sign dc__law_sign pm__law_sign an__law_sign cd__law_sign ct__law_sign), sl__law_sign⟩)
    (hc__law_sign : PySem.W.codeIn K cd__law_sign "_law_sign" = true)
    (hk__law_sign : PySem.W.keepIn K (.ref x__law_sign) = true)
    (ha__law_words : PySem.W.nsIn K mainGlobals "_law_words" = some (some (.ref x__law_words)))
    (hl__law_words : K.lookup x__law_words = some ⟨oc__law_words, od__law_words, .func (PySem.W.fnOf "_law_words" "_law_words" (defArgs s__law_words) (defBody s__law_words) (defScope s__law_words) .none kV__law_words dc__law_words pm__law_words an__law_words cd__law_words ct__law_words), sl__law_words⟩)
    (hc__law_words : PySem.W.codeIn K cd__law_words "_law_words" = true)
    (hk__law_words : PySem.W.keepIn K (.ref x__law_words) = true)
    (ha__law_changed : PySem.W.nsIn K mainGlobals "_law_changed" = some (some (.ref x__law_changed)))
    (hl__law_changed : K.lookup x__law_changed = some ⟨oc__law_changed, od__law_changed, .func (PySem.W.fnOf "_law_changed" "_law_changed" (defArgs s__law_changed) (defBody s__law_changed) (defScope s__law_changed) .none kV__law_changed dc__law_changed pm__law_changed an__law_changed cd__law_changed ct__law_changed), sl__law_changed⟩)
    (hc__law_changed : PySem.W.codeIn K cd__law_changed "_law_changed" = true)
    (hk__law_changed : PySem.W.keepIn K (.ref x__law_changed) = true)
    (ha__law_reading : PySem.W.nsIn K mainGlobals "_law_reading" = some (some (.ref x__law_reading)))
    (hl__law_reading : K.lookup x__law_reading = some ⟨oc__law_reading, od__law_reading, .func (PySem.W.fnOf "_law_reading" "_law_reading" (defArgs s__law_reading) (defBody s__law_reading) (defScope s__law_reading) .none kV__law_reading dc__law_reading pm__law_reading an__law_reading cd__law_reading ct__law_reading), sl__law_reading⟩)
    (hc__law_reading : PySem.W.codeIn K cd__law_reading "_law_reading" = true)
    (hk__law_reading : PySem.W.keepIn K (.ref x__law_reading) = true)
    (ha__law_is_rule : PySem.W.nsIn K mainGlobals "_law_is_rule" = some (some (.ref x__law_is_rule)))
    (hl__law_is_rule : K.lookup x__law_is_rule = some ⟨oc__law_is_rule, od__law_is_rule, .func (PySem.W.fnOf "_law_is_rule" "_law_is_rule" (defArgs s__law_is_rule) (defBody s__law_is_rule) (defScope s__law_is_rule) .none kV__law_is_rule dc__law_is_rule pm__law_is_rule an__law_is_rule cd__law_is_rule ct__law_is_rule), sl__law_is_rule⟩)
    (hc__law_is_rule : PySem.W.codeIn K cd__law_is_rule "_law_is_rule" = true)
    (hk__law_is_rule : PySem.W.keepIn K (.ref x__law_is_rule) = true)
    (ha__law_read_right : PySem.W.nsIn K mainGlobals "_law_read_right" = some (some (.ref x__law_read_right)))
    (hl__law_read_right : K.lookup x__law_read_right = some ⟨oc__law_read_right, od__law_read_right, .func (PySem.W.fnOf "_law_read_right" "_law_read_right" (defArgs s__law_read_right) (defBody s__law_read_right) (defScope s__law_read_right) .none kV__law_read_right dc__law_read_right pm__law_read_right an__law_read_right cd__law_read_right ct__law_read_right), sl__law_read_right⟩)
    (hc__law_read_right : PySem.W.codeIn K cd__law_read_right "_law_read_right" = true)
    (hk__law_read_right : PySem.W.keepIn K (.ref x__law_read_right) = true)
    (ha__law_full : PySem.W.nsIn K mainGlobals "_law_full" = some (some (.ref x__law_full)))
    (hl__law_full : K.lookup x__law_full = some ⟨oc__law_full, od__law_full, .func (PySem.W.fnOf "_law_full" "_law_full" (defArgs s__law_full) (defBody s__law_full) (defScope s__law_full) .none kV__law_full dc__law_full pm__law_full an__law_full cd__law_full ct__law_full), sl__law_full⟩)
    (hc__law_full : PySem.W.codeIn K cd__law_full "_law_full" = true)
    (hk__law_full : PySem.W.keepIn K (.ref x__law_full) = true)
    (ha__law_all_right : PySem.W.nsIn K mainGlobals "_law_all_right" = some (some (.ref x__law_all_right)))
    (hl__law_all_right : K.lookup x__law_all_right = some ⟨oc__law_all_right, od__law_all_right, .func (PySem.W.fnOf "_law_all_right" "_law_all_right" (defArgs s__law_all_right) (defBody s__law_all_right) (defScope s__law_all_right) .none kV__law_all_right dc__law_all_right pm__law_all_right an__law_all_right cd__law_all_right ct__law_all_right), sl__law_all_right⟩)
    (hc__law_all_right : PySem.W.codeIn K cd__law_all_right "_law_all_right" = true)
    (hk__law_all_right : PySem.W.keepIn K (.ref x__law_all_right) = true)
    (ha_law : PySem.W.nsIn K mainGlobals "law" = some (some (.ref x_law)))
    (hl_law : K.lookup x_law = some ⟨oc_law, od_law, .func (PySem.W.fnOf "law" "law" (defArgs s_law) (defBody s_law) (defScope s_law) .none kV_law dc_law pm_law an_law cd_law ct_law), sl_law⟩)
    (hc_law : PySem.W.codeIn K cd_law "law" = true)
    (hk_law : PySem.W.keepIn K (.ref x_law) = true)
    (hn_ValueError : PySem.W.nsIn K mainGlobals "ValueError" = some none)
    (hn_abs : PySem.W.nsIn K mainGlobals "abs" = some none)
    (hn_all : PySem.W.nsIn K mainGlobals "all" = some none)
    (hn_any : PySem.W.nsIn K mainGlobals "any" = some none)
    (hn_bool : PySem.W.nsIn K mainGlobals "bool" = some none)
    (hn_enumerate : PySem.W.nsIn K mainGlobals "enumerate" = some none)
    (hn_int : PySem.W.nsIn K mainGlobals "int" = some none)
    (hn_isinstance : PySem.W.nsIn K mainGlobals "isinstance" = some none)
    (hn_len : PySem.W.nsIn K mainGlobals "len" = some none)
    (hn_list : PySem.W.nsIn K mainGlobals "list" = some none)
    (hn_max : PySem.W.nsIn K mainGlobals "max" = some none)
    (hn_min : PySem.W.nsIn K mainGlobals "min" = some none)
    (hn_range : PySem.W.nsIn K mainGlobals "range" = some none)
    (hn_str : PySem.W.nsIn K mainGlobals "str" = some none)
    (hn_tuple : PySem.W.nsIn K mainGlobals "tuple" = some none)
    (hi0_MOST_MARKS : PySem.W.nsIn K mainGlobals "MOST_MARKS" = some (some (.int 4 tk_MOST_MARKS)))
    (ol_InvalidRule : K.lookup x_InvalidRule = some (excClassObj nm_InvalidRule q_InvalidRule x_InvalidRule N_InvalidRule bs_InvalidRule bm_InvalidRule true sn_InvalidRule sub_InvalidRule ab_InvalidRule col_InvalidRule dd_InvalidRule m0_InvalidRule m1_InvalidRule m2_InvalidRule m3_InvalidRule m5_InvalidRule "ValueError.__new__"))
    (or_InvalidRule : PySem.HandSPX.refsVE bm_InvalidRule = true)
    (ol_InvalidText : K.lookup x_InvalidText = some (excClassObj nm_InvalidText q_InvalidText x_InvalidText N_InvalidText bs_InvalidText bm_InvalidText true sn_InvalidText sub_InvalidText ab_InvalidText col_InvalidText dd_InvalidText m0_InvalidText m1_InvalidText m2_InvalidText m3_InvalidText m5_InvalidText "ValueError.__new__"))
    (or_InvalidText : PySem.HandSPX.refsVE bm_InvalidText = true)
    (hx_fi_Rule_read : PySem.W.fnIn K x_Rule_read = true)
    (hx_sr_Rule_read : PySem.W.readsIn K x_Rule (.type "type") = true)
    (hx_sg_Rule_read : PySem.W.specialIn K (.ref x_Rule) "__getattribute__" = some (some (.builtin "type.__getattribute__")))
    (hx_xsa_InvalidRule : PySem.W.findIn K (.ref x_InvalidRule) "__setattr__" = some (some (.builtin "object.__setattr__")))
    (hx_xga_InvalidRule : PySem.W.findIn K (.ref x_InvalidRule) "__getattribute__" = some (some (.builtin "BaseException.__getattribute__")))
    (hx_xgg_InvalidRule : PySem.W.findIn K (.ref x_InvalidRule) "__getattr__" = some none)
    (hx_xbe_InvalidRule : PySem.W.subIn K (.ref x_InvalidRule) (.type "BaseException") = some true)
    (hx_xty_InvalidRule : PySem.W.typeIn K (.ref x_InvalidRule) = some (.type "type"))
    (hx_xhd_InvalidRule : PySem.W.hasDictIn K x_InvalidRule = true)
    (hx_xca_InvalidRule : PySem.W.findIn K (.ref x_InvalidRule) "__class__" = some (some (.builtin "object.__class__")))
    (hx_xmo_InvalidRule : PySem.W.mroIn K x_InvalidRule (.type "object") = some true)
    (hx_xti_InvalidRule : PySem.W.typeIn K (.ref x_InvalidRule_init) = some (.type "function"))
    (hx_xsa_InvalidText : PySem.W.findIn K (.ref x_InvalidText) "__setattr__" = some (some (.builtin "object.__setattr__")))
    (hx_xga_InvalidText : PySem.W.findIn K (.ref x_InvalidText) "__getattribute__" = some (some (.builtin "BaseException.__getattribute__")))
    (hx_xgg_InvalidText : PySem.W.findIn K (.ref x_InvalidText) "__getattr__" = some none)
    (hx_xbe_InvalidText : PySem.W.subIn K (.ref x_InvalidText) (.type "BaseException") = some true)
    (hx_xty_InvalidText : PySem.W.typeIn K (.ref x_InvalidText) = some (.type "type"))
    (hx_xhd_InvalidText : PySem.W.hasDictIn K x_InvalidText = true)
    (hx_xca_InvalidText : PySem.W.findIn K (.ref x_InvalidText) "__class__" = some (some (.builtin "object.__class__")))
    (hx_xmo_InvalidText : PySem.W.mroIn K x_InvalidText (.type "object") = some true)
    (hx_xti_InvalidText : PySem.W.typeIn K (.ref x_InvalidText_init) = some (.type "function"))
    (hx_cn_ : PySem.W.specialIn K (.builtin "object.__class__") "__get__" = some (some (.builtin "getset_descriptor.__get__")))
    (hx_ct_ : PySem.W.takesIn K (.builtin "object.__class__") = some true)
    (hx_ymk_Rule : PySem.W.makesIn K x_Rule = true)
    (hx_ypg_Rule : PySem.W.plainGet K x_Rule Str.empty = true)
    (hx_yhd_Rule : PySem.W.hasDictIn K x_Rule = true)
    (hx_ypo_Rule : PySem.W.plainOver K x_Rule = true)
    (hx_ysa_Rule : PySem.W.findIn K (.ref x_Rule) "__setattr__" = some (some (.builtin "object.__setattr__")))
    (hx_ysf_Rule : PySem.W.selfFirst K x_Rule = true)
    (hx_yca_Rule : PySem.W.findIn K (.ref x_Rule) "__class__" = some (some (.builtin "object.__class__")))
    (hx_ymo_Rule : PySem.W.mroIn K x_Rule (.type "object") = some true)
    (hx_e_InvalidRule_at : PySem.W.findIn K (.ref x_InvalidRule) "at" = some none)
    (hx_e_InvalidText_text : PySem.W.findIn K (.ref x_InvalidText) "text" = some none)
    (hx_z_InvalidRule_ImpossibleError : PySem.W.kitOne K (.ref x_InvalidRule) (.ref x_ImpossibleError) = some false)
    (hx_z_InvalidRule_InvalidRule : PySem.W.kitOne K (.ref x_InvalidRule) (.ref x_InvalidRule) = some true)
    (hx_z_InvalidRule_TextError : PySem.W.kitOne K (.ref x_InvalidRule) (.ref x_TextError) = some false)
    (hx_z_InvalidRule_UnknownError : PySem.W.kitOne K (.ref x_InvalidRule) (.ref x_UnknownError) = some false)
    (hx_z_InvalidRule_ValueError : PySem.W.kitOne K (.ref x_InvalidRule) (.type "ValueError") = some true)
    (hx_m_InvalidRule_ArchiveError : PySem.W.exmOne K (.ref x_InvalidRule) (.ref x_ArchiveError) = some true)
    (hx_m_InvalidRule_InvalidText : PySem.W.exmOne K (.ref x_InvalidRule) (.ref x_InvalidText) = some false)
    (hx_z_InvalidText_ImpossibleError : PySem.W.kitOne K (.ref x_InvalidText) (.ref x_ImpossibleError) = some false)
    (hx_z_InvalidText_InvalidRule : PySem.W.kitOne K (.ref x_InvalidText) (.ref x_InvalidRule) = some false)
    (hx_z_InvalidText_TextError : PySem.W.kitOne K (.ref x_InvalidText) (.ref x_TextError) = some true)
    (hx_z_InvalidText_UnknownError : PySem.W.kitOne K (.ref x_InvalidText) (.ref x_UnknownError) = some false)
    (hx_z_InvalidText_ValueError : PySem.W.kitOne K (.ref x_InvalidText) (.type "ValueError") = some true)
    (hx_m_InvalidText_ArchiveError : PySem.W.exmOne K (.ref x_InvalidText) (.ref x_ArchiveError) = some true)
    (hx_m_InvalidText_InvalidText : PySem.W.exmOne K (.ref x_InvalidText) (.ref x_InvalidText) = some true)
    (hx_zo_Rule_ImpossibleError : PySem.W.kitOne K (.ref x_Rule) (.ref x_ImpossibleError) = some false)
    (hx_zo_Rule_InvalidRule : PySem.W.kitOne K (.ref x_Rule) (.ref x_InvalidRule) = some false)
    (hx_zo_Rule_Rule : PySem.W.kitOne K (.ref x_Rule) (.ref x_Rule) = some true)
    (hx_zo_Rule_TextError : PySem.W.kitOne K (.ref x_Rule) (.ref x_TextError) = some false)
    (hx_zo_Rule_UnknownError : PySem.W.kitOne K (.ref x_Rule) (.ref x_UnknownError) = some false)
    (hx_zo_Rule_ValueError : PySem.W.kitOne K (.ref x_Rule) (.type "ValueError") = some false)
    (hx_zo_Rule_bool : PySem.W.kitOne K (.ref x_Rule) (.type "bool") = some false)
    (hx_zo_Rule_int : PySem.W.kitOne K (.ref x_Rule) (.type "int") = some false)
    (hx_zo_Rule_list : PySem.W.kitOne K (.ref x_Rule) (.type "list") = some false)
    (hx_zo_Rule_str : PySem.W.kitOne K (.ref x_Rule) (.type "str") = some false)
    (hx_zo_Rule_tuple : PySem.W.kitOne K (.ref x_Rule) (.type "tuple") = some false)
    (hx_no_Rule_terms : PySem.W.findIn K (.ref x_Rule) "terms" = some none)
    (hx_ne_Rule : PySem.W.findIn K (.ref x_Rule) "__ne__" = some (some (.builtin "object.__ne__"))) :
    ∃ fd : FuncData, (∀ (s : Shared) (v : Value), BindsTo s fd ⟨[v], []⟩ [("_law_script", v)]) ∧ ∀ base : Heap, K.In base → base.Ns mainGlobals mg → FnOk l.prog w K mg base CX0 9 fa fd ["_law_script"] (spLaw K) := by
  have e := hfa.symm.trans (PySem.W.mg_of X G ha_law)
  cases e
  have F_InvalidText_init := fun_mk (st := s_InvalidText_init) hl_InvalidText_init hc_InvalidText_init hk_InvalidText_init
  have b_InvalidText_init := F_InvalidText_init.binds (ps := ["self", "text"]) fun _ _ _ _ _ _ us hl => match us, hl with | [_, _], _ => rfl
  have F_InvalidRule_init := fun_mk (st := s_InvalidRule_init) hl_InvalidRule_init hc_InvalidRule_init hk_InvalidRule_init
  have b_InvalidRule_init := F_InvalidRule_init.binds (ps := ["self", "at"]) fun _ _ _ _ _ _ us hl => match us, hl with | [_, _], _ => rfl
  have F_is_term := fun_mk (st := s_is_term) hl_is_term hc_is_term hk_is_term
  have b_is_term := F_is_term.binds (ps := ["term"]) fun _ _ _ _ _ _ us hl => match us, hl with | [_], _ => rfl
  have F_all_terms := fun_mk (st := s_all_terms) hl_all_terms hc_all_terms hk_all_terms
  have b_all_terms := F_all_terms.binds (ps := ["count"]) fun _ _ _ _ _ _ us hl => match us, hl with | [_], _ => rfl
  have F__read_term := fun_mk (st := s__read_term) hl__read_term hc__read_term hk__read_term
  have b__read_term := F__read_term.binds (ps := ["word", "text"]) fun _ _ _ _ _ _ us hl => match us, hl with | [_, _], _ => rfl
  have F_Rule_init := fun_mk (st := s_Rule_init) hl_Rule_init hc_Rule_init hk_Rule_init
  have b_Rule_init := F_Rule_init.binds (ps := ["self", "terms"]) fun _ _ _ _ _ _ us hl => match us, hl with | [_, _], _ => rfl
  have F_Rule___eq__ := fun_mk (st := s_Rule___eq__) hl_Rule___eq__ hc_Rule___eq__ hk_Rule___eq__
  have b_Rule___eq__ := F_Rule___eq__.binds (ps := ["self", "other"]) fun _ _ _ _ _ _ us hl => match us, hl with | [_, _], _ => rfl
  have F_Rule___str__ := fun_mk (st := s_Rule___str__) hl_Rule___str__ hc_Rule___str__ hk_Rule___str__
  have b_Rule___str__ := F_Rule___str__.binds (ps := ["self"]) fun _ _ _ _ _ _ us hl => match us, hl with | [_], _ => rfl
  have F_Rule_read := fun_mk (st := s_Rule_read) hl_Rule_read hc_Rule_read hk_Rule_read
  have b_Rule_read := F_Rule_read.binds (ps := ["cls", "text"]) fun _ _ _ _ _ _ us hl => match us, hl with | [_, _], _ => rfl
  have F_all_rules := fun_mk (st := s_all_rules) hl_all_rules hc_all_rules hk_all_rules
  have b_all_rules := F_all_rules.binds (ps := ["count"]) fun _ _ _ _ _ _ us hl => match us, hl with | [_], _ => rfl
  have F__law_box := fun_mk (st := s__law_box) hl__law_box hc__law_box hk__law_box
  have b__law_box := F__law_box.binds (ps := ["_law_script", "_law_place"]) fun _ _ _ _ _ _ us hl => match us, hl with | [_, _], _ => rfl
  have F__law_take := fun_mk (st := s__law_take) hl__law_take hc__law_take hk__law_take
  have b__law_take := F__law_take.binds (ps := ["_law_bag", "_law_size"]) fun _ _ _ _ _ _ us hl => match us, hl with | [_, _], _ => rfl
  have F__law_integer := fun_mk (st := s__law_integer) hl__law_integer hc__law_integer hk__law_integer
  have b__law_integer := F__law_integer.binds (ps := ["_law_told"]) fun _ _ _ _ _ _ us hl => match us, hl with | [_], _ => rfl
  have F__law_sign := fun_mk (st := s__law_sign) hl__law_sign hc__law_sign hk__law_sign
  have b__law_sign := F__law_sign.binds (ps := ["_law_bag"]) fun _ _ _ _ _ _ us hl => match us, hl with | [_], _ => rfl
  have F__law_words := fun_mk (st := s__law_words) hl__law_words hc__law_words hk__law_words
  have b__law_words := F__law_words.binds (ps := ["_law_bag"]) fun _ _ _ _ _ _ us hl => match us, hl with | [_], _ => rfl
  have F__law_changed := fun_mk (st := s__law_changed) hl__law_changed hc__law_changed hk__law_changed
  have b__law_changed := F__law_changed.binds (ps := ["_law_bag", "_law_text", "_law_turn"]) fun _ _ _ _ _ _ us hl => match us, hl with | [_, _, _], _ => rfl
  have F__law_reading := fun_mk (st := s__law_reading) hl__law_reading hc__law_reading hk__law_reading
  have b__law_reading := F__law_reading.binds (ps := ["_law_text"]) fun _ _ _ _ _ _ us hl => match us, hl with | [_], _ => rfl
  have F__law_is_rule := fun_mk (st := s__law_is_rule) hl__law_is_rule hc__law_is_rule hk__law_is_rule
  have b__law_is_rule := F__law_is_rule.binds (ps := ["_law_rule", "_law_terms"]) fun _ _ _ _ _ _ us hl => match us, hl with | [_, _], _ => rfl
  have F__law_read_right := fun_mk (st := s__law_read_right) hl__law_read_right hc__law_read_right hk__law_read_right
  have b__law_read_right := F__law_read_right.binds (ps := ["_law_text"]) fun _ _ _ _ _ _ us hl => match us, hl with | [_], _ => rfl
  have F__law_full := fun_mk (st := s__law_full) hl__law_full hc__law_full hk__law_full
  have b__law_full := F__law_full.binds (ps := ["_law_count"]) fun _ _ _ _ _ _ us hl => match us, hl with | [_], _ => rfl
  have F__law_all_right := fun_mk (st := s__law_all_right) hl__law_all_right hc__law_all_right hk__law_all_right
  have b__law_all_right := F__law_all_right.binds (ps := ["_law_count"]) fun _ _ _ _ _ _ us hl => match us, hl with | [_], _ => rfl
  have F_law := fun_mk (st := s_law) hl_law hc_law hk_law
  have b_law := F_law.binds (ps := ["_law_script"]) fun _ _ _ _ _ _ us hl => match us, hl with | [_], _ => rfl
  let D : Ad := {
    a_InvalidText_init := x_InvalidText_init, d_InvalidText_init := PySem.W.fnOf "__init__" "InvalidText.__init__" (defArgs s_InvalidText_init) (defBody s_InvalidText_init) (defScope s_InvalidText_init) .none kV_InvalidText_init dc_InvalidText_init pm_InvalidText_init an_InvalidText_init cd_InvalidText_init ct_InvalidText_init,
    a_InvalidRule_init := x_InvalidRule_init, d_InvalidRule_init := PySem.W.fnOf "__init__" "InvalidRule.__init__" (defArgs s_InvalidRule_init) (defBody s_InvalidRule_init) (defScope s_InvalidRule_init) .none kV_InvalidRule_init dc_InvalidRule_init pm_InvalidRule_init an_InvalidRule_init cd_InvalidRule_init ct_InvalidRule_init,
    a_is_term := x_is_term, d_is_term := PySem.W.fnOf "is_term" "is_term" (defArgs s_is_term) (defBody s_is_term) (defScope s_is_term) .none kV_is_term dc_is_term pm_is_term an_is_term cd_is_term ct_is_term,
    a_all_terms := x_all_terms, d_all_terms := PySem.W.fnOf "all_terms" "all_terms" (defArgs s_all_terms) (defBody s_all_terms) (defScope s_all_terms) .none kV_all_terms dc_all_terms pm_all_terms an_all_terms cd_all_terms ct_all_terms,
    a__read_term := x__read_term, d__read_term := PySem.W.fnOf "_read_term" "_read_term" (defArgs s__read_term) (defBody s__read_term) (defScope s__read_term) .none kV__read_term dc__read_term pm__read_term an__read_term cd__read_term ct__read_term,
    a_Rule_init := x_Rule_init, d_Rule_init := PySem.W.fnOf "__init__" "Rule.__init__" (defArgs s_Rule_init) (defBody s_Rule_init) (defScope s_Rule_init) .none kV_Rule_init dc_Rule_init pm_Rule_init an_Rule_init cd_Rule_init ct_Rule_init,
    a_Rule___eq__ := x_Rule___eq__, d_Rule___eq__ := PySem.W.fnOf "__eq__" "Rule.__eq__" (defArgs s_Rule___eq__) (defBody s_Rule___eq__) (defScope s_Rule___eq__) .none kV_Rule___eq__ dc_Rule___eq__ pm_Rule___eq__ an_Rule___eq__ cd_Rule___eq__ ct_Rule___eq__,
    a_Rule___str__ := x_Rule___str__, d_Rule___str__ := PySem.W.fnOf "__str__" "Rule.__str__" (defArgs s_Rule___str__) (defBody s_Rule___str__) (defScope s_Rule___str__) .none kV_Rule___str__ dc_Rule___str__ pm_Rule___str__ an_Rule___str__ cd_Rule___str__ ct_Rule___str__,
    a_Rule_read := x_Rule_read, d_Rule_read := PySem.W.fnOf "read" "Rule.read" (defArgs s_Rule_read) (defBody s_Rule_read) (defScope s_Rule_read) .none kV_Rule_read dc_Rule_read pm_Rule_read an_Rule_read cd_Rule_read ct_Rule_read,
    a_all_rules := x_all_rules, d_all_rules := PySem.W.fnOf "all_rules" "all_rules" (defArgs s_all_rules) (defBody s_all_rules) (defScope s_all_rules) .none kV_all_rules dc_all_rules pm_all_rules an_all_rules cd_all_rules ct_all_rules,
    a__law_box := x__law_box, d__law_box := PySem.W.fnOf "_law_box" "_law_box" (defArgs s__law_box) (defBody s__law_box) (defScope s__law_box) .none kV__law_box dc__law_box pm__law_box an__law_box cd__law_box ct__law_box,
    a__law_take := x__law_take, d__law_take := PySem.W.fnOf "_law_take" "_law_take" (defArgs s__law_take) (defBody s__law_take) (defScope s__law_take) .none kV__law_take dc__law_take pm__law_take an__law_take cd__law_take ct__law_take,
    a__law_integer := x__law_integer, d__law_integer := PySem.W.fnOf "_law_integer" "_law_integer" (defArgs s__law_integer) (defBody s__law_integer) (defScope s__law_integer) .none kV__law_integer dc__law_integer pm__law_integer an__law_integer cd__law_integer ct__law_integer,
    a__law_sign := x__law_sign, d__law_sign := PySem.W.fnOf "_law_sign" "_law_sign" (defArgs s__law_sign) (defBody s__law_sign) (defScope s__law_sign) .none kV__law_sign dc__law_sign pm__law_sign an__law_sign cd__law_sign ct__law_sign,
    a__law_words := x__law_words, d__law_words := PySem.W.fnOf "_law_words" "_law_words" (defArgs s__law_words) (defBody s__law_words) (defScope s__law_words) .none kV__law_words dc__law_words pm__law_words an__law_words cd__law_words ct__law_words,
    a__law_changed := x__law_changed, d__law_changed := PySem.W.fnOf "_law_changed" "_law_changed" (defArgs s__law_changed) (defBody s__law_changed) (defScope s__law_changed) .none kV__law_changed dc__law_changed pm__law_changed an__law_changed cd__law_changed ct__law_changed,
    a__law_reading := x__law_reading, d__law_reading := PySem.W.fnOf "_law_reading" "_law_reading" (defArgs s__law_reading) (defBody s__law_reading) (defScope s__law_reading) .none kV__law_reading dc__law_reading pm__law_reading an__law_reading cd__law_reading ct__law_reading,
    a__law_is_rule := x__law_is_rule, d__law_is_rule := PySem.W.fnOf "_law_is_rule" "_law_is_rule" (defArgs s__law_is_rule) (defBody s__law_is_rule) (defScope s__law_is_rule) .none kV__law_is_rule dc__law_is_rule pm__law_is_rule an__law_is_rule cd__law_is_rule ct__law_is_rule,
    a__law_read_right := x__law_read_right, d__law_read_right := PySem.W.fnOf "_law_read_right" "_law_read_right" (defArgs s__law_read_right) (defBody s__law_read_right) (defScope s__law_read_right) .none kV__law_read_right dc__law_read_right pm__law_read_right an__law_read_right cd__law_read_right ct__law_read_right,
    a__law_full := x__law_full, d__law_full := PySem.W.fnOf "_law_full" "_law_full" (defArgs s__law_full) (defBody s__law_full) (defScope s__law_full) .none kV__law_full dc__law_full pm__law_full an__law_full cd__law_full ct__law_full,
    a__law_all_right := x__law_all_right, d__law_all_right := PySem.W.fnOf "_law_all_right" "_law_all_right" (defArgs s__law_all_right) (defBody s__law_all_right) (defScope s__law_all_right) .none kV__law_all_right dc__law_all_right pm__law_all_right an__law_all_right cd__law_all_right ct__law_all_right,
    a_law := fa, d_law := PySem.W.fnOf "law" "law" (defArgs s_law) (defBody s_law) (defScope s_law) .none kV_law dc_law pm_law an_law cd_law ct_law,
    c_ArchiveError := x_ArchiveError,
    c_UnknownError := x_UnknownError,
    c_TextError := x_TextError,
    c_ImpossibleError := x_ImpossibleError,
    c_InvalidText := x_InvalidText,
    c_InvalidRule := x_InvalidRule,
    c_Rule := x_Rule,
    p_Rule_read := q_Rule_read }
  have T : Txt K mg D := { F_InvalidText_init := F_InvalidText_init, b_InvalidText_init := b_InvalidText_init, m_InvalidText_init := ha_InvalidText_init, i_InvalidText_init := hi_InvalidText_init, F_InvalidRule_init := F_InvalidRule_init, b_InvalidRule_init := b_InvalidRule_init, m_InvalidRule_init := ha_InvalidRule_init, i_InvalidRule_init := hi_InvalidRule_init, F_is_term := F_is_term, b_is_term := b_is_term, g_is_term := PySem.W.mg_of X G ha_is_term, F_all_terms := F_all_terms, b_all_terms := b_all_terms, g_all_terms := PySem.W.mg_of X G ha_all_terms, F__read_term := F__read_term, b__read_term := b__read_term, g__read_term := PySem.W.mg_of X G ha__read_term, F_Rule_init := F_Rule_init, b_Rule_init := b_Rule_init, m_Rule_init := ha_Rule_init, i_Rule_init := hi_Rule_init, F_Rule___eq__ := F_Rule___eq__, b_Rule___eq__ := b_Rule___eq__, m_Rule___eq__ := ha_Rule___eq__, i_Rule___eq__ := hi_Rule___eq__, F_Rule___str__ := F_Rule___str__, b_Rule___str__ := b_Rule___str__, m_Rule___str__ := ha_Rule___str__, i_Rule___str__ := hi_Rule___str__, F_Rule_read := F_Rule_read, b_Rule_read := b_Rule_read, fi_Rule_read := hx_fi_Rule_read, sr_Rule_read := hx_sr_Rule_read, sg_Rule_read := hx_sg_Rule_read, pa_Rule_read := ha_Rule_read, pr_Rule_read := ⟨_, hr_Rule_read⟩, F_all_rules := F_all_rules, b_all_rules := b_all_rules, g_all_rules := PySem.W.mg_of X G ha_all_rules, F__law_box := F__law_box, b__law_box := b__law_box, g__law_box := PySem.W.mg_of X G ha__law_box, F__law_take := F__law_take, b__law_take := b__law_take, g__law_take := PySem.W.mg_of X G ha__law_take, F__law_integer := F__law_integer, b__law_integer := b__law_integer, g__law_integer := PySem.W.mg_of X G ha__law_integer, F__law_sign := F__law_sign, b__law_sign := b__law_sign, g__law_sign := PySem.W.mg_of X G ha__law_sign, F__law_words := F__law_words, b__law_words := b__law_words, g__law_words := PySem.W.mg_of X G ha__law_words, F__law_changed := F__law_changed, b__law_changed := b__law_changed, g__law_changed := PySem.W.mg_of X G ha__law_changed, F__law_reading := F__law_reading, b__law_reading := b__law_reading, g__law_reading := PySem.W.mg_of X G ha__law_reading, F__law_is_rule := F__law_is_rule, b__law_is_rule := b__law_is_rule, g__law_is_rule := PySem.W.mg_of X G ha__law_is_rule, F__law_read_right := F__law_read_right, b__law_read_right := b__law_read_right, g__law_read_right := PySem.W.mg_of X G ha__law_read_right, F__law_full := F__law_full, b__law_full := b__law_full, g__law_full := PySem.W.mg_of X G ha__law_full, F__law_all_right := F__law_all_right, b__law_all_right := b__law_all_right, g__law_all_right := PySem.W.mg_of X G ha__law_all_right, F_law := F_law, b_law := b_law, g_law := PySem.W.mg_of X G ha_law, g_ArchiveError := PySem.W.mg_of X G hC_ArchiveError, k_ArchiveError := hK_ArchiveError, g_UnknownError := PySem.W.mg_of X G hC_UnknownError, k_UnknownError := hK_UnknownError, g_TextError := PySem.W.mg_of X G hC_TextError, k_TextError := hK_TextError, g_ImpossibleError := PySem.W.mg_of X G hC_ImpossibleError, k_ImpossibleError := hK_ImpossibleError, g_InvalidText := PySem.W.mg_of X G hC_InvalidText, k_InvalidText := hK_InvalidText, g_InvalidRule := PySem.W.mg_of X G hC_InvalidRule, k_InvalidRule := hK_InvalidRule, g_Rule := PySem.W.mg_of X G hC_Rule, k_Rule := hK_Rule, g_MOST_MARKS := ⟨_, PySem.W.mg_of X G hi0_MOST_MARKS⟩, n_ValueError := PySem.W.mg_none_of X G hn_ValueError, n_abs := PySem.W.mg_none_of X G hn_abs, n_all := PySem.W.mg_none_of X G hn_all, n_any := PySem.W.mg_none_of X G hn_any, n_bool := PySem.W.mg_none_of X G hn_bool, n_enumerate := PySem.W.mg_none_of X G hn_enumerate, n_int := PySem.W.mg_none_of X G hn_int, n_isinstance := PySem.W.mg_none_of X G hn_isinstance, n_len := PySem.W.mg_none_of X G hn_len, n_list := PySem.W.mg_none_of X G hn_list, n_max := PySem.W.mg_none_of X G hn_max, n_min := PySem.W.mg_none_of X G hn_min, n_range := PySem.W.mg_none_of X G hn_range, n_str := PySem.W.mg_none_of X G hn_str, n_tuple := PySem.W.mg_none_of X G hn_tuple, oxl_InvalidRule := ⟨_, _, _, _, _, _, _, _, _, _, _, _, _, _, _, ol_InvalidRule, or_InvalidRule⟩, xsa_InvalidRule := hx_xsa_InvalidRule, xga_InvalidRule := hx_xga_InvalidRule, xgg_InvalidRule := hx_xgg_InvalidRule, xbe_InvalidRule := hx_xbe_InvalidRule, xty_InvalidRule := hx_xty_InvalidRule, xhd_InvalidRule := hx_xhd_InvalidRule, xca_InvalidRule := hx_xca_InvalidRule, xmo_InvalidRule := hx_xmo_InvalidRule, xti_InvalidRule := hx_xti_InvalidRule, oxl_InvalidText := ⟨_, _, _, _, _, _, _, _, _, _, _, _, _, _, _, ol_InvalidText, or_InvalidText⟩, xsa_InvalidText := hx_xsa_InvalidText, xga_InvalidText := hx_xga_InvalidText, xgg_InvalidText := hx_xgg_InvalidText, xbe_InvalidText := hx_xbe_InvalidText, xty_InvalidText := hx_xty_InvalidText, xhd_InvalidText := hx_xhd_InvalidText, xca_InvalidText := hx_xca_InvalidText, xmo_InvalidText := hx_xmo_InvalidText, xti_InvalidText := hx_xti_InvalidText, cn_ := hx_cn_, ct_ := hx_ct_, ymk_Rule := hx_ymk_Rule, ypg_Rule := hx_ypg_Rule, yhd_Rule := hx_yhd_Rule, ypo_Rule := hx_ypo_Rule, ysa_Rule := hx_ysa_Rule, ysf_Rule := hx_ysf_Rule, yca_Rule := hx_yca_Rule, ymo_Rule := hx_ymo_Rule, e_InvalidRule_at := hx_e_InvalidRule_at, e_InvalidText_text := hx_e_InvalidText_text, z_InvalidRule_ImpossibleError := hx_z_InvalidRule_ImpossibleError, z_InvalidRule_InvalidRule := hx_z_InvalidRule_InvalidRule, z_InvalidRule_TextError := hx_z_InvalidRule_TextError, z_InvalidRule_UnknownError := hx_z_InvalidRule_UnknownError, z_InvalidRule_ValueError := hx_z_InvalidRule_ValueError, m_InvalidRule_ArchiveError := hx_m_InvalidRule_ArchiveError, m_InvalidRule_InvalidText := hx_m_InvalidRule_InvalidText, z_InvalidText_ImpossibleError := hx_z_InvalidText_ImpossibleError, z_InvalidText_InvalidRule := hx_z_InvalidText_InvalidRule, z_InvalidText_TextError := hx_z_InvalidText_TextError, z_InvalidText_UnknownError := hx_z_InvalidText_UnknownError, z_InvalidText_ValueError := hx_z_InvalidText_ValueError, m_InvalidText_ArchiveError := hx_m_InvalidText_ArchiveError, m_InvalidText_InvalidText := hx_m_InvalidText_InvalidText, zo_Rule_ImpossibleError := hx_zo_Rule_ImpossibleError, zo_Rule_InvalidRule := hx_zo_Rule_InvalidRule, zo_Rule_Rule := hx_zo_Rule_Rule, zo_Rule_TextError := hx_zo_Rule_TextError, zo_Rule_UnknownError := hx_zo_Rule_UnknownError, zo_Rule_ValueError := hx_zo_Rule_ValueError, zo_Rule_bool := hx_zo_Rule_bool, zo_Rule_int := hx_zo_Rule_int, zo_Rule_list := hx_zo_Rule_list, zo_Rule_str := hx_zo_Rule_str, zo_Rule_tuple := hx_zo_Rule_tuple, no_Rule_terms := hx_no_Rule_terms, ne_Rule := hx_ne_Rule }
  exact ⟨D.d_law, fun s v => .of_eq rfl, fun base _ _ => ok_law (D := D) T⟩
end
theorem walk {l : PySem.W.OpenLaw} {q : Program} {loose : List Str} {XP : (Str → Option Value) → Heap → Prop} {YP : World → Heap → Prop} {d : DefRec} {K : Params → PySem.W.Frag} (hn : l.most = some 63) (hdf : d.params.defaults = [])
    (hY : ∀ (w : World) (h : Heap), YP w h → (K w.params).In h)
    (F : ∀ (w : World) (mg : Str → Option Value) (fa : Addr) (h : Heap), (K w.params).In h → h.Ns mainGlobals mg → mg d.name = some (.ref fa) →
      ∃ fd : FuncData, (∀ (s : Shared) (u : Value), BindsTo s fd ⟨[u], []⟩ [("_law_script", u)]) ∧ ∀ base : Heap, (K w.params).In base → base.Ns mainGlobals mg → FnOk l.prog w (K w.params) mg base CX0 9 fa fd ["_law_script"] (spLaw (K w.params))) :
    PySem.W.WalkO q loose XP YP l.row.toRowW d [] (fun f vs => PySem.call f vs) :=
  L2.walk_of (n := 63) (k := 9) (x := "_law_script") (CX := fun _ => CX0) (sp := fun w => spLaw (K w.params)) hn (by decide) hdf ⟨rfl, by decide, by decide⟩ hY F (fun _ _ a ns hl _ hS => ⟨a, ns, rfl, hS, hl, fun _ => rfl⟩) fun _ _ _ _ _ z => z
end Toy

open PySem PySem.W PyProof.Rows in
set_option maxRecDepth 100000 in
set_option maxHeartbeats 0 in
theorem PySem.Challenge.cw_fittingpasts_k31_rule_texts_holds : PySem.Challenge.rw_fittingpasts_k31_rule_texts.Holds := by
  w_on; o_law; k_head; (case hw => w_witness2)
  k_fill
  refine Toy.walk (l := PySem.Challenge.rw_fittingpasts_k31_rule_texts) rfl rfl (fun w h Y => PySem.W.kIn_of Y) ?F
  case F =>
    intro w mg fa h KX G hmg
    refine' Toy.all_mk KX G hmg ?hC_ArchiveError ?hK_ArchiveError ?hC_UnknownError ?hK_UnknownError ?hC_TextError ?hK_TextError ?hC_ImpossibleError ?hK_ImpossibleError ?hC_InvalidText ?hK_InvalidText ?hC_InvalidRule ?hK_InvalidRule ?hC_Rule ?hK_Rule ?ha_InvalidText_init ?hi_InvalidText_init ?hl_InvalidText_init ?hc_InvalidText_init ?hk_InvalidText_init ?ha_InvalidRule_init ?hi_InvalidRule_init ?hl_InvalidRule_init ?hc_InvalidRule_init ?hk_InvalidRule_init ?ha_is_term ?hl_is_term ?hc_is_term ?hk_is_term ?ha_all_terms ?hl_all_terms ?hc_all_terms ?hk_all_terms ?ha__read_term ?hl__read_term ?hc__read_term ?hk__read_term ?ha_Rule_init ?hi_Rule_init ?hl_Rule_init ?hc_Rule_init ?hk_Rule_init ?ha_Rule___eq__ ?hi_Rule___eq__ ?hl_Rule___eq__ ?hc_Rule___eq__ ?hk_Rule___eq__ ?ha_Rule___str__ ?hi_Rule___str__ ?hl_Rule___str__ ?hc_Rule___str__ ?hk_Rule___str__ ?ha_Rule_read ?hr_Rule_read ?hl_Rule_read ?hc_Rule_read ?hk_Rule_read ?ha_all_rules ?hl_all_rules ?hc_all_rules ?hk_all_rules ?ha__law_box ?hl__law_box ?hc__law_box ?hk__law_box ?ha__law_take ?hl__law_take ?hc__law_take ?hk__law_take ?ha__law_integer ?hl__law_integer ?hc__law_integer ?hk__law_integer ?ha__law_sign ?hl__law_sign ?hc__law_sign ?hk__law_sign ?ha__law_words ?hl__law_words ?hc__law_words ?hk__law_words ?ha__law_changed ?hl__law_changed ?hc__law_changed ?hk__law_changed ?ha__law_reading ?hl__law_reading ?hc__law_reading ?hk__law_reading ?ha__law_is_rule ?hl__law_is_rule ?hc__law_is_rule ?hk__law_is_rule ?ha__law_read_right ?hl__law_read_right ?hc__law_read_right ?hk__law_read_right ?ha__law_full ?hl__law_full ?hc__law_full ?hk__law_full ?ha__law_all_right ?hl__law_all_right ?hc__law_all_right ?hk__law_all_right ?ha_law ?hl_law ?hc_law ?hk_law ?hn_ValueError ?hn_abs ?hn_all ?hn_any ?hn_bool ?hn_enumerate ?hn_int ?hn_isinstance ?hn_len ?hn_list ?hn_max ?hn_min ?hn_range ?hn_str ?hn_tuple ?hi0_MOST_MARKS ?ol_InvalidRule ?or_InvalidRule ?ol_InvalidText ?or_InvalidText ?hx_fi_Rule_read ?hx_sr_Rule_read ?hx_sg_Rule_read ?hx_xsa_InvalidRule ?hx_xga_InvalidRule ?hx_xgg_InvalidRule ?hx_xbe_InvalidRule ?hx_xty_InvalidRule ?hx_xhd_InvalidRule ?hx_xca_InvalidRule ?hx_xmo_InvalidRule ?hx_xti_InvalidRule ?hx_xsa_InvalidText ?hx_xga_InvalidText ?hx_xgg_InvalidText ?hx_xbe_InvalidText ?hx_xty_InvalidText ?hx_xhd_InvalidText ?hx_xca_InvalidText ?hx_xmo_InvalidText ?hx_xti_InvalidText ?hx_cn_ ?hx_ct_ ?hx_ymk_Rule ?hx_ypg_Rule ?hx_yhd_Rule ?hx_ypo_Rule ?hx_ysa_Rule ?hx_ysf_Rule ?hx_yca_Rule ?hx_ymo_Rule ?hx_e_InvalidRule_at ?hx_e_InvalidText_text ?hx_z_InvalidRule_ImpossibleError ?hx_z_InvalidRule_InvalidRule ?hx_z_InvalidRule_TextError ?hx_z_InvalidRule_UnknownError ?hx_z_InvalidRule_ValueError ?hx_m_InvalidRule_ArchiveError ?hx_m_InvalidRule_InvalidText ?hx_z_InvalidText_ImpossibleError ?hx_z_InvalidText_InvalidRule ?hx_z_InvalidText_TextError ?hx_z_InvalidText_UnknownError ?hx_z_InvalidText_ValueError ?hx_m_InvalidText_ArchiveError ?hx_m_InvalidText_InvalidText ?hx_zo_Rule_ImpossibleError ?hx_zo_Rule_InvalidRule ?hx_zo_Rule_Rule ?hx_zo_Rule_TextError ?hx_zo_Rule_UnknownError ?hx_zo_Rule_ValueError ?hx_zo_Rule_bool ?hx_zo_Rule_int ?hx_zo_Rule_list ?hx_zo_Rule_str ?hx_zo_Rule_tuple ?hx_no_Rule_terms ?hx_ne_Rule
    (case hC_ArchiveError => first | k_is | rfl | k_exc)
    (case hK_ArchiveError => first | k_is | rfl | k_exc)
    (case hC_UnknownError => first | k_is | rfl | k_exc)
    (case hK_UnknownError => first | k_is | rfl | k_exc)
    (case hC_TextError => first | k_is | rfl | k_exc)
    (case hK_TextError => first | k_is | rfl | k_exc)
    (case hC_ImpossibleError => first | k_is | rfl | k_exc)
    (case hK_ImpossibleError => first | k_is | rfl | k_exc)
    (case hC_InvalidText => first | k_is | rfl | k_exc)
    (case hK_InvalidText => first | k_is | rfl | k_exc)
    (case hC_InvalidRule => first | k_is | rfl | k_exc)
    (case hK_InvalidRule => first | k_is | rfl | k_exc)
    (case hC_Rule => first | k_is | rfl | k_exc)
    (case hK_Rule => first | k_is | rfl | k_exc)
    (case ha_InvalidText_init => first | k_is | rfl | k_exc)
    (case hi_InvalidText_init => first | k_is | rfl | k_exc)
    (case hl_InvalidText_init => first | k_is | rfl | k_exc)
    (case hc_InvalidText_init => first | k_is | rfl | k_exc)
    (case hk_InvalidText_init => first | k_is | rfl | k_exc)
    (case ha_InvalidRule_init => first | k_is | rfl | k_exc)
    (case hi_InvalidRule_init => first | k_is | rfl | k_exc)
    (case hl_InvalidRule_init => first | k_is | rfl | k_exc)
    (case hc_InvalidRule_init => first | k_is | rfl | k_exc)
    (case hk_InvalidRule_init => first | k_is | rfl | k_exc)
    (case ha_is_term => first | k_is | rfl | k_exc)
    (case hl_is_term => first | k_is | rfl | k_exc)
    (case hc_is_term => first | k_is | rfl | k_exc)
    (case hk_is_term => first | k_is | rfl | k_exc)
    (case ha_all_terms => first | k_is | rfl | k_exc)
    (case hl_all_terms => first | k_is | rfl | k_exc)
    (case hc_all_terms => first | k_is | rfl | k_exc)
    (case hk_all_terms => first | k_is | rfl | k_exc)
    (case ha__read_term => first | k_is | rfl | k_exc)
    (case hl__read_term => first | k_is | rfl | k_exc)
    (case hc__read_term => first | k_is | rfl | k_exc)
    (case hk__read_term => first | k_is | rfl | k_exc)
    (case ha_Rule_init => first | k_is | rfl | k_exc)
    (case hi_Rule_init => first | k_is | rfl | k_exc)
    (case hl_Rule_init => first | k_is | rfl | k_exc)
    (case hc_Rule_init => first | k_is | rfl | k_exc)
    (case hk_Rule_init => first | k_is | rfl | k_exc)
    (case ha_Rule___eq__ => first | k_is | rfl | k_exc)
    (case hi_Rule___eq__ => first | k_is | rfl | k_exc)
    (case hl_Rule___eq__ => first | k_is | rfl | k_exc)
    (case hc_Rule___eq__ => first | k_is | rfl | k_exc)
    (case hk_Rule___eq__ => first | k_is | rfl | k_exc)
    (case ha_Rule___str__ => first | k_is | rfl | k_exc)
    (case hi_Rule___str__ => first | k_is | rfl | k_exc)
    (case hl_Rule___str__ => first | k_is | rfl | k_exc)
    (case hc_Rule___str__ => first | k_is | rfl | k_exc)
    (case hk_Rule___str__ => first | k_is | rfl | k_exc)
    (case ha_Rule_read => first | k_is | rfl | k_exc)
    (case hr_Rule_read => first | k_is | rfl | k_exc)
    (case hl_Rule_read => first | k_is | rfl | k_exc)
    (case hc_Rule_read => first | k_is | rfl | k_exc)
    (case hk_Rule_read => first | k_is | rfl | k_exc)
    (case ha_all_rules => first | k_is | rfl | k_exc)
    (case hl_all_rules => first | k_is | rfl | k_exc)
    (case hc_all_rules => first | k_is | rfl | k_exc)
    (case hk_all_rules => first | k_is | rfl | k_exc)
    (case ha__law_box => first | k_is | rfl | k_exc)
    (case hl__law_box => first | k_is | rfl | k_exc)
    (case hc__law_box => first | k_is | rfl | k_exc)
    (case hk__law_box => first | k_is | rfl | k_exc)
    (case ha__law_take => first | k_is | rfl | k_exc)
    (case hl__law_take => first | k_is | rfl | k_exc)
    (case hc__law_take => first | k_is | rfl | k_exc)
    (case hk__law_take => first | k_is | rfl | k_exc)
    (case ha__law_integer => first | k_is | rfl | k_exc)
    (case hl__law_integer => first | k_is | rfl | k_exc)
    (case hc__law_integer => first | k_is | rfl | k_exc)
    (case hk__law_integer => first | k_is | rfl | k_exc)
    (case ha__law_sign => first | k_is | rfl | k_exc)
    (case hl__law_sign => first | k_is | rfl | k_exc)
    (case hc__law_sign => first | k_is | rfl | k_exc)
    (case hk__law_sign => first | k_is | rfl | k_exc)
    (case ha__law_words => first | k_is | rfl | k_exc)
    (case hl__law_words => first | k_is | rfl | k_exc)
    (case hc__law_words => first | k_is | rfl | k_exc)
    (case hk__law_words => first | k_is | rfl | k_exc)
    (case ha__law_changed => first | k_is | rfl | k_exc)
    (case hl__law_changed => first | k_is | rfl | k_exc)
    (case hc__law_changed => first | k_is | rfl | k_exc)
    (case hk__law_changed => first | k_is | rfl | k_exc)
    (case ha__law_reading => first | k_is | rfl | k_exc)
    (case hl__law_reading => first | k_is | rfl | k_exc)
    (case hc__law_reading => first | k_is | rfl | k_exc)
    (case hk__law_reading => first | k_is | rfl | k_exc)
    (case ha__law_is_rule => first | k_is | rfl | k_exc)
    (case hl__law_is_rule => first | k_is | rfl | k_exc)
    (case hc__law_is_rule => first | k_is | rfl | k_exc)
    (case hk__law_is_rule => first | k_is | rfl | k_exc)
    (case ha__law_read_right => first | k_is | rfl | k_exc)
    (case hl__law_read_right => first | k_is | rfl | k_exc)
    (case hc__law_read_right => first | k_is | rfl | k_exc)
    (case hk__law_read_right => first | k_is | rfl | k_exc)
    (case ha__law_full => first | k_is | rfl | k_exc)
    (case hl__law_full => first | k_is | rfl | k_exc)
    (case hc__law_full => first | k_is | rfl | k_exc)
    (case hk__law_full => first | k_is | rfl | k_exc)
    (case ha__law_all_right => first | k_is | rfl | k_exc)
    (case hl__law_all_right => first | k_is | rfl | k_exc)
    (case hc__law_all_right => first | k_is | rfl | k_exc)
    (case hk__law_all_right => first | k_is | rfl | k_exc)
    (case ha_law => first | k_is | rfl | k_exc)
    (case hl_law => first | k_is | rfl | k_exc)
    (case hc_law => first | k_is | rfl | k_exc)
    (case hk_law => first | k_is | rfl | k_exc)
    (case hn_ValueError => first | k_is | rfl | k_exc)
    (case hn_abs => first | k_is | rfl | k_exc)
    (case hn_all => first | k_is | rfl | k_exc)
    (case hn_any => first | k_is | rfl | k_exc)
    (case hn_bool => first | k_is | rfl | k_exc)
    (case hn_enumerate => first | k_is | rfl | k_exc)
    (case hn_int => first | k_is | rfl | k_exc)
    (case hn_isinstance => first | k_is | rfl | k_exc)
    (case hn_len => first | k_is | rfl | k_exc)
    (case hn_list => first | k_is | rfl | k_exc)
    (case hn_max => first | k_is | rfl | k_exc)
    (case hn_min => first | k_is | rfl | k_exc)
    (case hn_range => first | k_is | rfl | k_exc)
    (case hn_str => first | k_is | rfl | k_exc)
    (case hn_tuple => first | k_is | rfl | k_exc)
    (case hi0_MOST_MARKS => first | k_is | rfl | k_exc)
    (case ol_InvalidRule => first | k_is | rfl | k_exc)
    (case or_InvalidRule => decide +kernel)
    (case ol_InvalidText => first | k_is | rfl | k_exc)
    (case or_InvalidText => decide +kernel)
    (case hx_fi_Rule_read => first | k_is | rfl | k_exc)
    (case hx_sr_Rule_read => first | k_is | rfl | k_exc)
    (case hx_sg_Rule_read => first | k_is | rfl | k_exc)
    (case hx_xsa_InvalidRule => first | k_is | rfl | k_exc)
    (case hx_xga_InvalidRule => first | k_is | rfl | k_exc)
    (case hx_xgg_InvalidRule => first | k_is | rfl | k_exc)
    (case hx_xbe_InvalidRule => first | k_is | rfl | k_exc)
    (case hx_xty_InvalidRule => first | k_is | rfl | k_exc)
    (case hx_xhd_InvalidRule => first | k_is | rfl | k_exc)
    (case hx_xca_InvalidRule => first | k_is | rfl | k_exc)
    (case hx_xmo_InvalidRule => first | k_is | rfl | k_exc)
    (case hx_xti_InvalidRule => first | k_is | rfl | k_exc)
    (case hx_xsa_InvalidText => first | k_is | rfl | k_exc)
    (case hx_xga_InvalidText => first | k_is | rfl | k_exc)
    (case hx_xgg_InvalidText => first | k_is | rfl | k_exc)
    (case hx_xbe_InvalidText => first | k_is | rfl | k_exc)
    (case hx_xty_InvalidText => first | k_is | rfl | k_exc)
    (case hx_xhd_InvalidText => first | k_is | rfl | k_exc)
    (case hx_xca_InvalidText => first | k_is | rfl | k_exc)
    (case hx_xmo_InvalidText => first | k_is | rfl | k_exc)
    (case hx_xti_InvalidText => first | k_is | rfl | k_exc)
    (case hx_cn_ => first | k_is | rfl | k_exc)
    (case hx_ct_ => first | k_is | rfl | k_exc)
    (case hx_ymk_Rule => first | k_is | rfl | k_exc)
    (case hx_ypg_Rule => first | k_is | rfl | k_exc)
    (case hx_yhd_Rule => first | k_is | rfl | k_exc)
    (case hx_ypo_Rule => first | k_is | rfl | k_exc)
    (case hx_ysa_Rule => first | k_is | rfl | k_exc)
    (case hx_ysf_Rule => first | k_is | rfl | k_exc)
    (case hx_yca_Rule => first | k_is | rfl | k_exc)
    (case hx_ymo_Rule => first | k_is | rfl | k_exc)
    (case hx_e_InvalidRule_at => first | k_is | rfl | k_exc)
    (case hx_e_InvalidText_text => first | k_is | rfl | k_exc)
    (case hx_z_InvalidRule_ImpossibleError => first | k_is | rfl | k_exc)
    (case hx_z_InvalidRule_InvalidRule => first | k_is | rfl | k_exc)
    (case hx_z_InvalidRule_TextError => first | k_is | rfl | k_exc)
    (case hx_z_InvalidRule_UnknownError => first | k_is | rfl | k_exc)
    (case hx_z_InvalidRule_ValueError => first | k_is | rfl | k_exc)
    (case hx_m_InvalidRule_ArchiveError => first | k_is | rfl | k_exc)
    (case hx_m_InvalidRule_InvalidText => first | k_is | rfl | k_exc)
    (case hx_z_InvalidText_ImpossibleError => first | k_is | rfl | k_exc)
    (case hx_z_InvalidText_InvalidRule => first | k_is | rfl | k_exc)
    (case hx_z_InvalidText_TextError => first | k_is | rfl | k_exc)
    (case hx_z_InvalidText_UnknownError => first | k_is | rfl | k_exc)
    (case hx_z_InvalidText_ValueError => first | k_is | rfl | k_exc)
    (case hx_m_InvalidText_ArchiveError => first | k_is | rfl | k_exc)
    (case hx_m_InvalidText_InvalidText => first | k_is | rfl | k_exc)
    (case hx_zo_Rule_ImpossibleError => first | k_is | rfl | k_exc)
    (case hx_zo_Rule_InvalidRule => first | k_is | rfl | k_exc)
    (case hx_zo_Rule_Rule => first | k_is | rfl | k_exc)
    (case hx_zo_Rule_TextError => first | k_is | rfl | k_exc)
    (case hx_zo_Rule_UnknownError => first | k_is | rfl | k_exc)
    (case hx_zo_Rule_ValueError => first | k_is | rfl | k_exc)
    (case hx_zo_Rule_bool => first | k_is | rfl | k_exc)
    (case hx_zo_Rule_int => first | k_is | rfl | k_exc)
    (case hx_zo_Rule_list => first | k_is | rfl | k_exc)
    (case hx_zo_Rule_str => first | k_is | rfl | k_exc)
    (case hx_zo_Rule_tuple => first | k_is | rfl | k_exc)
    (case hx_no_Rule_terms => first | k_is | rfl | k_exc)
    (case hx_ne_Rule => first | k_is | rfl | k_exc)
